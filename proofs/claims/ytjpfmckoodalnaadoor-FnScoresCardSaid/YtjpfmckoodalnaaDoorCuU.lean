/-
  The reference's cursor draws combat tables that may be spoilt: what it draws reads as a table, in memory of its own.
-/
import Derived.Test.YtjpfmckoodalnaaDoorCuT
namespace Go.Proofs.YtjpfmckoodalnaaDoor
open Go.RowKit

theorem OwnC.grown {w w' : World} {base b : Nat} {c r : Value} {co : List (Int × Int)} {rs : List (List Int)} {vs : List Value} (h : OwnC w base c r co rs vs) (k : w.grownBy w' (some b)) (h1 : c.ownBlock ≠ some b) (h2 : r.ownBlock ≠ some b) (h3 : ∀ (j : Nat) (x : Value), vs[j]? = some x → x.ownBlock ≠ some b) : OwnC w' base c r co rs vs :=
  ⟨World.ownsRow.kept h.oc k (.inr h1), ⟨World.ownsRow.kept h.or.row k (.inr h2), fun i x l hx hl => World.ownsRow.kept (h.or.inn i x l hx hl) k (.inr (h3 i x hx)), h.or.out, h.or.two⟩, h.cr, h.ci⟩
/-- All its blocks lie in the world. -/
theorem OwnC.lt {w : World} {base b : Nat} {c r : Value} {co : List (Int × Int)} {rs : List (List Int)} {vs : List Value} (h : OwnC w base c r co rs vs) (hb : w.heap.size ≤ b) : c.ownBlock ≠ some b ∧ r.ownBlock ≠ some b ∧ ∀ (j : Nat) (x : Value), vs[j]? = some x → x.ownBlock ≠ some b :=
  ⟨fun e => by have := (World.ownsRow.lt h.oc b e).2; omega, fun e => by have := (World.ownsRow.lt h.or.row b e).2; omega, fun j x hx e => by
    have hl : rs[j]? = some (rs[j]'(by have := lt_at hx; have := h.or.len; omega)) := List.getElem?_eq_getElem _
    have := (World.ownsRow.lt (h.or.inn j x _ hx hl) b e).2
    omega⟩
theorem OwnC.ge {w : World} {base b : Nat} {c r : Value} {co : List (Int × Int)} {rs : List (List Int)} {vs : List Value} (h : OwnC w base c r co rs vs) (hb : b < base) : c.ownBlock ≠ some b ∧ r.ownBlock ≠ some b ∧ ∀ (j : Nat) (x : Value), vs[j]? = some x → x.ownBlock ≠ some b :=
  ⟨fun e => by have := (World.ownsRow.lt h.oc b e).1; omega, fun e => by have := (World.ownsRow.lt h.or.row b e).1; omega, fun j x hx e => by
    have hl : rs[j]? = some (rs[j]'(by have := lt_at hx; have := h.or.len; omega)) := List.getElem?_eq_getElem _
    have := (World.ownsRow.lt (h.or.inn j x _ hx hl) b e).1
    omega⟩
theorem OwnC.draw {w w' : World} {base g : Nat} {c r : Value} {co : List (Int × Int)} {rs : List (List Int)} {vs : List Value} (h : OwnC w base c r co rs vs) (k : w.grownBy w' (some g)) (hg : g < base) : OwnC w' base c r co rs vs :=
  h.grown k (h.ge hg).1 (h.ge hg).2.1 (h.ge hg).2.2

theorem four_at (w : World) (x y z u lo hi : Int) (T : TypeId) (hx : lo ≤ x ∧ x ≤ hi) (hy : lo ≤ y ∧ y ≤ hi) (hz : lo ≤ z ∧ z ≤ hi) (hu : lo ≤ u ∧ u ≤ hi) :
    ∀ i : Nat, i < 4 → ∃ v : Int, lo ≤ v ∧ v ≤ hi ∧ (w.alloc (.cells #[.int .i64 x, .int .i64 y, .int .i64 z, .int .i64 u] T)).cell? ⟨w.heap.size, 0 + i, none⟩ = some (.int .i64 v)
  | 0, _ => ⟨x, hx.1, hx.2, by simp [go_sem]⟩
  | 1, _ => ⟨y, hy.1, hy.2, by simp [go_sem]⟩
  | 2, _ => ⟨z, hz.1, hz.2, by simp [go_sem]⟩
  | 3, _ => ⟨u, hu.1, hu.2, by simp [go_sem]⟩
/-- A number put into a row. -/
theorem CtPut {w : World} {base a bx M cx k : Nat} {c r : Value} {co : List (Int × Int)} {rs : List (List Int)} {vs : List Value} {l : List Int} (h : OwnC w base c r co rs vs) (hx : vs[a]? = some (.slice (some ⟨bx, 0, none⟩) M cx)) (hl : rs[a]? = some l) (hM : l.length = M) (hk : k < M) (z : Int) :
    (∃ u, w.cell? ⟨bx, k, none⟩ = some u) ∧ w.frozen? ⟨bx, k, none⟩ = false ∧ base ≤ bx ∧ bx < w.heap.size ∧ OwnC (w.setCell ⟨bx, k, none⟩ (.int .i64 z)) base c r co (rs.set a (l.set k z)) vs := by
  have ho := h.or.inn a _ l hx hl
  have hb := World.ownsRow.lt ho bx rfl
  obtain ⟨p1, p2, p3⟩ := OwnI.put ho hM hk z
  have k9 := grown_set w bx k (.int .i64 z)
  refine ⟨p1, p2, hb.1, hb.2, World.ownsRow.kept h.oc k9 (by
      cases hv : c.ownBlock
      · exact .inl rfl
      · rename_i q
        refine .inr fun e => ?_
        obtain rfl := Option.some.inj e
        exact h.ci _ hv a _ hx rfl), OwnII.put h.or hx hl rfl p3 (by rw [List.length_set]), h.cr, h.ci⟩
/-- A row of the table put in another's place: what an append to it gives. -/
theorem OwnC.swap {w w' : World} {base a bx br R cr q : Nat} {c x x' : Value} {co : List (Int × Int)} {rs : List (List Int)} {vs : List Value} {l' : List Int} (h : OwnC w base c (.slice (some ⟨br, 0, none⟩) R cr) co rs vs) (hx : vs[a]? = some x) (hbx : x.ownBlock = some bx) (k : w.grownBy w' (some bx)) (hn : OwnI w' base x' l') (hR : rs.length = R) (ha : x'.ownBlock = some bx ∨ x'.ownBlock = some q) (hq : w.heap.size ≤ q) :
    (∃ u, w'.cell? ⟨br, a, none⟩ = some u) ∧ w'.frozen? ⟨br, a, none⟩ = false ∧ OwnC (w'.setCell ⟨br, a, none⟩ x') base c (.slice (some ⟨br, 0, none⟩) R cr) co (rs.set a l') (vs.set a x') := by
  have hlen := h.or.len
  have hav := lt_at hx
  have row1 : w'.ownsRow base 41 1 (.slice (some ⟨br, 0, none⟩) R cr) R vs := by
    have := World.ownsRow.kept h.or.row k (.inr (h.or.out a x bx hx hbx))
    rw [hR] at this
    exact this
  obtain ⟨l1, l2⟩ := liveN1 row1 (j := a) (by omega)
  obtain ⟨o2, g2⟩ := row1.stored a x'
  have clt : ∀ b, c.ownBlock = some b → b < w.heap.size := fun b e => (World.ownsRow.lt h.oc b e).2
  have hbr : br < w.heap.size := (World.ownsRow.lt h.or.row br rfl).2
  have ylt : ∀ (i : Nat) (y : Value) (b : Nat), vs[i]? = some y → y.ownBlock = some b → b < w.heap.size := fun i y b hy e => by
    have hl2 : rs[i]? = some (rs[i]'(by have := lt_at hy; omega)) := List.getElem?_eq_getElem _
    exact (World.ownsRow.lt (h.or.inn i y _ hy hl2) b e).2
  have hxr : x'.ownBlock ≠ some br := fun e => by
    rcases ha with ha | ha
    · rw [ha] at e
      exact h.or.out a x bx hx hbx (by rw [Option.some.inj e]; rfl)
    · rw [ha] at e
      have := Option.some.inj e
      omega
  refine ⟨l1, l2, World.ownsRow.kept (World.ownsRow.kept h.oc k (.inr fun e => h.ci bx e a x hx hbx)) g2 (.inr fun e => h.cr br e rfl), ⟨by rw [List.length_set, hR]; exact o2, fun i y m hy hm => ?_, fun i y b hy e => ?_, fun i j y z b hij hy hz e => ?_⟩, h.cr, fun b e j y hy e2 => ?_⟩
  · by_cases e : a = i
    · subst e
      rw [List.getElem?_set, if_pos rfl, if_pos hav] at hy
      rw [List.getElem?_set, if_pos rfl, if_pos (by omega)] at hm
      obtain rfl := Option.some.inj hy
      obtain rfl := Option.some.inj hm
      exact World.ownsRow.kept hn g2 (.inr hxr)
    · rw [List.getElem?_set, if_neg e] at hy hm
      exact World.ownsRow.kept (World.ownsRow.kept (h.or.inn i y m hy hm) k (.inr fun e2 => h.or.two i a y x bx (fun e3 => e e3.symm) hy hx e2 hbx)) g2 (.inr fun e2 => h.or.out i y br hy e2 rfl)
  · intro e2
    have e3 : br = b := Option.some.inj e2
    subst e3
    by_cases e4 : a = i
    · subst e4
      rw [List.getElem?_set, if_pos rfl, if_pos hav] at hy
      obtain rfl := Option.some.inj hy
      exact hxr e
    · rw [List.getElem?_set, if_neg e4] at hy
      exact h.or.out i y _ hy e rfl
  · intro e2
    by_cases e4 : a = i
    · subst e4
      rw [List.getElem?_set, if_pos rfl, if_pos hav] at hy
      rw [List.getElem?_set, if_neg hij] at hz
      obtain rfl := Option.some.inj hy
      rcases ha with ha | ha
      · rw [ha] at e
        obtain rfl := Option.some.inj e
        exact h.or.two a j x z _ hij hx hz hbx e2
      · rw [ha] at e
        obtain rfl := Option.some.inj e
        have := ylt j z _ hz e2
        omega
    · rw [List.getElem?_set, if_neg e4] at hy
      by_cases e5 : a = j
      · subst e5
        rw [List.getElem?_set, if_pos rfl, if_pos hav] at hz
        obtain rfl := Option.some.inj hz
        rcases ha with ha | ha
        · rw [ha] at e2
          obtain rfl := Option.some.inj e2
          exact h.or.two i a y x _ hij hy hx e hbx
        · rw [ha] at e2
          obtain rfl := Option.some.inj e2
          have := ylt i y _ hy e
          omega
      · rw [List.getElem?_set, if_neg e5] at hz
        exact h.or.two i j y z b hij hy hz e e2
  · by_cases e4 : a = j
    · subst e4
      rw [List.getElem?_set, if_pos rfl, if_pos hav] at hy
      obtain rfl := Option.some.inj hy
      rcases ha with ha | ha
      · rw [ha] at e2
        obtain rfl := Option.some.inj e2
        exact h.ci _ e a x hx hbx
      · rw [ha] at e2
        obtain rfl := Option.some.inj e2
        have := clt _ e
        omega
    · rw [List.getElem?_set, if_neg e4] at hy
      exact h.ci b e j y hy e2
theorem step_append_ownD {P : Program} {o : Oper} {a : Act} {w : World} {K : Act → World → Prop} {Q : Exit → Act → World → Prop} (s x : Operand) (t : TypeId)
    (ho : o.op = .call { callee := .builtin .append, args := #[s, x], argTypes := #[t, t] })
    (base : Nat) (e : TypeId) (i : TypeInfo) (z : Value) (size bytes : Nat) (ht : P.underlying t = some (.slice e)) (hi : P.info? e = some i) (hz : i.zero = some z)
    (hsize : i.size = size) (hby : i.bytes = bytes) (hzs : z.cells.size = size) (hsz : 0 < size)
    (v : Value) (n : Nat) (xs : List Value) (hs : a.eval s = v) (hown : w.ownsRow base e size v n xs)
    (ad : Addr) (m c : Nat) (news : List Value) (hx : a.eval x = .slice (some ad) m c) (hl : news.length = m * size) (hnews : ∀ j u, news[j]? = some u → w.cell? (ad.add j) = some u) (h1 : ∀ u ∈ news, u.oneCell' = true)
    (h63 : n + m ≤ maxLen) (hbytes : (n + m) * bytes ≤ 140737488355328) (hbase : base ≤ w.heap.size)
    (h : ∀ v' w', w'.ownsRow base e size v' (n + m) (xs ++ news) → w.grownBy w' v.ownBlock → (v'.ownBlock = v.ownBlock ∨ v'.ownBlock = some w.heap.size) → K (a.put o.dst v') w') : Oper.wp P o a w K Q := by
  obtain ⟨v', w', hr, h2, h3, _, h5⟩ := run_append_own_at (P := P) (w := w) base t o.type e i z size bytes ht hi hz hsize hby hzs hsz v n xs hown ad m c news hl hnews h1 h63 hbytes hbase
  unfold Oper.wp execOp
  simp only [ho, resolve, invoke, builtin, Sem.run_bind, Sem.run_pure, Result.andThen_ok, List.map_toArray, List.map_cons, List.map_nil, hs, hx, hr]
  exact h v' w' h2 h3 h5
/-- Four numbers of a list at hand. -/
def Ls (w : World) (p : Nat) : Prop := ∀ i : Nat, i < 4 → ∃ v : Int, 0 ≤ v ∧ v ≤ 21 ∧ w.cell? ⟨p, 0 + i, none⟩ = some (.int .i64 v)
theorem Ls.keep {w w' : World} {p : Nat} (h : Ls w p) (k : Kp w w') : Ls w' p := fun i hi => by
  obtain ⟨v, a, b, c⟩ := h i hi
  exact ⟨v, a, b, k.cell c⟩
theorem Ls.draw {w w' : World} {p g : Nat} (h : Ls w p) (k : w.grownBy w' (some g)) (hp : p ≠ g) : Ls w' p := fun i hi => by
  obtain ⟨v, a, b, c⟩ := h i hi
  exact ⟨v, a, b, k.cell c (fun e => hp (Option.some.inj e))⟩
/-- A table in its box, ahead of its return. -/
structure AS (w wx : World) (base g K b3 : Nat) (c r : Value) (d : Int) (co : List (Int × Int)) (rs : List (List Int)) (vs : List Value) : Prop where
  oc : OwnC wx (w.heap.size + 1) c r co rs vs
  cu : Cu wx base g K
  gg : w.grownBy wx (some g)
  bl : Live3 wx b3 c (.int .i64 d) r
  rl : Live3 wx w.heap.size (.slice none 0 0) (.int .i64 0) (.slice none 0 0)
theorem AS.keep {w wx wy : World} {base g K b3 : Nat} {c r : Value} {d : Int} {co : List (Int × Int)} {rs : List (List Int)} {vs : List Value} (h : AS w wx base g K b3 c r d co rs vs) (k : Kp wx wy) : AS w wy base g K b3 c r d co rs vs :=
  ⟨h.oc.keep k, h.cu.keep k, grown_keep h.gg k, live3_keep k h.bl, live3_keep k h.rl⟩
theorem AS.draw {w wx wy : World} {base g K K' b3 : Nat} {c r : Value} {d : Int} {co : List (Int × Int)} {rs : List (List Int)} {vs : List Value} (h : AS w wx base g K b3 c r d co rs vs) (k : wx.grownBy wy (some g)) (cu : Cu wy base g K') (h1 : g < w.heap.size) (h2 : g < b3) : AS w wy base g K' b3 c r d co rs vs :=
  ⟨h.oc.draw k (by omega), cu, h.gg.trans k, live3_grown k (fun e => by have := Option.some.inj e; omega) h.bl, live3_grown k (fun e => by have := Option.some.inj e; omega) h.rl⟩
theorem OwnC.put0 {w : World} {base bc M cc : Nat} {r : Value} {co : List (Int × Int)} {rs : List (List Int)} {vs : List Value} (h : OwnC w base (.slice (some ⟨bc, 0, none⟩) M cc) r co rs vs) (hM : co.length = M) (h0 : 0 < M) (x y : Int) :
    (∃ u, w.cell? ⟨bc, 0, none⟩ = some u) ∧ w.frozen? ⟨bc, 0, none⟩ = false ∧ (∃ u, w.cell? ⟨bc, 1, none⟩ = some u) ∧ w.frozen? ⟨bc, 1, none⟩ = false ∧ ∃ co' : List (Int × Int), co'.length = M ∧ OwnC ((w.setCell ⟨bc, 0, none⟩ (.int .i64 x)).setCell ⟨bc, 1, none⟩ (.int .i64 y)) base (.slice (some ⟨bc, 0, none⟩) M cc) r co' rs vs := by
  obtain ⟨p, t, rfl⟩ : ∃ p t, co = p :: t := by
    cases co with
    | nil => simp at hM; omega
    | cons p t => exact ⟨p, t, rfl⟩
  have ho : w.ownsRow base 63 2 (.slice (some ⟨bc, 0, none⟩) M cc) M (cellsH (p :: t)) := by have := h.oc; unfold OwnO at this; rw [hM] at this; exact this
  have hl := ho.1
  obtain ⟨o1, g1⟩ := ho.stored 0 (.int .i64 x)
  obtain ⟨o2, g2⟩ := o1.stored 1 (.int .i64 y)
  have G := g1.trans g2
  refine ⟨⟨_, (ho.cellAt 0 (by omega)).trans (List.getElem?_eq_getElem (by omega))⟩, ho.frozenAt 0, ⟨_, (ho.cellAt 1 (by omega)).trans (List.getElem?_eq_getElem (by omega))⟩, ho.frozenAt 1, (x, y) :: t, hM, ?_, ⟨World.ownsRow.kept h.or.row G (.inr fun e => h.cr bc rfl e), fun i z l hz hl => World.ownsRow.kept (h.or.inn i z l hz hl) G (.inr fun e => h.ci bc rfl i z hz e), h.or.out, h.or.two⟩, h.cr, h.ci⟩
  unfold OwnO
  rw [show ((x, y) :: t).length = M from hM]
  exact o2
/-- A table drawn, spoilt or not. -/
def TabA (base g K : Nat) (w : World) (e : Ending) (w' : World) : Prop :=
  ∃ (c r : Value) (d : Int) (co : List (Int × Int)) (rs : List (List Int)) (vs : List Value), e = .returned (cv c d r) ∧ OwnC w' w.heap.size c r co rs vs ∧ isI64 d ∧ co.length ≤ 10 ∧ rs.length ≤ 11 ∧ (∀ l ∈ rs, l.length ≤ 6) ∧ Cu w' base g K ∧ w.grownBy w' (some g)

set_option maxRecDepth 100000 in
set_option maxHeartbeats 4000000 in
theorem anyCombatTable_any (base g K : Nat) (w : World) (h : Cu w base g K) (hb : base ≤ w.heap.size) (hK : K ≤ 700) :
    Calls Tryd.prog 21 #[.pointer (some ⟨g, 0, none⟩)] w (TabA base g (K + 203) w) := by
  have glt := h.lt
  have k0 : Kp w (w.alloc (.cells #[.slice none 0 0, .int .i64 0, .slice none 0 0] 26)) := (Kp.refl w).alloc _
  have r0 : Live3 (w.alloc (.cells #[.slice none 0 0, .int .i64 0, .slice none 0 0] 26)) w.heap.size (.slice none 0 0) (.int .i64 0) (.slice none 0 0) := ⟨by simp [go_sem], by simp [go_sem], by simp [go_sem]⟩
  have CT := combatTable_any base g K _ (h.keep k0) (by simp; omega) (by omega)
  unfold TabD at CT
  have HC := Lib.hid CT
  have G0 := Lib.hid (grown_keep (World.grownBy.refl w (some g)) k0)
  have hs0 : (w.alloc (.cells #[.slice none 0 0, .int .i64 0, .slice none 0 0] 26)).heap.size = w.heap.size + 1 := by simp
  clear h k0 CT
  go_enter Tryd.func21, Tryd.ntmps21
  go_wp2_with fail
  generalize w.alloc (.cells #[.slice none 0 0, .int .i64 0, .slice none 0 0] 26) = W0 at *
  refine HC.out.mono ?_
  rintro e1 w1 ⟨c, r, d, co, rs, vs, rfl, oc, hco, hd, hrs, hrow, cu1, g1⟩
  clear HC
  rw [hs0] at oc
  have hR : 6 ≤ rs.length ∧ rs.length ≤ 11 := by omega
  obtain ⟨M, hM⟩ : ∃ M, co.length = M := ⟨_, rfl⟩
  obtain ⟨R, hRl⟩ : ∃ R, rs.length = R := ⟨_, rfl⟩
  rw [hM] at hco
  rw [hRl] at hR
  obtain ⟨bc, cc, rfl⟩ := own_row (n := M) (e := 63) (sz := 2) (xs := cellsH co) (by have := oc.oc; unfold OwnO at this; rw [hM] at this; exact this) (by omega)
  obtain ⟨br, cr, rfl⟩ := own_row (n := R) (e := 41) (sz := 1) (xs := vs) (by have := oc.or.row; rw [hRl] at this; exact this) (by omega)
  have HM := Lib.hid hM
  have HR := Lib.hid hRl
  have HRW := Lib.hid hrow
  have HD := Lib.hid hd
  have r1 := live3_grown g1 (fun e => by have := Option.some.inj e; omega) r0
  have ka : Kp w1 (w1.alloc (.cells #[.slice (some ⟨bc, 0, none⟩) M cc, .int .i64 d, .slice (some ⟨br, 0, none⟩) R cr] 26)) := (Kp.refl w1).alloc _
  have b1 : Live3 (w1.alloc (.cells #[.slice (some ⟨bc, 0, none⟩) M cc, .int .i64 d, .slice (some ⟨br, 0, none⟩) R cr] 26)) w1.heap.size (.slice (some ⟨bc, 0, none⟩) M cc) (.int .i64 d) (.slice (some ⟨br, 0, none⟩) R cr) := ⟨by simp [go_sem], by simp [go_sem], by simp [go_sem]⟩
  have r2 := live3_keep ka r1
  have OC := Lib.hid (oc.keep ka)
  have HB3 := Lib.hid (oc.lt (Nat.le_refl _))
  have CU := Lib.hid (cu1.keep ka)
  have GG := Lib.hid (grown_keep (G0.out.trans g1) ka)
  have hs1 := g1.size
  have hsA : (w1.alloc (.cells #[.slice (some ⟨bc, 0, none⟩) M cc, .int .i64 d, .slice (some ⟨br, 0, none⟩) R cr] 26)).heap.size = w1.heap.size + 1 := by simp
  clear r0 G0 oc hM hRl hrow hrs hd cu1 g1 r1 ka
  go_wp2_with fail
  generalize w1.alloc (.cells #[.slice (some ⟨bc, 0, none⟩) M cc, .int .i64 d, .slice (some ⟨br, 0, none⟩) R cr] 26) = W1 at *
  generalize w1.heap.size = b3 at *
  refine (pickC base g (K + 200) 24 _ CU.out (by omega) (by omega) (by omega)).mono ?_
  rintro e2 w2 ⟨z, rfl, z0, z1, cu2, g2⟩
  have r3 := live3_grown g2 (fun e => by have := Option.some.inj e; omega) r2
  have b2 := live3_grown g2 (fun e => by have := Option.some.inj e; omega) b1
  have OC2 := Lib.hid (OC.out.draw g2 (by omega))
  have CU2 := Lib.hid cu2
  have GG2 := Lib.hid (GG.out.trans g2)
  have hs2 := g2.size
  clear OC CU GG cu2 g2 r2 b1
  have FIN : Hid (∀ (wx : World) (K2 : Nat) (c r : Value) (d : Int) (co : List (Int × Int)) (rs : List (List Int)) (vs : List Value), K2 ≤ K + 203 → isI64 d → co.length ≤ 10 → rs.length ≤ 11 → (∀ l ∈ rs, l.length ≤ 6) → OwnC wx (w.heap.size + 1) c r co rs vs → Cu wx base g K2 → w.grownBy wx (some g) → TabA base g (K + 203) w (.returned (cv c d r)) (((wx.setCell ⟨w.heap.size, 0, none⟩ c).setCell ⟨w.heap.size, 1, none⟩ (.int .i64 d)).setCell ⟨w.heap.size, 2, none⟩ r)) := Lib.hid fun wx K2 c r d co rs vs hK2 hd h1 h2 h3 ho cu gr => by
    have hr : ∀ (r : Nat), some w.heap.size = some r → base ≤ r ∧ w.heap.size ≤ r := fun r e => by have := Option.some.inj e; omega
    refine ⟨_, _, d, co, rs, vs, rfl, (((ho.far (by omega) _).far (by omega) _).far (by omega) _).base (by omega), hd, h1, h2, h3, ?_, ?_⟩
    · exact (((cu.own (grown_set _ _ _ _) (fun r e => (hr r e).1)).own (grown_set _ _ _ _) (fun r e => (hr r e).1)).own (grown_set _ _ _ _) (fun r e => (hr r e).1)).le hK2
    · exact gw_own (gw_own (gw_own gr (grown_set _ _ _ _) (fun r e => (hr r e).2)) (grown_set _ _ _ _) (fun r e => (hr r e).2)) (grown_set _ _ _ _) (fun r e => (hr r e).2)
  have fin0 : Hid (∀ (wx : World) (K2 : Nat) (d : Int), K2 ≤ K + 203 → isI64 d → OwnC wx (w.heap.size + 1) (.slice (some ⟨bc, 0, none⟩) M cc) (.slice (some ⟨br, 0, none⟩) R cr) co rs vs → Cu wx base g K2 → w.grownBy wx (some g) → TabA base g (K + 203) w (.returned (cv (.slice (some ⟨bc, 0, none⟩) M cc) d (.slice (some ⟨br, 0, none⟩) R cr))) (((wx.setCell ⟨w.heap.size, 0, none⟩ (.slice (some ⟨bc, 0, none⟩) M cc)).setCell ⟨w.heap.size, 1, none⟩ (.int .i64 d)).setCell ⟨w.heap.size, 2, none⟩ (.slice (some ⟨br, 0, none⟩) R cr))) := Lib.hid fun wx K2 d hK2 hd ho cu gr => FIN.out wx K2 _ _ d co rs vs hK2 hd (by have := HM.out; omega) (by have := HR.out; omega) (fun l hl => by have := HRW.out l hl; have := HM.out; omega) ho cu gr
  by_cases h0 : z = 0
  · subst h0
    have A0 := Lib.hid ((show AS w w2 base g (K + 200 + 1) b3 (.slice (some ⟨bc, 0, none⟩) M cc) (.slice (some ⟨br, 0, none⟩) R cr) d co rs vs from ⟨OC2.out, CU2.out, GG2.out, b2, r3⟩).keep ((Kp.refl w2).drew))
    have hsd : w2.heap.size ≤ w2.drew.heap.size := Nat.le_refl _
    have hbc : w.heap.size + 1 ≤ bc ∧ bc ≠ b3 := ⟨(World.ownsRow.lt OC2.out.oc bc rfl).1, fun e => HB3.out.1 (by rw [e]; rfl)⟩
    have hM0 : 0 < M := by omega
    have S0 : w2.drew.cell? ⟨b3, 0, none⟩ = some (.slice (some ⟨bc, 0, none⟩) M cc) := A0.out.bl.1.1
    clear OC2 CU2 GG2 b2 r3
    go_wp2_with fail
    refine wp_region_held_drew (S := (fun w' => w'.cell? ⟨b3, 0, none⟩ = some (.slice (some ⟨bc, 0, none⟩) M cc))) (by kernel_rfl) S0 (fun hHeld => ?_)
    generalize w2.drew = v0 at *
    refine wpAnyH_take (i := 0) (oi := ⟨some 10, _, _, _, _, _⟩) (v := ?_) rfl (by kernel_rfl) (by kernel_rfl) (by kernel_rfl) (fun _ _ _ h => h) (Or.inl ⟨by rfl, ?_⟩) (by assumption) ?_
    rotate_left
    · intro w hSw; (try dsimp only at hSw); go_simp; (all_goals with_reducible rfl)
    simp only [Act.put, List.setIfInBounds_toArray, List.set_cons_zero, List.set_cons_succ]
    refine wpAnyH_take (i := 1) (oi := ⟨some 11, _, _, _, _, _⟩) (v := ?_) rfl (by kernel_rfl) (by kernel_rfl) (by kernel_rfl) (fun _ _ _ h => h) (Or.inl ⟨by rfl, ?_⟩) (by assumption) ?_
    rotate_left
    · intro w hSw; (try dsimp only at hSw); go_simp; (all_goals with_reducible rfl)
    simp only [Act.put, List.setIfInBounds_toArray, List.set_cons_zero, List.set_cons_succ]
    refine wpAnyH_take (i := 2) (oi := ⟨some 12, _, _, _, _, _⟩) (v := ?_) rfl (by kernel_rfl) (by kernel_rfl) (by kernel_rfl) (fun _ _ _ h => h) (Or.inl ⟨by rfl, ?_⟩) (by assumption) ?_
    rotate_left
    · intro w hSw; (try dsimp only at hSw); go_simp; (all_goals with_reducible rfl)
    simp only [Act.put, List.setIfInBounds_toArray, List.set_cons_zero, List.set_cons_succ]
    refine wpAnyH_take (i := 5) (oi := ⟨some 15, _, _, _, _, _⟩) (v := ?_) rfl (by kernel_rfl) (by kernel_rfl) (by kernel_rfl) (fun _ _ _ h => h) (Or.inl ⟨by rfl, ?_⟩) (by assumption) ?_
    rotate_left
    · intro w hSw; (try dsimp only at hSw); go_simp; (all_goals with_reducible rfl)
    simp only [Act.put, List.setIfInBounds_toArray, List.set_cons_zero, List.set_cons_succ]
    have A := A0
    clear A0
    refine wpAnyH_ready (rs := [3, 6]) (by kernel_rfl) (by simp) ?_
    refine (AllReadyH.cons (o := ⟨some 13, _, _, _, _, _⟩) rfl (fun Kx hKx => ?_) (AllReadyH.cons (o := ⟨some 16, _, _, _, _, _⟩) rfl (fun Kx hKx => ?_) AllReadyH.nil))
    · go_simp
      go_wp2_with fail
      have ka1 := (Kp.refl v0).alloc (.cells #[.int .i64 0, .int .i64 20, .int .i64 21, .int .i64 1] 3)
      have hz1 : v0.heap.size < (World.alloc v0 (.cells #[.int .i64 0, .int .i64 20, .int .i64 21, .int .i64 1] 3)).heap.size := by simp
      have B1 := Lib.hid (A.out.keep ka1)
      clear A
      have A := B1
      clear B1
      have L1 : Ls _ v0.heap.size := four_at v0 0 20 21 1 0 21 3 (by omega) (by omega) (by omega) (by omega)
      refine hKx.out _ _ ?_ (fun hHeld => ?_)
      · exact A.out.bl.1.1
      clear hKx Kx
      try simp only [Act.put, List.setIfInBounds_toArray, List.set_cons_zero, List.set_cons_succ]
      generalize hW1 : World.alloc v0 (.cells #[.int .i64 0, .int .i64 20, .int .i64 21, .int .i64 1] 3) = v1 at *
      clear hW1
      refine wpAnyH_ready (rs := [4, 6]) (by kernel_rfl) (by simp) ?_
      refine (AllReadyH.cons (o := ⟨some 14, _, _, _, _, _⟩) rfl (fun Kx hKx => ?_) (AllReadyH.cons (o := ⟨some 16, _, _, _, _, _⟩) rfl (fun Kx hKx => ?_) AllReadyH.nil))
      · go_simp
        refine (amongC base g (K + 200 + 1) v0.heap.size 0 4 4 0 21 _ A.out.cu (by omega) (by omega) (by omega) L1 (by omega)).mono ?_
        rintro e2 v2 ⟨x, rfl, x0, x1, cu2, g2⟩
        have B2 := Lib.hid (A.out.draw g2 cu2 (by omega) (by omega))
        clear A
        have A := B2
        clear B2
        have hz2 := g2.size
        go_wp2_with fail
        refine hKx.out _ _ ?_ (fun hHeld => ?_)
        · exact A.out.bl.1.1
        clear hKx Kx
        try simp only [Act.put, List.setIfInBounds_toArray, List.set_cons_zero, List.set_cons_succ]
        refine wpAnyH_ready (rs := [6]) (by kernel_rfl) (by simp) ?_
        refine AllReadyH.cons (o := ⟨some 16, _, _, _, _, _⟩) rfl (fun Kx hKx => ?_) AllReadyH.nil
        go_simp
        go_wp2_with fail
        have ka3 := (Kp.refl v2).alloc (.cells #[.int .i64 0, .int .i64 20, .int .i64 21, .int .i64 1] 3)
        have hz3 : v2.heap.size < (World.alloc v2 (.cells #[.int .i64 0, .int .i64 20, .int .i64 21, .int .i64 1] 3)).heap.size := by simp
        have B3 := Lib.hid (A.out.keep ka3)
        clear A
        have A := B3
        clear B3
        have L3 : Ls _ v2.heap.size := four_at v2 0 20 21 1 0 21 3 (by omega) (by omega) (by omega) (by omega)
        refine hKx.out _ _ ?_ (fun hHeld => ?_)
        · exact A.out.bl.1.1
        clear hKx Kx
        try simp only [Act.put, List.setIfInBounds_toArray, List.set_cons_zero, List.set_cons_succ]
        generalize hW3 : World.alloc v2 (.cells #[.int .i64 0, .int .i64 20, .int .i64 21, .int .i64 1] 3) = v3 at *
        clear hW3
        refine wpAnyH_ready (rs := [7]) (by kernel_rfl) (by simp) ?_
        refine AllReadyH.cons (o := ⟨some 17, _, _, _, _, _⟩) rfl (fun Kx hKx => ?_) AllReadyH.nil
        go_simp
        refine (amongC base g (K + 200 + 1 + 1) v2.heap.size 0 4 4 0 21 _ A.out.cu (by omega) (by omega) (by omega) L3 (by omega)).mono ?_
        rintro e4 v4 ⟨y, rfl, y0, y1, cu4, g4⟩
        have B4 := Lib.hid (A.out.draw g4 cu4 (by omega) (by omega))
        clear A
        have A := B4
        clear B4
        have hz4 := g4.size
        go_wp2_with fail
        refine hKx.out _ _ ?_ (fun hHeld => ?_)
        · exact A.out.bl.1.1
        clear hKx Kx
        try simp only [Act.put, List.setIfInBounds_toArray, List.set_cons_zero, List.set_cons_succ]
        refine wpAnyH_take (i := 8) (oi := ⟨some 18, _, _, _, _, _⟩) (v := ?_) rfl (by kernel_rfl) (by kernel_rfl) (by kernel_rfl) (fun _ _ _ h => h) (Or.inl ⟨by rfl, ?_⟩) (by assumption) ?_
        rotate_left
        · intro w hSw; (try dsimp only at hSw); go_simp; (all_goals with_reducible rfl)
        simp only [Act.put, List.setIfInBounds_toArray, List.set_cons_zero, List.set_cons_succ]
        refine wpAnyH_take (i := 9) (oi := ⟨some 19, _, _, _, _, _⟩) (v := ?_) rfl (by kernel_rfl) (by kernel_rfl) (by kernel_rfl) (fun _ _ _ h => h) (Or.inl ⟨by rfl, ?_⟩) (by assumption) ?_
        rotate_left
        · intro w hSw; (try dsimp only at hSw); go_simp; (all_goals with_reducible rfl)
        simp only [Act.put, List.setIfInBounds_toArray, List.set_cons_zero, List.set_cons_succ]
        obtain ⟨⟨u1, hu1⟩, hf1, ⟨u2, hu2⟩, hf2, co', hco', OC3⟩ := OwnC.put0 A.out.oc HM.out hM0 x y
        have k8 := grown_set v4 bc 0 (.int .i64 x)
        have k9 := grown_set (v4.setCell ⟨bc, 0, none⟩ (.int .i64 x)) bc 1 (.int .i64 y)
        have b4 := live3_grown k9 (fun e => by have := Option.some.inj e; omega) (live3_grown k8 (fun e => by have := Option.some.inj e; omega) A.out.bl)
        have r4 := live3_grown k9 (fun e => by have := Option.some.inj e; omega) (live3_grown k8 (fun e => by have := Option.some.inj e; omega) A.out.rl)
        have S4 := b4.1.1
        have CU3 := Lib.hid ((A.out.cu.own k8 (fun r e => by have := Option.some.inj e; omega)).own k9 (fun r e => by have := Option.some.inj e; omega))
        have GG3 := Lib.hid (gw_own (gw_own A.out.gg k8 (fun r e => by have := Option.some.inj e; omega)) k9 (fun r e => by have := Option.some.inj e; omega))
        have OC4 := Lib.hid OC3
        have HCO := Lib.hid hco'
        clear A OC3 k8 k9 hco'
        refine wpAnyH_ready (rs := [10]) (by kernel_rfl) (by simp) ?_
        refine AllReadyH.cons (o := ⟨none, _, _, _, _, _⟩) rfl (fun Kx hKx => ?_) AllReadyH.nil
        go_simp
        go_wp2_with fail
        refine hKx.out _ _ ?_ (fun hHeld => ?_)
        · exact S4
        clear hKx Kx
        try simp only [Act.put, List.setIfInBounds_toArray, List.set_cons_zero, List.set_cons_succ]
        refine wpAnyH_done (by kernel_rfl) ?_ _
        clear S0 S4
        go_wp2_with fail
        exact bodyPost_ret (v := cv (.slice (some ⟨bc, 0, none⟩) M cc) d (.slice (some ⟨br, 0, none⟩) R cr)) (by simp [results, Tryd.results21, go_sem, *]) rfl (FIN.out _ _ _ _ d _ _ _ (by omega) (by have := HD.out; unfold isI64; omega) (by have := HCO.out; omega) (by have := HR.out; omega) (fun m hm => by have := HRW.out m hm; have := HM.out; omega) OC4.out CU3.out GG3.out)
      · go_simp
        go_wp2_with fail
        have ka2 := (Kp.refl v1).alloc (.cells #[.int .i64 0, .int .i64 20, .int .i64 21, .int .i64 1] 3)
        have hz2 : v1.heap.size < (World.alloc v1 (.cells #[.int .i64 0, .int .i64 20, .int .i64 21, .int .i64 1] 3)).heap.size := by simp
        have B2 := Lib.hid (A.out.keep ka2)
        clear A
        have A := B2
        clear B2
        have NL1 := L1.keep ka2
        clear L1
        have L1 := NL1
        clear NL1
        have L2 : Ls _ v1.heap.size := four_at v1 0 20 21 1 0 21 3 (by omega) (by omega) (by omega) (by omega)
        refine hKx.out _ _ ?_ (fun hHeld => ?_)
        · exact A.out.bl.1.1
        clear hKx Kx
        try simp only [Act.put, List.setIfInBounds_toArray, List.set_cons_zero, List.set_cons_succ]
        generalize hW2 : World.alloc v1 (.cells #[.int .i64 0, .int .i64 20, .int .i64 21, .int .i64 1] 3) = v2 at *
        clear hW2
        refine wpAnyH_ready (rs := [4]) (by kernel_rfl) (by simp) ?_
        refine AllReadyH.cons (o := ⟨some 14, _, _, _, _, _⟩) rfl (fun Kx hKx => ?_) AllReadyH.nil
        go_simp
        refine (amongC base g (K + 200 + 1) v0.heap.size 0 4 4 0 21 _ A.out.cu (by omega) (by omega) (by omega) L1 (by omega)).mono ?_
        rintro e3 v3 ⟨x, rfl, x0, x1, cu3, g3⟩
        have B3 := Lib.hid (A.out.draw g3 cu3 (by omega) (by omega))
        clear A
        have A := B3
        clear B3
        have hz3 := g3.size
        have NL2 := L2.draw g3 (by omega)
        clear L2
        have L2 := NL2
        clear NL2
        go_wp2_with fail
        refine hKx.out _ _ ?_ (fun hHeld => ?_)
        · exact A.out.bl.1.1
        clear hKx Kx
        try simp only [Act.put, List.setIfInBounds_toArray, List.set_cons_zero, List.set_cons_succ]
        refine wpAnyH_ready (rs := [7]) (by kernel_rfl) (by simp) ?_
        refine AllReadyH.cons (o := ⟨some 17, _, _, _, _, _⟩) rfl (fun Kx hKx => ?_) AllReadyH.nil
        go_simp
        refine (amongC base g (K + 200 + 1 + 1) v1.heap.size 0 4 4 0 21 _ A.out.cu (by omega) (by omega) (by omega) L2 (by omega)).mono ?_
        rintro e4 v4 ⟨y, rfl, y0, y1, cu4, g4⟩
        have B4 := Lib.hid (A.out.draw g4 cu4 (by omega) (by omega))
        clear A
        have A := B4
        clear B4
        have hz4 := g4.size
        go_wp2_with fail
        refine hKx.out _ _ ?_ (fun hHeld => ?_)
        · exact A.out.bl.1.1
        clear hKx Kx
        try simp only [Act.put, List.setIfInBounds_toArray, List.set_cons_zero, List.set_cons_succ]
        refine wpAnyH_take (i := 8) (oi := ⟨some 18, _, _, _, _, _⟩) (v := ?_) rfl (by kernel_rfl) (by kernel_rfl) (by kernel_rfl) (fun _ _ _ h => h) (Or.inl ⟨by rfl, ?_⟩) (by assumption) ?_
        rotate_left
        · intro w hSw; (try dsimp only at hSw); go_simp; (all_goals with_reducible rfl)
        simp only [Act.put, List.setIfInBounds_toArray, List.set_cons_zero, List.set_cons_succ]
        refine wpAnyH_take (i := 9) (oi := ⟨some 19, _, _, _, _, _⟩) (v := ?_) rfl (by kernel_rfl) (by kernel_rfl) (by kernel_rfl) (fun _ _ _ h => h) (Or.inl ⟨by rfl, ?_⟩) (by assumption) ?_
        rotate_left
        · intro w hSw; (try dsimp only at hSw); go_simp; (all_goals with_reducible rfl)
        simp only [Act.put, List.setIfInBounds_toArray, List.set_cons_zero, List.set_cons_succ]
        obtain ⟨⟨u1, hu1⟩, hf1, ⟨u2, hu2⟩, hf2, co', hco', OC3⟩ := OwnC.put0 A.out.oc HM.out hM0 x y
        have k8 := grown_set v4 bc 0 (.int .i64 x)
        have k9 := grown_set (v4.setCell ⟨bc, 0, none⟩ (.int .i64 x)) bc 1 (.int .i64 y)
        have b4 := live3_grown k9 (fun e => by have := Option.some.inj e; omega) (live3_grown k8 (fun e => by have := Option.some.inj e; omega) A.out.bl)
        have r4 := live3_grown k9 (fun e => by have := Option.some.inj e; omega) (live3_grown k8 (fun e => by have := Option.some.inj e; omega) A.out.rl)
        have S4 := b4.1.1
        have CU3 := Lib.hid ((A.out.cu.own k8 (fun r e => by have := Option.some.inj e; omega)).own k9 (fun r e => by have := Option.some.inj e; omega))
        have GG3 := Lib.hid (gw_own (gw_own A.out.gg k8 (fun r e => by have := Option.some.inj e; omega)) k9 (fun r e => by have := Option.some.inj e; omega))
        have OC4 := Lib.hid OC3
        have HCO := Lib.hid hco'
        clear A OC3 k8 k9 hco'
        refine wpAnyH_ready (rs := [10]) (by kernel_rfl) (by simp) ?_
        refine AllReadyH.cons (o := ⟨none, _, _, _, _, _⟩) rfl (fun Kx hKx => ?_) AllReadyH.nil
        go_simp
        go_wp2_with fail
        refine hKx.out _ _ ?_ (fun hHeld => ?_)
        · exact S4
        clear hKx Kx
        try simp only [Act.put, List.setIfInBounds_toArray, List.set_cons_zero, List.set_cons_succ]
        refine wpAnyH_done (by kernel_rfl) ?_ _
        clear S0 S4
        go_wp2_with fail
        exact bodyPost_ret (v := cv (.slice (some ⟨bc, 0, none⟩) M cc) d (.slice (some ⟨br, 0, none⟩) R cr)) (by simp [results, Tryd.results21, go_sem, *]) rfl (FIN.out _ _ _ _ d _ _ _ (by omega) (by have := HD.out; unfold isI64; omega) (by have := HCO.out; omega) (by have := HR.out; omega) (fun m hm => by have := HRW.out m hm; have := HM.out; omega) OC4.out CU3.out GG3.out)
    · go_simp
      go_wp2_with fail
      have ka1 := (Kp.refl v0).alloc (.cells #[.int .i64 0, .int .i64 20, .int .i64 21, .int .i64 1] 3)
      have hz1 : v0.heap.size < (World.alloc v0 (.cells #[.int .i64 0, .int .i64 20, .int .i64 21, .int .i64 1] 3)).heap.size := by simp
      have B1 := Lib.hid (A.out.keep ka1)
      clear A
      have A := B1
      clear B1
      have L1 : Ls _ v0.heap.size := four_at v0 0 20 21 1 0 21 3 (by omega) (by omega) (by omega) (by omega)
      refine hKx.out _ _ ?_ (fun hHeld => ?_)
      · exact A.out.bl.1.1
      clear hKx Kx
      try simp only [Act.put, List.setIfInBounds_toArray, List.set_cons_zero, List.set_cons_succ]
      generalize hW1 : World.alloc v0 (.cells #[.int .i64 0, .int .i64 20, .int .i64 21, .int .i64 1] 3) = v1 at *
      clear hW1
      refine wpAnyH_ready (rs := [3]) (by kernel_rfl) (by simp) ?_
      refine AllReadyH.cons (o := ⟨some 13, _, _, _, _, _⟩) rfl (fun Kx hKx => ?_) AllReadyH.nil
      go_simp
      go_wp2_with fail
      have ka2 := (Kp.refl v1).alloc (.cells #[.int .i64 0, .int .i64 20, .int .i64 21, .int .i64 1] 3)
      have hz2 : v1.heap.size < (World.alloc v1 (.cells #[.int .i64 0, .int .i64 20, .int .i64 21, .int .i64 1] 3)).heap.size := by simp
      have B2 := Lib.hid (A.out.keep ka2)
      clear A
      have A := B2
      clear B2
      have NL1 := L1.keep ka2
      clear L1
      have L1 := NL1
      clear NL1
      have L2 : Ls _ v1.heap.size := four_at v1 0 20 21 1 0 21 3 (by omega) (by omega) (by omega) (by omega)
      refine hKx.out _ _ ?_ (fun hHeld => ?_)
      · exact A.out.bl.1.1
      clear hKx Kx
      try simp only [Act.put, List.setIfInBounds_toArray, List.set_cons_zero, List.set_cons_succ]
      generalize hW2 : World.alloc v1 (.cells #[.int .i64 0, .int .i64 20, .int .i64 21, .int .i64 1] 3) = v2 at *
      clear hW2
      refine wpAnyH_ready (rs := [4]) (by kernel_rfl) (by simp) ?_
      refine AllReadyH.cons (o := ⟨some 14, _, _, _, _, _⟩) rfl (fun Kx hKx => ?_) AllReadyH.nil
      go_simp
      refine (amongC base g (K + 200 + 1) v1.heap.size 0 4 4 0 21 _ A.out.cu (by omega) (by omega) (by omega) L2 (by omega)).mono ?_
      rintro e3 v3 ⟨x, rfl, x0, x1, cu3, g3⟩
      have B3 := Lib.hid (A.out.draw g3 cu3 (by omega) (by omega))
      clear A
      have A := B3
      clear B3
      have hz3 := g3.size
      have NL1 := L1.draw g3 (by omega)
      clear L1
      have L1 := NL1
      clear NL1
      go_wp2_with fail
      refine hKx.out _ _ ?_ (fun hHeld => ?_)
      · exact A.out.bl.1.1
      clear hKx Kx
      try simp only [Act.put, List.setIfInBounds_toArray, List.set_cons_zero, List.set_cons_succ]
      refine wpAnyH_ready (rs := [7]) (by kernel_rfl) (by simp) ?_
      refine AllReadyH.cons (o := ⟨some 17, _, _, _, _, _⟩) rfl (fun Kx hKx => ?_) AllReadyH.nil
      go_simp
      refine (amongC base g (K + 200 + 1 + 1) v0.heap.size 0 4 4 0 21 _ A.out.cu (by omega) (by omega) (by omega) L1 (by omega)).mono ?_
      rintro e4 v4 ⟨y, rfl, y0, y1, cu4, g4⟩
      have B4 := Lib.hid (A.out.draw g4 cu4 (by omega) (by omega))
      clear A
      have A := B4
      clear B4
      have hz4 := g4.size
      go_wp2_with fail
      refine hKx.out _ _ ?_ (fun hHeld => ?_)
      · exact A.out.bl.1.1
      clear hKx Kx
      try simp only [Act.put, List.setIfInBounds_toArray, List.set_cons_zero, List.set_cons_succ]
      refine wpAnyH_take (i := 8) (oi := ⟨some 18, _, _, _, _, _⟩) (v := ?_) rfl (by kernel_rfl) (by kernel_rfl) (by kernel_rfl) (fun _ _ _ h => h) (Or.inl ⟨by rfl, ?_⟩) (by assumption) ?_
      rotate_left
      · intro w hSw; (try dsimp only at hSw); go_simp; (all_goals with_reducible rfl)
      simp only [Act.put, List.setIfInBounds_toArray, List.set_cons_zero, List.set_cons_succ]
      refine wpAnyH_take (i := 9) (oi := ⟨some 19, _, _, _, _, _⟩) (v := ?_) rfl (by kernel_rfl) (by kernel_rfl) (by kernel_rfl) (fun _ _ _ h => h) (Or.inl ⟨by rfl, ?_⟩) (by assumption) ?_
      rotate_left
      · intro w hSw; (try dsimp only at hSw); go_simp; (all_goals with_reducible rfl)
      simp only [Act.put, List.setIfInBounds_toArray, List.set_cons_zero, List.set_cons_succ]
      obtain ⟨⟨u1, hu1⟩, hf1, ⟨u2, hu2⟩, hf2, co', hco', OC3⟩ := OwnC.put0 A.out.oc HM.out hM0 x y
      have k8 := grown_set v4 bc 0 (.int .i64 x)
      have k9 := grown_set (v4.setCell ⟨bc, 0, none⟩ (.int .i64 x)) bc 1 (.int .i64 y)
      have b4 := live3_grown k9 (fun e => by have := Option.some.inj e; omega) (live3_grown k8 (fun e => by have := Option.some.inj e; omega) A.out.bl)
      have r4 := live3_grown k9 (fun e => by have := Option.some.inj e; omega) (live3_grown k8 (fun e => by have := Option.some.inj e; omega) A.out.rl)
      have S4 := b4.1.1
      have CU3 := Lib.hid ((A.out.cu.own k8 (fun r e => by have := Option.some.inj e; omega)).own k9 (fun r e => by have := Option.some.inj e; omega))
      have GG3 := Lib.hid (gw_own (gw_own A.out.gg k8 (fun r e => by have := Option.some.inj e; omega)) k9 (fun r e => by have := Option.some.inj e; omega))
      have OC4 := Lib.hid OC3
      have HCO := Lib.hid hco'
      clear A OC3 k8 k9 hco'
      refine wpAnyH_ready (rs := [10]) (by kernel_rfl) (by simp) ?_
      refine AllReadyH.cons (o := ⟨none, _, _, _, _, _⟩) rfl (fun Kx hKx => ?_) AllReadyH.nil
      go_simp
      go_wp2_with fail
      refine hKx.out _ _ ?_ (fun hHeld => ?_)
      · exact S4
      clear hKx Kx
      try simp only [Act.put, List.setIfInBounds_toArray, List.set_cons_zero, List.set_cons_succ]
      refine wpAnyH_done (by kernel_rfl) ?_ _
      clear S0 S4
      go_wp2_with fail
      exact bodyPost_ret (v := cv (.slice (some ⟨bc, 0, none⟩) M cc) d (.slice (some ⟨br, 0, none⟩) R cr)) (by simp [results, Tryd.results21, go_sem, *]) rfl (FIN.out _ _ _ _ d _ _ _ (by omega) (by have := HD.out; unfold isI64; omega) (by have := HCO.out; omega) (by have := HR.out; omega) (fun m hm => by have := HRW.out m hm; have := HM.out; omega) OC4.out CU3.out GG3.out)
  have h0e : (z == 0) = false := by simpa using h0
  by_cases h1 : z = 1
  · subst h1
    have ka : Kp w2 (w2.alloc (.cells #[.int .i64 0, .int .i64 1, .int .i64 2, .int .i64 3] 3)) := (Kp.refl w2).alloc _
    go_wp2_with fail
    refine (amongC base g (K + 201) w2.heap.size 0 4 4 0 3 _ (CU2.out.keep ka) (by omega) (by omega) (by omega) (four_at w2 0 1 2 3 0 3 _ (by omega) (by omega) (by omega) (by omega)) (by omega)).mono ?_
    rintro e3 w3 ⟨v, rfl, v0, v1, cu3, g3⟩
    have b4 := live3_grown g3 (fun e => by have := Option.some.inj e; omega) (live3_keep ka b2)
    have r4 := live3_grown g3 (fun e => by have := Option.some.inj e; omega) (live3_keep ka r3)
    have k9 := grown_set w3 b3 1 (.int .i64 v)
    have r5 := live3_grown k9 (fun e => by have := Option.some.inj e; omega) r4
    have OC3 := Lib.hid (((OC2.out.keep ka).draw g3 (by omega)).grown k9 HB3.out.1 HB3.out.2.1 HB3.out.2.2)
    have CU3 := Lib.hid (cu3.own k9 (fun r e => by have := Option.some.inj e; omega))
    have GG3 := Lib.hid (gw_own ((grown_keep GG2.out ka).trans g3) k9 (fun r e => by have := Option.some.inj e; omega))
    clear ka cu3 g3 k9 r4 b2 r3 OC2 CU2 GG2
    go_wp2_with fail
    exact bodyPost_ret (v := cv (.slice (some ⟨bc, 0, none⟩) M cc) v (.slice (some ⟨br, 0, none⟩) R cr)) (by simp [results, Tryd.results21, go_sem, *]) rfl (fin0.out _ _ _ (by omega) (by unfold isI64; omega) OC3.out CU3.out GG3.out)
  have h1e : (z == 1) = false := by simpa using h1
  by_cases h2 : z = 2
  · subst h2
    have kd : Kp w2 w2.drew := (Kp.refl w2).drew
    have OCd := Lib.hid (OC2.out.keep kd)
    have CUd := Lib.hid (CU2.out.keep kd)
    have GGd := Lib.hid (grown_keep GG2.out kd)
    have bd := live3_keep kd b2
    have rd := live3_keep kd r3
    have hsd : w2.heap.size ≤ w2.drew.heap.size := Nat.le_refl _
    obtain ⟨x, hx⟩ : ∃ x, vs[0]? = some x := ⟨_, List.getElem?_eq_getElem (show 0 < vs.length by have := OC2.out.or.len; have := HR.out; omega)⟩
    obtain ⟨l, hl⟩ : ∃ l, rs[0]? = some l := ⟨_, List.getElem?_eq_getElem (show 0 < rs.length by have := HR.out; omega)⟩
    have hlM : Hid (l.length = M) := Lib.hid (by have := HRW.out l (List.mem_of_getElem? hl); rw [this, HM.out])
    obtain ⟨bx, cx, rfl⟩ := own_row (n := M) (e := 3) (sz := 1) (xs := cellsI l) (by have := OC2.out.or.inn 0 x l hx hl; unfold OwnI at this; rw [hlM.out] at this; exact this) (by omega)
    have hbx : w.heap.size + 1 ≤ bx ∧ bx < w2.heap.size := World.ownsRow.lt (OC2.out.or.inn 0 _ l hx hl) bx rfl
    have hxb3 : bx ≠ b3 := fun e => HB3.out.2.2 0 _ hx (by rw [e]; rfl)
    have hxbr : br ≠ bx := fun e => OC2.out.or.out 0 _ bx hx rfl (by rw [e]; rfl)
    have hbrb : w.heap.size + 1 ≤ br ∧ br ≠ b3 := ⟨(World.ownsRow.lt OC2.out.or.row br rfl).1, fun e => HB3.out.2.1 (by rw [e]; rfl)⟩
    have hR0 : 0 < R := by omega
    have orow : w2.drew.ownsRow (w.heap.size + 1) 41 1 (.slice (some ⟨br, 0, none⟩) R cr) R vs := by have := OCd.out.or.row; rw [HR.out] at this; exact this
    have cx0 : w2.drew.cell? ⟨br, 0, none⟩ = some (.slice (some ⟨bx, 0, none⟩) M cx) := (World.ownsRow.cellAt orow 0 (by omega)).trans hx
    have S0 : w2.drew.cell? ⟨b3, 2, none⟩ = some (.slice (some ⟨br, 0, none⟩) R cr) ∧ w2.drew.cell? ⟨br, 0, none⟩ = some (.slice (some ⟨bx, 0, none⟩) M cx) := ⟨bd.2.2.1, cx0⟩
    clear kd OC2 CU2 GG2 b2 r3 orow cx0
    go_wp2_with fail
    refine wp_region_held_drew (S := fun w' => w'.cell? ⟨b3, 2, none⟩ = some (.slice (some ⟨br, 0, none⟩) R cr) ∧ w'.cell? ⟨br, 0, none⟩ = some (.slice (some ⟨bx, 0, none⟩) M cx)) (by kernel_rfl) S0 (fun hHeld => ?_)
    generalize w2.drew = wv at *
    refine wpAnyH_take (i := 0) (oi := ⟨some 28, _, _, _, _, _⟩) (v := ?_) rfl (by kernel_rfl) (by kernel_rfl) (by kernel_rfl) (fun _ _ _ h => h) (Or.inl ⟨by rfl, ?_⟩) (by assumption) ?_
    rotate_left
    · intro w hSw; (try dsimp only at hSw); go_simp; (all_goals with_reducible rfl)
    simp only [Act.put, List.setIfInBounds_toArray, List.set_cons_zero, List.set_cons_succ]
    refine wpAnyH_take (i := 1) (oi := ⟨some 29, _, _, _, _, _⟩) (v := ?_) rfl (by kernel_rfl) (by kernel_rfl) (by kernel_rfl) (fun _ _ _ h => h) (Or.inl ⟨by rfl, ?_⟩) (by assumption) ?_
    rotate_left
    · intro w hSw; (try dsimp only at hSw); obtain ⟨hS1, hS2⟩ := hSw; go_simp; (all_goals with_reducible rfl)
    simp only [Act.put, List.setIfInBounds_toArray, List.set_cons_zero, List.set_cons_succ]
    refine wpAnyH_take (i := 2) (oi := ⟨some 30, _, _, _, _, _⟩) (v := ?_) rfl (by kernel_rfl) (by kernel_rfl) (by kernel_rfl) (fun _ _ _ h => h) (Or.inl ⟨by rfl, ?_⟩) (by assumption) ?_
    rotate_left
    · intro w hSw; (try dsimp only at hSw); go_simp; (all_goals with_reducible rfl)
    simp only [Act.put, List.setIfInBounds_toArray, List.set_cons_zero, List.set_cons_succ]
    refine wpAnyH_take (i := 3) (oi := ⟨some 31, _, _, _, _, _⟩) (v := ?_) rfl (by kernel_rfl) (by kernel_rfl) (by kernel_rfl) (fun _ _ _ h => h) (Or.inl ⟨by rfl, ?_⟩) (by assumption) ?_
    rotate_left
    · intro w hSw; (try dsimp only at hSw); obtain ⟨hS1, hS2⟩ := hSw; go_simp; (all_goals with_reducible rfl)
    simp only [Act.put, List.setIfInBounds_toArray, List.set_cons_zero, List.set_cons_succ]
    refine wpAnyH_take (i := 4) (oi := ⟨some 32, _, _, _, _, _⟩) (v := ?_) rfl (by kernel_rfl) (by kernel_rfl) (by kernel_rfl) (fun _ _ _ h => h) (Or.inl ⟨by rfl, ?_⟩) (by assumption) ?_
    rotate_left
    · intro w hSw; (try dsimp only at hSw); go_simp; (all_goals with_reducible rfl)
    simp only [Act.put, List.setIfInBounds_toArray, List.set_cons_zero, List.set_cons_succ]
    have ka : Kp wv (wv.alloc (.cells #[.int .i64 (-1), .int .i64 7, .int .i64 8] 3)) := (Kp.refl wv).alloc _
    refine wpAnyH_ready (rs := [5]) (by kernel_rfl) (by simp) ?_
    refine AllReadyH.cons (o := ⟨some 33, _, _, _, _, _⟩) rfl (fun Kx hKx => ?_) AllReadyH.nil
    go_simp
    go_wp2_with fail
    refine hKx.out _ _ ?_ (fun hHeld => ?_)
    · exact ⟨ka.cell S0.1, ka.cell S0.2⟩
    clear hKx Kx
    try simp only [Act.put, List.setIfInBounds_toArray, List.set_cons_zero, List.set_cons_succ]
    refine wpAnyH_ready (rs := [6]) (by kernel_rfl) (by simp) ?_
    refine AllReadyH.cons (o := ⟨some 34, _, _, _, _, _⟩) rfl (fun Kx hKx => ?_) AllReadyH.nil
    go_simp
    refine (amongC base g (K + 201) wv.heap.size 0 3 3 (-1) 8 _ (CUd.out.keep ka) (by omega) (by omega) (by omega) (three_at wv (-1) 7 8 (-1) 8 _ (by omega) (by omega) (by omega)) (by omega)).mono ?_
    rintro e3 w3 ⟨v, rfl, v0, v1, cu3, g3⟩
    have S3 : w3.cell? ⟨b3, 2, none⟩ = some (.slice (some ⟨br, 0, none⟩) R cr) ∧ w3.cell? ⟨br, 0, none⟩ = some (.slice (some ⟨bx, 0, none⟩) M cx) := ⟨g3.cell (ka.cell S0.1) (fun e => by have := Option.some.inj e; simp only at this; omega), g3.cell (ka.cell S0.2) (fun e => by have := Option.some.inj e; simp only at this; omega)⟩
    go_wp2_with fail
    refine hKx.out _ _ ?_ (fun hHeld => ?_)
    · exact S3
    clear hKx Kx
    try simp only [Act.put, List.setIfInBounds_toArray, List.set_cons_zero, List.set_cons_succ]
    have hM0 : 0 < M := by omega
    refine wpAnyH_take (i := 7) (oi := ⟨some 35, _, _, _, _, _⟩) (v := ?_) rfl (by kernel_rfl) (by kernel_rfl) (by kernel_rfl) (fun _ _ _ h => h) (Or.inl ⟨by rfl, ?_⟩) (by assumption) ?_
    rotate_left
    · intro w hSw; (try dsimp only at hSw); go_simp; (all_goals with_reducible rfl)
    simp only [Act.put, List.setIfInBounds_toArray, List.set_cons_zero, List.set_cons_succ]
    obtain ⟨⟨uu, huu⟩, hfz, _, _, OC3⟩ := CtPut ((OCd.out.keep ka).draw g3 (by omega)) hx hl hlM.out (show 0 < M by omega) v
    have k9 := grown_set w3 bx 0 (.int .i64 v)
    have b4 := live3_grown k9 (fun e => by have := Option.some.inj e; omega) (live3_grown g3 (fun e => by have := Option.some.inj e; omega) (live3_keep ka bd))
    have r4 := live3_grown k9 (fun e => by have := Option.some.inj e; omega) (live3_grown g3 (fun e => by have := Option.some.inj e; omega) (live3_keep ka rd))
    have S4 : (w3.setCell ⟨bx, 0, none⟩ (.int .i64 v)).cell? ⟨b3, 2, none⟩ = some (.slice (some ⟨br, 0, none⟩) R cr) ∧ (w3.setCell ⟨bx, 0, none⟩ (.int .i64 v)).cell? ⟨br, 0, none⟩ = some (.slice (some ⟨bx, 0, none⟩) M cx) := by
      exact ⟨k9.cell S3.1 (fun e => by have := Option.some.inj e; simp only at this; omega), k9.cell S3.2 (fun e => by have := Option.some.inj e; simp only at this; omega)⟩
    have CU3 := Lib.hid (cu3.own k9 (fun r e => by have := Option.some.inj e; omega))
    have GG3 := Lib.hid (gw_own ((grown_keep GGd.out ka).trans g3) k9 (fun r e => by have := Option.some.inj e; omega))
    have OC4 := Lib.hid OC3
    refine wpAnyH_ready (rs := [8]) (by kernel_rfl) (by simp) ?_
    refine AllReadyH.cons (o := ⟨none, _, _, _, _, _⟩) rfl (fun Kx hKx => ?_) AllReadyH.nil
    go_simp
    go_wp2_with fail
    refine hKx.out _ _ ?_ (fun hHeld => ?_)
    · exact S4
    clear hKx Kx
    try simp only [Act.put, List.setIfInBounds_toArray, List.set_cons_zero, List.set_cons_succ]
    refine wpAnyH_done (by kernel_rfl) ?_ _
    clear S0 S3 S4 OC3 OCd CUd GGd bd rd ka cu3 g3 k9
    go_wp2_with fail
    exact bodyPost_ret (v := cv (.slice (some ⟨bc, 0, none⟩) M cc) d (.slice (some ⟨br, 0, none⟩) R cr)) (by simp [results, Tryd.results21, go_sem, *]) rfl (FIN.out _ _ _ _ d _ _ _ (by omega) (by have := HD.out; unfold isI64; omega) (by have := HM.out; omega) (by rw [List.length_set]; have := HR.out; omega) (fun m hm => by
      rcases List.mem_or_eq_of_mem_set hm with hm | rfl
      · have := HRW.out m hm; have := HM.out; omega
      · rw [List.length_set, hlM.out]; omega) OC4.out CU3.out GG3.out)
  have h2e : (z == 2) = false := by simpa using h2
  by_cases h3 : z = 3
  · subst h3
    have kd : Kp w2 w2.drew := (Kp.refl w2).drew
    have OCd := Lib.hid (OC2.out.keep kd)
    have CUd := Lib.hid (CU2.out.keep kd)
    have GGd := Lib.hid (grown_keep GG2.out kd)
    have bd := live3_keep kd b2
    have rd := live3_keep kd r3
    have hsd : w2.heap.size ≤ w2.drew.heap.size := Nat.le_refl _
    obtain ⟨x, hx⟩ : ∃ x, vs[1]? = some x := ⟨_, List.getElem?_eq_getElem (show 1 < vs.length by have := OC2.out.or.len; have := HR.out; omega)⟩
    obtain ⟨l, hl⟩ : ∃ l, rs[1]? = some l := ⟨_, List.getElem?_eq_getElem (show 1 < rs.length by have := HR.out; omega)⟩
    have hlM : Hid (l.length = M) := Lib.hid (by have := HRW.out l (List.mem_of_getElem? hl); rw [this, HM.out])
    obtain ⟨bx, cx, rfl⟩ := own_row (n := M) (e := 3) (sz := 1) (xs := cellsI l) (by have := OC2.out.or.inn 1 x l hx hl; unfold OwnI at this; rw [hlM.out] at this; exact this) (by omega)
    have hbx : w.heap.size + 1 ≤ bx ∧ bx < w2.heap.size := World.ownsRow.lt (OC2.out.or.inn 1 _ l hx hl) bx rfl
    have hxb3 : bx ≠ b3 := fun e => HB3.out.2.2 1 _ hx (by rw [e]; rfl)
    have hxbr : br ≠ bx := fun e => OC2.out.or.out 1 _ bx hx rfl (by rw [e]; rfl)
    have hbrb : w.heap.size + 1 ≤ br ∧ br ≠ b3 := ⟨(World.ownsRow.lt OC2.out.or.row br rfl).1, fun e => HB3.out.2.1 (by rw [e]; rfl)⟩
    have hR0 : (1 : Int) < R := by omega
    have orow : w2.drew.ownsRow (w.heap.size + 1) 41 1 (.slice (some ⟨br, 0, none⟩) R cr) R vs := by have := OCd.out.or.row; rw [HR.out] at this; exact this
    have cx0 : w2.drew.cell? ⟨br, 1, none⟩ = some (.slice (some ⟨bx, 0, none⟩) M cx) := (World.ownsRow.cellAt orow 1 (by omega)).trans hx
    have S0 : w2.drew.cell? ⟨b3, 2, none⟩ = some (.slice (some ⟨br, 0, none⟩) R cr) := bd.2.2.1
    clear kd OC2 CU2 GG2 b2 r3 orow
    go_wp2_with fail
    refine wp_region_held_drew (S := fun w' => w'.cell? ⟨b3, 2, none⟩ = some (.slice (some ⟨br, 0, none⟩) R cr)) (by kernel_rfl) S0 (fun hHeld => ?_)
    generalize w2.drew = wv at *
    refine wpAnyH_take (i := 0) (oi := ⟨some 38, _, _, _, _, _⟩) (v := ?_) rfl (by kernel_rfl) (by kernel_rfl) (by kernel_rfl) (fun _ _ _ h => h) (Or.inl ⟨by rfl, ?_⟩) (by assumption) ?_
    rotate_left
    · intro w hSw; (try dsimp only at hSw); go_simp; (all_goals with_reducible rfl)
    simp only [Act.put, List.setIfInBounds_toArray, List.set_cons_zero, List.set_cons_succ]
    refine wpAnyH_take (i := 1) (oi := ⟨some 39, _, _, _, _, _⟩) (v := ?_) rfl (by kernel_rfl) (by kernel_rfl) (by kernel_rfl) (fun _ _ _ h => h) (Or.inl ⟨by rfl, ?_⟩) (by assumption) ?_
    rotate_left
    · intro w hSw; (try dsimp only at hSw); go_simp; (all_goals with_reducible rfl)
    simp only [Act.put, List.setIfInBounds_toArray, List.set_cons_zero, List.set_cons_succ]
    refine wpAnyH_take (i := 2) (oi := ⟨some 40, _, _, _, _, _⟩) (v := ?_) rfl (by kernel_rfl) (by kernel_rfl) (by kernel_rfl) (fun _ _ _ h => h) (Or.inl ⟨by rfl, ?_⟩) (by assumption) ?_
    rotate_left
    · intro w hSw; (try dsimp only at hSw); go_simp; (all_goals with_reducible rfl)
    simp only [Act.put, List.setIfInBounds_toArray, List.set_cons_zero, List.set_cons_succ]
    refine wpAnyH_take (i := 3) (oi := ⟨some 41, _, _, _, _, _⟩) (v := ?_) rfl (by kernel_rfl) (by kernel_rfl) (by kernel_rfl) (fun _ _ _ h => h) (Or.inl ⟨by rfl, ?_⟩) (by assumption) ?_
    rotate_left
    · intro w hSw; (try dsimp only at hSw); go_simp; (all_goals with_reducible rfl)
    simp only [Act.put, List.setIfInBounds_toArray, List.set_cons_zero, List.set_cons_succ]
    refine wpAnyH_take (i := 4) (oi := ⟨some 42, _, _, _, _, _⟩) (v := ?_) rfl (by kernel_rfl) (by kernel_rfl) (by kernel_rfl) (fun _ _ _ h => h) (Or.inl ⟨by rfl, ?_⟩) (by assumption) ?_
    rotate_left
    · intro w hSw; (try dsimp only at hSw); go_simp; (all_goals with_reducible rfl)
    simp only [Act.put, List.setIfInBounds_toArray, List.set_cons_zero, List.set_cons_succ]
    obtain ⟨j0, hj0, hjz, hjs, hjb⟩ := info_parts infoInt
    have ka : Kp wv (wv.alloc (.cells #[.int .i64 0] 3)) := (Kp.refl wv).alloc _
    have cx1 : (wv.alloc (.cells #[.int .i64 0] 3)).cell? ⟨br, 1, none⟩ = some (.slice (some ⟨bx, 0, none⟩) M cx) := ka.cell cx0
    have orx : Hid ((wv.alloc (.cells #[.int .i64 0] 3)).ownsRow (w.heap.size + 1) 3 1 (.slice (some ⟨bx, 0, none⟩) M cx) M (cellsI l)) := Lib.hid (by have := (OCd.out.keep ka).or.inn 1 _ l hx hl; unfold OwnI at this; rw [hlM.out] at this; exact this)
    have hlM2 := hlM.out
    refine wpAnyH_ready (rs := [5, 6]) (by kernel_rfl) (by simp) ?_
    refine AllReadyH.cons (o := ⟨some 43, _, _, _, _, _⟩) rfl (fun Kx hKx => ?_) (AllReadyH.cons (o := ⟨some 44, _, _, _, _, _⟩) rfl (fun Kx hKx => ?_) AllReadyH.nil)
    · go_simp
      go_wp2_with fail
      refine hKx.out _ _ ?_ (fun hHeld => ?_)
      · exact S0
      clear hKx Kx
      try simp only [Act.put, List.setIfInBounds_toArray, List.set_cons_zero, List.set_cons_succ]
      refine wpAnyH_ready (rs := [6]) (by kernel_rfl) (by simp) ?_
      refine AllReadyH.cons (o := ⟨some 44, _, _, _, _, _⟩) rfl (fun Kx hKx => ?_) AllReadyH.nil
      go_simp
      go_wp2_with fail
      refine hKx.out _ _ ?_ (fun hHeld => ?_)
      · exact ka.cell S0
      clear hKx Kx
      try simp only [Act.put, List.setIfInBounds_toArray, List.set_cons_zero, List.set_cons_succ]
      refine wpAnyH_ready (rs := [7]) (by kernel_rfl) (by simp) ?_
      refine AllReadyH.cons (o := ⟨some 45, _, _, _, _, _⟩) rfl (fun Kx hKx => ?_) AllReadyH.nil
      rw [if_pos (by rfl)]
      refine step_append_ownD (.tmp 43) (.tmp 44) 41 rfl (w.heap.size + 1) 3 j0 (.int .i64 0) 1 8 Tryd.underlying41 hj0 hjz hjs hjb rfl (by decide) _ M (cellsI l) rfl orx.out ⟨wv.heap.size, 0, none⟩ 1 1 [.int .i64 0] rfl rfl (one_cell _ _ _) (by simp [Value.oneCell']) (by simp only [maxLen]; omega) (by omega) (by simp; omega) ?_
      intro v' w3 hown2 hgrow2 hat2
      have hgx : (wv.alloc (.cells #[.int .i64 0] 3)).grownBy w3 (some bx) := hgrow2
      obtain ⟨A', c9, rfl⟩ := own_slice hown2
      have hOI : OwnI w3 (w.heap.size + 1) (.slice A' (M + 1) c9) (l ++ [0]) := by
        rw [← hlM2] at hown2 ⊢
        exact OwnI.snoc (x := 0) hown2
      obtain ⟨⟨uu, huu⟩, hfz, OC4'⟩ := OwnC.swap (OCd.out.keep ka) hx (bx := bx) rfl hgx hOI HR.out hat2 (Nat.le_refl _)
      have OC4 := Lib.hid OC4'
      have S3 : w3.cell? ⟨b3, 2, none⟩ = some (.slice (some ⟨br, 0, none⟩) R cr) := hgx.cell (ka.cell S0) (fun e => by have := Option.some.inj e; simp only at this; omega)
      have k9 := grown_set w3 br 1 (.slice A' (M + 1) c9)
      have S4 : (w3.setCell ⟨br, 1, none⟩ (.slice A' (M + 1) c9)).cell? ⟨b3, 2, none⟩ = some (.slice (some ⟨br, 0, none⟩) R cr) := k9.cell S3 (fun e => by have := Option.some.inj e; simp only at this; omega)
      have b4 := live3_grown k9 (fun e => by have := Option.some.inj e; omega) (live3_grown hgx (fun e => by have := Option.some.inj e; omega) (live3_keep ka bd))
      have r4 := live3_grown k9 (fun e => by have := Option.some.inj e; omega) (live3_grown hgx (fun e => by have := Option.some.inj e; omega) (live3_keep ka rd))
      have CU3 := Lib.hid (((CUd.out.keep ka).own hgx (fun r e => by have := Option.some.inj e; omega)).own k9 (fun r e => by have := Option.some.inj e; omega))
      have GG3 := Lib.hid (gw_own (gw_own (grown_keep GGd.out ka) hgx (fun r e => by have := Option.some.inj e; omega)) k9 (fun r e => by have := Option.some.inj e; omega))
      clear hown2 hgrow2 hat2 hOI OC4' orx bd rd CUd GGd OCd k9 hgx
      refine hKx.out _ _ ?_ (fun hHeld => ?_)
      · exact S3
      clear hKx Kx
      try simp only [Act.put, List.setIfInBounds_toArray, List.set_cons_zero, List.set_cons_succ]
      refine wpAnyH_take (i := 8) (oi := ⟨some 46, _, _, _, _, _⟩) (v := ?_) rfl (by kernel_rfl) (by kernel_rfl) (by kernel_rfl) (fun _ _ _ h => h) (Or.inl ⟨by rfl, ?_⟩) (by assumption) ?_
      rotate_left
      · intro w hSw; (try dsimp only at hSw); go_simp; (all_goals with_reducible rfl)
      simp only [Act.put, List.setIfInBounds_toArray, List.set_cons_zero, List.set_cons_succ]
      refine wpAnyH_ready (rs := [9]) (by kernel_rfl) (by simp) ?_
      refine AllReadyH.cons (o := ⟨none, _, _, _, _, _⟩) rfl (fun Kx hKx => ?_) AllReadyH.nil
      go_simp
      go_wp2_with fail
      refine hKx.out _ _ ?_ (fun hHeld => ?_)
      · exact S4
      clear hKx Kx
      try simp only [Act.put, List.setIfInBounds_toArray, List.set_cons_zero, List.set_cons_succ]
      refine wpAnyH_done (by kernel_rfl) ?_ _
      clear S0 S3 S4 ka cx0 cx1 huu hfz
      go_wp2_with fail
      exact bodyPost_ret (v := cv (.slice (some ⟨bc, 0, none⟩) M cc) d (.slice (some ⟨br, 0, none⟩) R cr)) (by simp [results, Tryd.results21, go_sem, *]) rfl (FIN.out _ _ _ _ d _ _ _ (by omega) (by have := HD.out; unfold isI64; omega) (by have := HM.out; omega) (by rw [List.length_set]; have := HR.out; omega) (fun m hm => by
        rcases List.mem_or_eq_of_mem_set hm with hm | rfl
        · have := HRW.out m hm; have := HM.out; omega
        · rw [List.length_append, hlM.out]; simp; omega) OC4.out CU3.out GG3.out)
    · go_simp
      go_wp2_with fail
      refine hKx.out _ _ ?_ (fun hHeld => ?_)
      · exact ka.cell S0
      clear hKx Kx
      try simp only [Act.put, List.setIfInBounds_toArray, List.set_cons_zero, List.set_cons_succ]
      refine wpAnyH_ready (rs := [5]) (by kernel_rfl) (by simp) ?_
      refine AllReadyH.cons (o := ⟨some 43, _, _, _, _, _⟩) rfl (fun Kx hKx => ?_) AllReadyH.nil
      go_simp
      go_wp2_with fail
      refine hKx.out _ _ ?_ (fun hHeld => ?_)
      · exact ka.cell S0
      clear hKx Kx
      try simp only [Act.put, List.setIfInBounds_toArray, List.set_cons_zero, List.set_cons_succ]
      refine wpAnyH_ready (rs := [7]) (by kernel_rfl) (by simp) ?_
      refine AllReadyH.cons (o := ⟨some 45, _, _, _, _, _⟩) rfl (fun Kx hKx => ?_) AllReadyH.nil
      rw [if_pos (by rfl)]
      refine step_append_ownD (.tmp 43) (.tmp 44) 41 rfl (w.heap.size + 1) 3 j0 (.int .i64 0) 1 8 Tryd.underlying41 hj0 hjz hjs hjb rfl (by decide) _ M (cellsI l) rfl orx.out ⟨wv.heap.size, 0, none⟩ 1 1 [.int .i64 0] rfl rfl (one_cell _ _ _) (by simp [Value.oneCell']) (by simp only [maxLen]; omega) (by omega) (by simp; omega) ?_
      intro v' w3 hown2 hgrow2 hat2
      have hgx : (wv.alloc (.cells #[.int .i64 0] 3)).grownBy w3 (some bx) := hgrow2
      obtain ⟨A', c9, rfl⟩ := own_slice hown2
      have hOI : OwnI w3 (w.heap.size + 1) (.slice A' (M + 1) c9) (l ++ [0]) := by
        rw [← hlM2] at hown2 ⊢
        exact OwnI.snoc (x := 0) hown2
      obtain ⟨⟨uu, huu⟩, hfz, OC4'⟩ := OwnC.swap (OCd.out.keep ka) hx (bx := bx) rfl hgx hOI HR.out hat2 (Nat.le_refl _)
      have OC4 := Lib.hid OC4'
      have S3 : w3.cell? ⟨b3, 2, none⟩ = some (.slice (some ⟨br, 0, none⟩) R cr) := hgx.cell (ka.cell S0) (fun e => by have := Option.some.inj e; simp only at this; omega)
      have k9 := grown_set w3 br 1 (.slice A' (M + 1) c9)
      have S4 : (w3.setCell ⟨br, 1, none⟩ (.slice A' (M + 1) c9)).cell? ⟨b3, 2, none⟩ = some (.slice (some ⟨br, 0, none⟩) R cr) := k9.cell S3 (fun e => by have := Option.some.inj e; simp only at this; omega)
      have b4 := live3_grown k9 (fun e => by have := Option.some.inj e; omega) (live3_grown hgx (fun e => by have := Option.some.inj e; omega) (live3_keep ka bd))
      have r4 := live3_grown k9 (fun e => by have := Option.some.inj e; omega) (live3_grown hgx (fun e => by have := Option.some.inj e; omega) (live3_keep ka rd))
      have CU3 := Lib.hid (((CUd.out.keep ka).own hgx (fun r e => by have := Option.some.inj e; omega)).own k9 (fun r e => by have := Option.some.inj e; omega))
      have GG3 := Lib.hid (gw_own (gw_own (grown_keep GGd.out ka) hgx (fun r e => by have := Option.some.inj e; omega)) k9 (fun r e => by have := Option.some.inj e; omega))
      clear hown2 hgrow2 hat2 hOI OC4' orx bd rd CUd GGd OCd k9 hgx
      refine hKx.out _ _ ?_ (fun hHeld => ?_)
      · exact S3
      clear hKx Kx
      try simp only [Act.put, List.setIfInBounds_toArray, List.set_cons_zero, List.set_cons_succ]
      refine wpAnyH_take (i := 8) (oi := ⟨some 46, _, _, _, _, _⟩) (v := ?_) rfl (by kernel_rfl) (by kernel_rfl) (by kernel_rfl) (fun _ _ _ h => h) (Or.inl ⟨by rfl, ?_⟩) (by assumption) ?_
      rotate_left
      · intro w hSw; (try dsimp only at hSw); go_simp; (all_goals with_reducible rfl)
      simp only [Act.put, List.setIfInBounds_toArray, List.set_cons_zero, List.set_cons_succ]
      refine wpAnyH_ready (rs := [9]) (by kernel_rfl) (by simp) ?_
      refine AllReadyH.cons (o := ⟨none, _, _, _, _, _⟩) rfl (fun Kx hKx => ?_) AllReadyH.nil
      go_simp
      go_wp2_with fail
      refine hKx.out _ _ ?_ (fun hHeld => ?_)
      · exact S4
      clear hKx Kx
      try simp only [Act.put, List.setIfInBounds_toArray, List.set_cons_zero, List.set_cons_succ]
      refine wpAnyH_done (by kernel_rfl) ?_ _
      clear S0 S3 S4 ka cx0 cx1 huu hfz
      go_wp2_with fail
      exact bodyPost_ret (v := cv (.slice (some ⟨bc, 0, none⟩) M cc) d (.slice (some ⟨br, 0, none⟩) R cr)) (by simp [results, Tryd.results21, go_sem, *]) rfl (FIN.out _ _ _ _ d _ _ _ (by omega) (by have := HD.out; unfold isI64; omega) (by have := HM.out; omega) (by rw [List.length_set]; have := HR.out; omega) (fun m hm => by
        rcases List.mem_or_eq_of_mem_set hm with hm | rfl
        · have := HRW.out m hm; have := HM.out; omega
        · rw [List.length_append, hlM.out]; simp; omega) OC4.out CU3.out GG3.out)
  have h3e : (z == 3) = false := by simpa using h3
  by_cases h4 : z = 4
  · subst h4
    obtain ⟨j0, hj0, hjz, hjs, hjb⟩ := info_parts infoOdds
    have orow : Hid (w2.ownsRow (w.heap.size + 1) 63 2 (.slice (some ⟨bc, 0, none⟩) M cc) M (cellsH co)) := Lib.hid (by have := OC2.out.oc; unfold OwnO at this; rw [HM.out] at this; exact this)
    have hlen : Hid ((cellsH co).length = M * 2) := Lib.hid (by rw [cellsH_length, HM.out])
    have hcl : Hid (∀ (j : Nat) u, (cellsH co)[j]? = some u → w2.cell? ((⟨bc, 0, none⟩ : Addr).add j) = some u) := Lib.hid fun j u hu => by
      rw [add_none', Nat.zero_add]
      exact (World.ownsRow.cellAt orow.out j (by have := lt_at hu; have := hlen.out; omega)).trans hu
    have hbl : Hid (w.heap.size + 1 ≤ bc ∧ bc ≠ b3 ∧ bc ≠ w.heap.size ∧ bc ≠ br ∧ ∀ (j : Nat) x, vs[j]? = some x → x.ownBlock ≠ some bc) := Lib.hid ⟨(World.ownsRow.lt orow.out bc rfl).1, fun e => HB3.out.1 (by rw [e]; rfl), by have := (World.ownsRow.lt orow.out bc rfl).1; omega, fun e => OC2.out.cr bc rfl (by rw [e]; rfl), fun j x hx => OC2.out.ci bc rfl j x hx⟩
    go_wp2_with (at_builtin; refine wpList_append_own_at _ rfl (.tmp 50) (.tmp 52) 23 rfl (w.heap.size + 1) 63 j0 (hx 0 0) 2 16 Tryd.underlying23 hj0 hjz hjs hjb rfl (by decide) _ M (cellsH co) rfl orow.out ⟨bc, 0, none⟩ M cc (cellsH co) rfl hlen.out hcl.out (cellsH_one _) (by simp only [maxLen]; omega) (by omega) (by omega) ?_; intro c' w3 hown2 hgrow2 hnil2 hat2; clear hnil2; have b4 := live3_grown hgrow2 (fun e => by have h9 : b3 = bc := Option.some.inj e; exact hbl.out.2.1 h9.symm) b2; have r4 := live3_grown hgrow2 (fun e => by have h9 : w.heap.size = bc := Option.some.inj e; exact hbl.out.2.2.1 h9.symm) r3; obtain ⟨A', c9, rfl⟩ := own_slice hown2)
    have hk3 := hgrow2.size
    have hne : ∀ b, (Value.slice A' (M + M) c9).ownBlock = some b → b = bc ∨ b = w2.heap.size := fun b e => by
      rcases hat2 with h | h
      · rw [h] at e
        exact .inl (Option.some.inj e).symm
      · rw [h] at e
        exact .inr (Option.some.inj e).symm
    have HLT := OC2.out.lt (Nat.le_refl _)
    have O3 : OwnC w3 (w.heap.size + 1) (.slice A' (M + M) c9) (.slice (some ⟨br, 0, none⟩) R cr) (co ++ co) rs vs := ⟨by
        unfold OwnO
        rw [cellsH_append, List.length_append, HM.out]
        exact hown2, ⟨World.ownsRow.kept OC2.out.or.row hgrow2 (.inr fun e => hbl.out.2.2.2.1 (Option.some.inj e).symm), fun i x l hx hl => World.ownsRow.kept (OC2.out.or.inn i x l hx hl) hgrow2 (.inr (hbl.out.2.2.2.2 i x hx)), OC2.out.or.out, OC2.out.or.two⟩, fun b e e2 => by
        rcases hne b e with rfl | rfl
        · exact hbl.out.2.2.2.1 (Option.some.inj e2).symm
        · exact HLT.2.1 e2, fun b e j x hx e2 => by
        rcases hne b e with rfl | rfl
        · exact hbl.out.2.2.2.2 j x hx e2
        · exact HLT.2.2 j x hx e2⟩
    have k9 := grown_set w3 b3 0 (.slice A' (M + M) c9)
    have OC3 := Lib.hid (O3.grown k9 (fun e => by
        rcases hne b3 e with h | h
        · exact hbl.out.2.1 h.symm
        · omega) HB3.out.2.1 HB3.out.2.2)
    have CU3 := Lib.hid ((CU2.out.own hgrow2 (fun r e => by have h9 : bc = r := Option.some.inj e; have := hbl.out.1; omega)).own k9 (fun r e => by have := Option.some.inj e; omega))
    have GG3 := Lib.hid (gw_own (gw_own GG2.out hgrow2 (fun r e => by have h9 : bc = r := Option.some.inj e; have := hbl.out.1; omega)) k9 (fun r e => by have := Option.some.inj e; omega))
    have r5 := live3_grown k9 (fun e => by have := Option.some.inj e; omega) r4
    clear hown2 hgrow2 hat2 O3 k9 r4 b2 r3 OC2 CU2 GG2 orow hcl HLT
    go_wp2_with fail
    exact bodyPost_ret (v := cv (.slice A' (M + M) c9) d (.slice (some ⟨br, 0, none⟩) R cr)) (by simp [results, Tryd.results21, go_sem, *]) rfl (FIN.out _ _ _ _ d _ _ _ (by omega) (by have := HD.out; unfold isI64; omega) (by rw [List.length_append, HM.out]; omega) (by have := HR.out; omega) (fun l hl => by have := HRW.out l hl; have := HM.out; omega) OC3.out CU3.out GG3.out)
  have h4e : (z == 4) = false := by simpa using h4
  clear h0 h1 h2 h3 h4
  go_wp2_with fail
  exact bodyPost_ret (v := cv (.slice (some ⟨bc, 0, none⟩) M cc) d (.slice (some ⟨br, 0, none⟩) R cr)) (by simp [results, Tryd.results21, go_sem, *]) rfl (fin0.out _ _ _ (by omega) (by have := HD.out; unfold isI64; omega) OC2.out CU2.out GG2.out)

end Go.Proofs.YtjpfmckoodalnaaDoor
