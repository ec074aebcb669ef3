/-
  The reference's cursor draws combat tables: what it draws reads as a table, in memory of its own; of what was there the cursor's block alone is written.
-/
import Derived.Test.YtjpfmckoodalnaaDoorCuB
import Derived.Test.YtjpfmckoodalnaaDoorTbL
import Derived.Test.YtjpfmckoodalnaaDoorTbS
import Derived.Test.YtjpfmckoodalnaaDoorPutI
namespace Go.Proofs.YtjpfmckoodalnaaDoor
open Go.RowKit

theorem OwnO.draw {w w' : World} {base g : Nat} {v : Value} {l : List (Int × Int)} (h : OwnO w base v l) (k : w.grownBy w' (some g)) (hg : g < base) : OwnO w' base v l :=
  World.ownsRow.kept h k (by
    cases hv : v.ownBlock
    · exact .inl rfl
    · rename_i j
      refine .inr fun e => ?_
      have h1 := (World.ownsRow.lt h j hv).1
      obtain rfl := Option.some.inj e
      omega)
theorem OwnII.draw {w w' : World} {base g : Nat} {v : Value} {L : List (List Int)} {vs : List Value} (h : OwnII w base v L vs) (k : w.grownBy w' (some g)) (hg : g < base) : OwnII w' base v L vs :=
  ⟨World.ownsRow.kept h.row k (by
    cases hv : v.ownBlock
    · exact .inl rfl
    · rename_i j
      refine .inr fun e => ?_
      have h1 := (World.ownsRow.lt h.row j hv).1
      obtain rfl := Option.some.inj e
      omega), fun i x l hx hl => (h.inn i x l hx hl).draw k hg, h.out, h.two⟩
theorem live3_grown {w w' : World} {row : Option Nat} {b : Nat} {v0 v1 v2 : Value} (k : w.grownBy w' row) (hne : some b ≠ row) (h : Live3 w b v0 v1 v2) : Live3 w' b v0 v1 v2 :=
  ⟨⟨k.cell h.1.1 hne, grown_frozen k h.1.1 hne h.1.2⟩, ⟨k.cell h.2.1.1 hne, grown_frozen k h.2.1.1 hne h.2.1.2⟩, ⟨k.cell h.2.2.1 hne, grown_frozen k h.2.2.1 hne h.2.2.2⟩⟩
/-- One more row: the rows at hand lie below n0, the new one from n0 on. -/
theorem OwnII.snocN {w w' : World} {base n0 : Nat} {v v' x : Value} {L : List (List Int)} {vs : List Value} {l : List Int} {T : TypeId} (h : OwnII w base v L vs) (vlt : ∀ g, v.ownBlock = some g → g < n0) (ilt : ∀ (i : Nat) (y : Value) (g : Nat), vs[i]? = some y → y.ownBlock = some g → g < n0)
    (hx : OwnI w n0 x l) (hb : base ≤ n0) (hn : n0 ≤ w.heap.size)
    (ho : w'.ownsRow base 41 1 v' (L.length + 1) (vs ++ [x])) (hg : (w.alloc (.cells #[x] T)).grownBy w' v.ownBlock) (ha : v'.ownBlock = v.ownBlock ∨ v'.ownBlock = some (w.alloc (.cells #[x] T)).heap.size) :
    OwnII w' base v' (L ++ [l]) (vs ++ [x]) := by
  have hlen := h.len
  have ka : Kp w (w.alloc (.cells #[x] T)) := (Kp.refl w).alloc _
  have hsz : (w.alloc (.cells #[x] T)).heap.size = w.heap.size + 1 := by simp
  have xge : ∀ g, x.ownBlock = some g → n0 ≤ g ∧ g < w.heap.size := fun g e => World.ownsRow.lt hx g e
  refine ⟨by rw [List.length_append]; exact ho, fun i y m hy hm => ?_, fun i y g hy e => ?_, fun i j y z g hij hy hz e => ?_⟩
  · rcases snoc_cases hy with ⟨hi, hy⟩ | ⟨rfl, rfl⟩
    · rw [List.getElem?_append_left (by omega)] at hm
      have o := (h.inn i y m hy hm).keep ka
      refine World.ownsRow.kept o hg ?_
      cases hv : y.ownBlock
      · exact .inl rfl
      · rename_i g
        exact .inr fun e => h.out i y g hy hv e.symm
    · rw [List.getElem?_append_right (by omega)] at hm
      simp [hlen] at hm
      subst hm
      refine World.ownsRow.kept ((hx.base hb).keep ka) hg ?_
      cases hv : y.ownBlock
      · exact .inl rfl
      · rename_i g
        refine .inr fun e => ?_
        have h1 := (xge g hv).1
        have h2 := vlt g e.symm
        omega
  · rcases snoc_cases hy with ⟨hi, hy⟩ | ⟨rfl, rfl⟩
    · have h1 := ilt i y g hy e
      rcases ha with ha | ha
      · rw [ha]
        exact h.out i y g hy e
      · rw [ha]
        intro e2
        have := Option.some.inj e2
        omega
    · have h1 := xge g e
      rcases ha with ha | ha
      · rw [ha]
        intro e2
        have := vlt g e2
        omega
      · rw [ha]
        intro e2
        have := Option.some.inj e2
        omega
  · rcases snoc_cases hy with ⟨hi, hy1⟩ | ⟨rfl, rfl⟩
    · rcases snoc_cases hz with ⟨hj, hz1⟩ | ⟨rfl, rfl⟩
      · exact h.two i j y z g hij hy1 hz1 e
      · intro e2
        have h1 := ilt i y g hy1 e
        have h2 := (xge g e2).1
        omega
    · rcases snoc_cases hz with ⟨hj, hz1⟩ | ⟨rfl, rfl⟩
      · intro e2
        have h1 := ilt j z g hz1 e2
        have h2 := (xge g e).1
        omega
      · exact absurd rfl hij

def oddsL : List (Int × Int) := [(1, 3), (1, 2), (1, 1), (3, 2), (2, 1), (3, 1), (5, 1), (7, 1)]
def scaleL : List Int := [6, 5, 4, 0, 7, 1, 2, 3]
theorem cellsH_sub {l : List (Int × Int)} {f m j : Nat} {u : Value} (h : (cellsH ((l.drop f).take m))[j]? = some u) : (cellsH l)[f * 2 + j]? = some u := by
  have hj := (List.getElem?_eq_some_iff.1 h).1
  rw [cellsH_length] at hj
  have hi : j / 2 < ((l.drop f).take m).length := by omega
  obtain ⟨x, hx⟩ : ∃ x, ((l.drop f).take m)[j / 2]? = some x := ⟨_, List.getElem?_eq_getElem hi⟩
  have hl : l[f + j / 2]? = some x := by
    rw [List.getElem?_take] at hx
    split at hx
    · rw [List.getElem?_drop] at hx
      exact hx
    · cases hx
  have h1 := cellsH_at _ _ _ hx
  have h2 := cellsH_at _ _ _ hl
  rcases Nat.mod_two_eq_zero_or_one j with e | e
  · have e1 : j / 2 * 2 = j := by omega
    have e2 : (f + j / 2) * 2 = f * 2 + j := by omega
    rw [e1, h] at h1
    rw [e2] at h2
    rw [h2.1]
    exact h1.1.symm
  · have e1 : j / 2 * 2 + 1 = j := by omega
    have e2 : (f + j / 2) * 2 + 1 = f * 2 + j := by omega
    rw [e1, h] at h1
    rw [e2] at h2
    rw [h2.2]
    exact h1.2.symm
theorem cellsH_one (l : List (Int × Int)) : ∀ u ∈ cellsH l, u.oneCell' = true := by
  induction l with
  | nil => intro u hu; cases hu
  | cons x l ih =>
    intro u hu
    simp only [cellsH, List.mem_cons] at hu
    rcases hu with rfl | rfl | hu
    · rfl
    · rfl
    · exact ih u hu

theorem tdiv_nn {a p : Int} (h : 0 ≤ a) (hp : 1 ≤ p) : 0 ≤ a.tdiv p ∧ a.tdiv p ≤ a := by
  rw [Int.tdiv_eq_ediv_of_nonneg h]
  exact ⟨Int.ediv_nonneg h (by omega), Int.ediv_le_self p h⟩
theorem own_slice {w : World} {base sz n : Nat} {e : TypeId} {v : Value} {xs : List Value} (h : w.ownsRow base e sz v n xs) : ∃ A c, v = .slice A n c := by
  rcases h.2 with ⟨rfl, rfl⟩ | ⟨g, cap, cur, rfl, _⟩
  · exact ⟨_, _, rfl⟩
  · exact ⟨_, _, rfl⟩
theorem step_append_ownC {P : Program} {o : Oper} {a : Act} {w : World} {K : Act → World → Prop} {Q : Exit → Act → World → Prop} (s x : Operand) (t : TypeId)
    (ho : o.op = .call { callee := .builtin .append, args := #[s, x], argTypes := #[t, t] })
    (base : Nat) (e : TypeId) (i : TypeInfo) (z : Value) (size bytes : Nat) (ht : P.underlying t = some (.slice e)) (hi : P.info? e = some i) (hz : i.zero = some z)
    (hsize : i.size = size) (hby : i.bytes = bytes) (hzs : z.cells.size = size) (hsz : 0 < size)
    (v : Value) (n : Nat) (xs : List Value) (hs : a.eval s = v) (hown : w.ownsRow base e size v n xs)
    (ad : Addr) (m c : Nat) (news : List Value) (hx : a.eval x = .slice (some ad) m c) (hl : news.length = m * size) (hnews : ∀ j u, news[j]? = some u → w.cell? (ad.add j) = some u) (h1 : ∀ u ∈ news, u.oneCell' = true)
    (h63 : n + m ≤ maxLen) (hbytes : (n + m) * bytes ≤ 140737488355328) (hbase : base ≤ w.heap.size)
    (h : ∀ v' w', w'.ownsRow base e size v' (n + m) (xs ++ news) → w.grownBy w' v.ownBlock → K (a.put o.dst v') w') : Oper.wp P o a w K Q := by
  obtain ⟨v', w', hr, h2, h3, _⟩ := run_append_own (P := P) (w := w) base t o.type e i z size bytes ht hi hz hsize hby hzs hsz v n xs hown ad m c news hl hnews h1 h63 hbytes hbase
  unfold Oper.wp execOp
  simp only [ho, resolve, invoke, builtin, Sem.run_bind, Sem.run_pure, Result.andThen_ok, List.map_toArray, List.map_cons, List.map_nil, hs, hx, hr]
  exact h v' w' h2 h3
/-- A table under way: q rows of M numbers each. -/
structure TS (w wx : World) (base g K bs n2 BB M q : Nat) (c rv : Value) (co : List (Int × Int)) (rs : List (List Int)) (vs : List Value) : Prop where
  r0 : Live3 wx w.heap.size (.slice none 0 0) (.int .i64 0) (.slice none 0 0)
  sc : ∀ (j : Nat) (u : Int), scaleL[j]? = some u → wx.cell? ⟨bs, j, none⟩ = some (.int .i64 u)
  oc : OwnO wx n2 c co
  or : OwnII wx BB rv rs vs
  len : rs.length = q
  row : ∀ l ∈ rs, l.length = M
  cu : Cu wx base g K
  gr : w.grownBy wx (some g)
  sz : BB ≤ wx.heap.size
theorem TS.draw {w wx wy : World} {base g K K' bs n2 BB M q : Nat} {c rv : Value} {co : List (Int × Int)} {rs : List (List Int)} {vs : List Value} (h : TS w wx base g K bs n2 BB M q c rv co rs vs) (k : wx.grownBy wy (some g)) (cu : Cu wy base g K') (h1 : g < w.heap.size) (h2 : g < bs) (h3 : g < n2) (h4 : g < BB) : TS w wy base g K' bs n2 BB M q c rv co rs vs :=
  ⟨live3_grown k (fun e => by have := Option.some.inj e; omega) h.r0, fun j u hu => k.cell (h.sc j u hu) (fun e => by have := Option.some.inj e; simp only at this; omega), h.oc.draw k h3, h.or.draw k h4, h.len, h.row, cu, h.gr.trans k, Nat.le_trans h.sz k.size⟩

theorem TS.keepK {w wx wy : World} {base g K bs n2 BB M q : Nat} {c rv : Value} {co : List (Int × Int)} {rs : List (List Int)} {vs : List Value} (h : TS w wx base g K bs n2 BB M q c rv co rs vs) (k : Kp wx wy) : TS w wy base g K bs n2 BB M q c rv co rs vs :=
  ⟨live3_keep k h.r0, fun j u hu => k.cell (h.sc j u hu), h.oc.keep k, h.or.keep k, h.len, h.row, h.cu.keep k, grown_keep h.gr k, Nat.le_trans h.sz k.size⟩
theorem TS.fin {w wx : World} {base g K bs n2 BB M q : Nat} {c rv : Value} {co : List (Int × Int)} {rs : List (List Int)} {vs : List Value} (h : TS w wx base g K bs n2 BB M q c rv co rs vs) (hc : ∀ k, c.ownBlock = some k → k < BB) {b : Nat} (h1 : b ≤ n2) (h2 : b ≤ BB) : OwnC wx b c rv co rs vs :=
  ⟨h.oc.base h1, h.or.base h2, fun k e e2 => by
    have := hc k e
    have := (World.ownsRow.lt h.or.row k e2).1
    omega, fun k e j x hx e2 => by
    have := hc k e
    have hl : rs[j]? = some (rs[j]'(by have := lt_at hx; have := h.or.len; omega)) := List.getElem?_eq_getElem _
    have := (World.ownsRow.lt (h.or.inn j x _ hx hl) k e2).1
    omega⟩
/-- A number put into a row. -/
theorem OwnII.put {w : World} {base i k b : Nat} {v x u : Value} {l' : List Int} {L : List (List Int)} {vs : List Value} {l : List Int} (h : OwnII w base v L vs) (hx : vs[i]? = some x) (hl : L[i]? = some l) (hb : x.ownBlock = some b) (hp : OwnI (w.setCell ⟨b, k, none⟩ u) base x l') (_hk : l'.length = l.length) : OwnII (w.setCell ⟨b, k, none⟩ u) base v (L.set i l') vs := by
  have k9 := grown_set w b k u
  refine ⟨by rw [List.length_set]; exact World.ownsRow.kept h.row k9 (by
      cases hv : v.ownBlock
      · exact .inl rfl
      · rename_i r
        exact .inr fun e => h.out i x r hx (by rw [hb]; exact e.symm) hv), fun j y m hy hm => ?_, h.out, h.two⟩
  by_cases e : i = j
  · subst e
    rw [hx] at hy
    obtain rfl := Option.some.inj hy
    rw [List.getElem?_set, if_pos rfl, if_pos (lt_at hl)] at hm
    obtain rfl := Option.some.inj hm
    exact hp
  · rw [List.getElem?_set, if_neg e] at hm
    refine World.ownsRow.kept (h.inn j y m hy hm) k9 ?_
    cases hv : y.ownBlock
    · exact .inl rfl
    · rename_i r
      refine .inr fun e2 => ?_
      obtain rfl := Option.some.inj e2
      exact h.two i j x y _ e hx hy hb hv
theorem own_row {w : World} {base n : Nat} {e : TypeId} {v : Value} {xs : List Value} {sz : Nat} (h : w.ownsRow base e sz v n xs) (h0 : 0 < n) : ∃ b c, v = .slice (some ⟨b, 0, none⟩) n c := by
  rcases h.2 with ⟨_, hn⟩ | ⟨g, cap, cur, rfl, _⟩
  · omega
  · exact ⟨_, _, rfl⟩

/-- A number put into a row of the table. -/
theorem TS.put {w wx : World} {base g K bs n2 BB M q : Nat} {c rv : Value} {co : List (Int × Int)} {rs : List (List Int)} {vs : List Value} {l : List Int} {a bx cx k : Nat} (h : TS w wx base g K bs n2 BB M q c rv co rs vs) (hx : vs[a]? = some (.slice (some ⟨bx, 0, none⟩) M cx)) (hl : rs[a]? = some l) (hk : k < M) (z : Int) (hbb : base ≤ w.heap.size) (h1 : w.heap.size < BB) (h2 : bs < BB) (hc : ∀ k, c.ownBlock = some k → k < BB) :
    (∃ u, wx.cell? ⟨bx, k, none⟩ = some u) ∧ wx.frozen? ⟨bx, k, none⟩ = false ∧ BB ≤ bx ∧ (∀ r, rv.ownBlock = some r → r ≠ bx) ∧ TS w (wx.setCell ⟨bx, k, none⟩ (.int .i64 z)) base g K bs n2 BB M q c rv co (rs.set a (l.set k z)) vs := by
  have hM := h.row l (List.mem_of_getElem? hl)
  have ho := h.or.inn a _ l hx hl
  have hb : BB ≤ bx := (World.ownsRow.lt ho bx rfl).1
  obtain ⟨p1, p2, p3⟩ := OwnI.put ho hM hk z
  have k9 := grown_set wx bx k (.int .i64 z)
  refine ⟨p1, p2, hb, fun r e e2 => h.or.out a _ r hx (by rw [e2]; rfl) e, live3_grown k9 (fun e => by have := Option.some.inj e; omega) h.r0, fun j u hu => k9.cell (h.sc j u hu) (fun e => by have := Option.some.inj e; simp only at this; omega), World.ownsRow.kept h.oc k9 (by
      cases hv : c.ownBlock
      · exact .inl rfl
      · rename_i r
        refine .inr fun e => ?_
        have h3 := hc r hv
        have h4 := Option.some.inj e
        omega), OwnII.put h.or hx hl rfl p3 (by rw [List.length_set]), by rw [List.length_set]; exact h.len, fun m hm => ?_, h.cu.own k9 (fun r e => by have := Option.some.inj e; omega), gw_own h.gr k9 (fun r e => by have := Option.some.inj e; omega), by have h3 := k9.size; have h4 := h.sz; omega⟩
  rcases List.mem_or_eq_of_mem_set hm with hm | rfl
  · exact h.row m hm
  · rw [List.length_set]
    exact hM

/-- A table drawn. -/
def TabD (base g K : Nat) (w : World) (e : Ending) (w' : World) : Prop :=
  ∃ (c r : Value) (d : Int) (co : List (Int × Int)) (rs : List (List Int)) (vs : List Value), e = .returned (cv c d r) ∧ OwnC w' w.heap.size c r co rs vs ∧ (1 ≤ co.length ∧ co.length ≤ 5) ∧ (1 ≤ d ∧ d ≤ 2) ∧ (rs.length : Int) = 5 * d + 1 ∧ (∀ l ∈ rs, l.length = co.length) ∧ Cu w' base g K ∧ w.grownBy w' (some g)

set_option maxRecDepth 100000 in
set_option maxHeartbeats 4000000 in
theorem combatTable_any (base g K : Nat) (w : World) (h : Cu w base g K) (hb : base ≤ w.heap.size) (hK : K ≤ 1000) :
    Calls Tryd.prog 39 #[.pointer (some ⟨g, 0, none⟩)] w (TabD base g (K + 200) w) := by
  have glt := h.lt
  have k0 : Kp w ((w.alloc (.cells #[.slice none 0 0, .int .i64 0, .slice none 0 0] 26)).alloc (.cells #[.int .i64 1, .int .i64 3, .int .i64 1, .int .i64 2, .int .i64 1, .int .i64 1, .int .i64 3, .int .i64 2, .int .i64 2, .int .i64 1, .int .i64 3, .int .i64 1, .int .i64 5, .int .i64 1, .int .i64 7, .int .i64 1] 63)) := ((Kp.refl w).alloc _).alloc _
  have r0 : Live3 ((w.alloc (.cells #[.slice none 0 0, .int .i64 0, .slice none 0 0] 26)).alloc (.cells #[.int .i64 1, .int .i64 3, .int .i64 1, .int .i64 2, .int .i64 1, .int .i64 1, .int .i64 3, .int .i64 2, .int .i64 2, .int .i64 1, .int .i64 3, .int .i64 1, .int .i64 5, .int .i64 1, .int .i64 7, .int .i64 1] 63)) w.heap.size (.slice none 0 0) (.int .i64 0) (.slice none 0 0) := ⟨by simp [go_sem], by simp [go_sem], by simp [go_sem]⟩
  have od : Hid (∀ (j : Nat) u, (cellsH oddsL)[j]? = some u → ((w.alloc (.cells #[.slice none 0 0, .int .i64 0, .slice none 0 0] 26)).alloc (.cells #[.int .i64 1, .int .i64 3, .int .i64 1, .int .i64 2, .int .i64 1, .int .i64 1, .int .i64 3, .int .i64 2, .int .i64 2, .int .i64 1, .int .i64 3, .int .i64 1, .int .i64 5, .int .i64 1, .int .i64 7, .int .i64 1] 63)).cell? ⟨w.heap.size + 1, j, none⟩ = some u) := Lib.hid fun j u hu => by
    have hj := (List.getElem?_eq_some_iff.1 hu).1
    have hj' : j < 16 := hj
    match j, hj' with
    | 0, _ | 1, _ | 2, _ | 3, _ | 4, _ | 5, _ | 6, _ | 7, _ | 8, _ | 9, _ | 10, _ | 11, _ | 12, _ | 13, _ | 14, _ | 15, _ => obtain rfl := Option.some.inj hu; simp [go_sem]
  have H0 := Lib.hid (h.keep k0)
  have G0 := Lib.hid (grown_keep (World.grownBy.refl w (some g)) k0)
  have hz0 := k0.size
  have hs0 : ((w.alloc (.cells #[.slice none 0 0, .int .i64 0, .slice none 0 0] 26)).alloc (.cells #[.int .i64 1, .int .i64 3, .int .i64 1, .int .i64 2, .int .i64 1, .int .i64 1, .int .i64 3, .int .i64 2, .int .i64 2, .int .i64 1, .int .i64 3, .int .i64 1, .int .i64 5, .int .i64 1, .int .i64 7, .int .i64 1] 63)).heap.size = w.heap.size + 2 := by simp
  clear h k0
  go_enter Tryd.func39, Tryd.ntmps39
  go_wp2_with fail
  generalize ((w.alloc (.cells #[.slice none 0 0, .int .i64 0, .slice none 0 0] 26)).alloc (.cells #[.int .i64 1, .int .i64 3, .int .i64 1, .int .i64 2, .int .i64 1, .int .i64 1, .int .i64 3, .int .i64 2, .int .i64 2, .int .i64 1, .int .i64 3, .int .i64 1, .int .i64 5, .int .i64 1, .int .i64 7, .int .i64 1] 63)) = W0 at *
  refine (pickC base g K 4 _ H0.out (by omega) (by omega) (by omega)).mono ?_
  rintro e1 w1 ⟨f, rfl, f0, f1, cu1, g1⟩
  obtain ⟨f, rfl⟩ := Int.eq_ofNat_of_zero_le f0
  have r1 := live3_grown g1 (fun e => by have := Option.some.inj e; omega) r0
  have od1 : Hid (∀ (j : Nat) u, (cellsH oddsL)[j]? = some u → w1.cell? ⟨w.heap.size + 1, j, none⟩ = some u) := Lib.hid fun j u hu => g1.cell (od.out j u hu) (fun e => by have := Option.some.inj e; simp only at this; omega)
  have H1 := Lib.hid cu1
  have G1 := Lib.hid (G0.out.trans g1)
  have hs1 := g1.size
  clear H0 G0 r0 od cu1 g1
  go_wp2_with fail
  refine (pickC base g (K + 1) 5 _ H1.out (by omega) (by omega) (by omega)).mono ?_
  rintro e2 w2 ⟨n, rfl, n0, n1, cu2, g2⟩
  obtain ⟨n, rfl⟩ := Int.eq_ofNat_of_zero_le n0
  have r2 := live3_grown g2 (fun e => by have := Option.some.inj e; omega) r1
  have od2 : Hid (∀ (j : Nat) u, (cellsH oddsL)[j]? = some u → w2.cell? ⟨w.heap.size + 1, j, none⟩ = some u) := Lib.hid fun j u hu => g2.cell (od1.out j u hu) (fun e => by have := Option.some.inj e; simp only at this; omega)
  have H2 := Lib.hid cu2
  have G2 := Lib.hid (G1.out.trans g2)
  have hs2 := g2.size
  clear H1 G1 r1 od1 cu2 g2
  go_wp2_with fail
  refine (l1Least_any _ _ _).mono ?_
  rintro e3 w3 ⟨rfl, rfl⟩
  obtain ⟨j0, hj0, hjz, hjs, hjb⟩ := info_parts infoOdds
  have hM : 1 ≤ (min ((f : Int) + (1 + (n : Int))) 8).toNat - f ∧ (min ((f : Int) + (1 + (n : Int))) 8).toNat - f ≤ 5 ∧ f + ((min ((f : Int) + (1 + (n : Int))) 8).toNat - f) ≤ 8 := by omega
  have hm0 : (f : Int) ≤ min ((f : Int) + (1 + (n : Int))) 8 := by omega
  have hm1 : min ((f : Int) + (1 + (n : Int))) 8 ≤ 8 := by omega
  have own0 : Hid ((w2.alloc (.cells #[] 63)).ownsRow w2.heap.size 63 2 (.slice (some ⟨w2.heap.size, 0, none⟩) 0 0) 0 []) := Lib.hid (World.ownsRow_lit w2 _ 0 (Nat.le_refl _) (by decide) rfl)
  have kA : Kp w2 (w2.alloc (.cells #[] 63)) := (Kp.refl w2).alloc _
  have hcell : Hid (∀ (j : Nat) u, (cellsH ((oddsL.drop f).take ((min ((f : Int) + (1 + (n : Int))) 8).toNat - f)))[j]? = some u → (w2.alloc (.cells #[] 63)).cell? ((⟨w.heap.size + 1, f * 2, none⟩ : Addr).add j) = some u) := Lib.hid fun j u hu => by
    rw [add_none']
    exact kA.cell (od2.out _ u (cellsH_sub hu))
  have hco : ((oddsL.drop f).take ((min ((f : Int) + (1 + (n : Int))) 8).toNat - f)).length = (min ((f : Int) + (1 + (n : Int))) 8).toNat - f := by
    rw [List.length_take, List.length_drop, show oddsL.length = 8 from rfl]
    omega
  have HA := Lib.hid (H2.out.keep kA)
  have GA := Lib.hid (grown_keep G2.out kA)
  have rA := live3_keep kA r2
  have hsA : (w2.alloc (.cells #[] 63)).heap.size = w2.heap.size + 1 := by simp
  generalize (oddsL.drop f).take ((min ((f : Int) + (1 + (n : Int))) 8).toNat - f) = co at hcell hco
  have hlen : Hid ((cellsH co).length = ((min ((f : Int) + (1 + (n : Int))) 8).toNat - f) * 2) := Lib.hid (by rw [cellsH_length, hco])
  clear od2 H2 G2 r2 kA
  go_wp2_with (at_builtin; refine wpList_append_own _ rfl (.tmp 26) (.tmp 33) 23 rfl w2.heap.size 63 j0 (hx 0 0) 2 16 Tryd.underlying23 hj0 hjz hjs hjb rfl (by decide) _ 0 [] rfl own0.out ⟨w.heap.size + 1, f * 2, none⟩ ((min ((f : Int) + (1 + (n : Int))) 8).toNat - f) (8 - f) (cellsH co) rfl hlen.out hcell.out (cellsH_one _) (by simp only [maxLen]; omega) (by omega) (by simp) ?_; intro c w3 hown2 hgrow2 hnil2; clear hnil2)
  rw [Nat.zero_add, List.nil_append] at hown2
  generalize ((min ((f : Int) + (1 + (n : Int))) 8).toNat - f) = M at *
  clear own0 hcell hlen hj0 hjz hjs hjb hm0 hm1
  have hoc : OwnO w3 w2.heap.size c co := by
    unfold OwnO
    rw [hco]
    exact hown2
  obtain ⟨Ac, cc, rfl⟩ := hoc.slice
  rw [hco] at hoc
  have OC3 : Hid (OwnO w3 w2.heap.size (.slice Ac M cc) co) := Lib.hid hoc
  have hcb : Hid (∀ k, (Value.slice Ac M cc).ownBlock = some k → w2.heap.size ≤ k ∧ k < w3.heap.size) := Lib.hid fun k e => World.ownsRow.lt hoc k e
  have H3 := Lib.hid (HA.out.own hgrow2 (fun r e => by have : w2.heap.size = r := Option.some.inj e; omega))
  have G3 := Lib.hid (gw_own GA.out hgrow2 (fun r e => by have : w2.heap.size = r := Option.some.inj e; omega))
  have r3 := live3_grown hgrow2 (fun e => by have : w.heap.size = w2.heap.size := Option.some.inj e; omega) rA
  have hs3 := hgrow2.size
  rw [hsA] at hs3
  clear hown2 hgrow2 hoc HA GA rA hsA
  go_wp2_with fail
  refine (pickC base g (K + 1 + 1) 2 _ H3.out (by omega) (by omega) (by omega)).mono ?_
  rintro e4 w4 ⟨y, rfl, y0, y1, cu4, g4⟩
  have r4 := live3_grown g4 (fun e => by have := Option.some.inj e; omega) r3
  have kB : Kp w4 ((w4.alloc (.cells #[.slice Ac M cc, .int .i64 (1 + y), .slice none 0 0] 26)).alloc (.cells #[.int .i64 6, .int .i64 5, .int .i64 4, .int .i64 0, .int .i64 7, .int .i64 1, .int .i64 2, .int .i64 3] 3)) := ((Kp.refl w4).alloc _).alloc _
  have H4 := Lib.hid (cu4.keep kB)
  have G4 := Lib.hid (grown_keep (G3.out.trans g4) kB)
  have OC4 : Hid (OwnO _ w2.heap.size (.slice Ac M cc) co) := Lib.hid ((OC3.out.draw g4 (by omega)).keep kB)
  have hs4 := g4.size
  have r5 := live3_keep kB r4
  have b5 : Live3 ((w4.alloc (.cells #[.slice Ac M cc, .int .i64 (1 + y), .slice none 0 0] 26)).alloc (.cells #[.int .i64 6, .int .i64 5, .int .i64 4, .int .i64 0, .int .i64 7, .int .i64 1, .int .i64 2, .int .i64 3] 3)) w4.heap.size (.slice Ac M cc) (.int .i64 (1 + y)) (.slice none 0 0) := ⟨by simp [go_sem], by simp [go_sem], by simp [go_sem]⟩
  have sc5 : Hid (∀ (j : Nat) u, scaleL[j]? = some u → ((w4.alloc (.cells #[.slice Ac M cc, .int .i64 (1 + y), .slice none 0 0] 26)).alloc (.cells #[.int .i64 6, .int .i64 5, .int .i64 4, .int .i64 0, .int .i64 7, .int .i64 1, .int .i64 2, .int .i64 3] 3)).cell? ⟨w4.heap.size + 1, j, none⟩ = some (.int .i64 u)) := Lib.hid fun j u hu => by
    have hj := (List.getElem?_eq_some_iff.1 hu).1
    have hj' : j < 8 := hj
    match j, hj' with
    | 0, _ | 1, _ | 2, _ | 3, _ | 4, _ | 5, _ | 6, _ | 7, _ => obtain rfl := Option.some.inj hu; simp [go_sem]
  have hs5 : ((w4.alloc (.cells #[.slice Ac M cc, .int .i64 (1 + y), .slice none 0 0] 26)).alloc (.cells #[.int .i64 6, .int .i64 5, .int .i64 4, .int .i64 0, .int .i64 7, .int .i64 1, .int .i64 2, .int .i64 3] 3)).heap.size = w4.heap.size + 2 := by simp
  clear H3 G3 r3 OC3 cu4 g4 r4 kB
  go_wp2_with fail
  generalize ((w4.alloc (.cells #[.slice Ac M cc, .int .i64 (1 + y), .slice none 0 0] 26)).alloc (.cells #[.int .i64 6, .int .i64 5, .int .i64 4, .int .i64 0, .int .i64 7, .int .i64 1, .int .i64 2, .int .i64 3] 3)) = W5 at *
  refine (kRows_any _ _ (by omega) (by omega)).mono ?_
  rintro e5 w5 ⟨rfl, rfl⟩
  obtain ⟨R, hR⟩ : ∃ R : Nat, (R : Int) = 5 * (1 + y) + 1 := ⟨(5 * (1 + y) + 1).toNat, by omega⟩
  rw [← hR]
  have hRb : 6 ≤ R ∧ R ≤ 11 := by omega
  have HRd := Lib.hid hR
  clear hR
  obtain ⟨j0, hj0, hjz, hjs, hjb⟩ := info_parts infoInt
  obtain ⟨i0, hi0, hiz, his, hib⟩ := info_parts infoIntS
  have hg2 : g < w2.heap.size := by omega
  have hg4 : g < w4.heap.size := by omega
  have TS0 : Hid (TS w W5 base g (K + 3) (w4.heap.size + 1) w2.heap.size W5.heap.size M 0 (.slice Ac M cc) (.slice none 0 0) co [] []) := Lib.hid ⟨r5, sc5.out, OC4.out, OwnII.nil _ _, rfl, (fun l h => by simp at h), H4.out, G4.out, Nat.le_refl _⟩
  clear r5 sc5 OC4 H4 G4
  generalize w4.heap.size = b6 at *
  generalize W5.heap.size = BB at *
  obtain ⟨d, hd⟩ : ∃ d, d = 1 + y := ⟨_, rfl⟩
  rw [← hd] at b5 HRd ⊢
  have HD := Lib.hid hd
  clear hd
  go_wp2_with fail
  go_loopw [9, 10, 11] (fun iv _ _ wx => ∃ q : Nat, q ≤ R ∧ iv = .int .i64 q ∧ ∃ (A : Option Addr) (cr : Nat) (rs : List (List Int)) (vs : List Value), Live3 wx b6 (.slice Ac M cc) (.int .i64 d) (.slice A q cr) ∧ Hid (TS w wx base g (K + 3 + 6 * q) (b6 + 1) w2.heap.size BB M q (.slice Ac M cc) (.slice A q cr) co rs vs)) (fun iv _ _ _ => R - (intOf iv).toNat)
  case atStart => exact ⟨0, by omega, rfl, none, 0, [], [], b5, TS0⟩
  case round =>
    clear b5 TS0
    obtain ⟨q, hq, rfl, A, cr, rs, vs, bq, HT⟩ := hrel
    generalize wr = wq at *
    by_cases hlt : q < R
    · have hlt' : (q : Int) < R := by omega
      go_wp2_with fail
      go_loopw [10, 11, 51] (fun rv _ jv wy => ∃ j : Nat, j ≤ M ∧ jv = .int .i64 j ∧ ∃ l : List Int, l.length = j ∧ Hid (OwnI wy wq.heap.size rv l ∧ Cu wy base g (K + 3 + 6 * q + j) ∧ wq.grownBy wy (some g))) (fun _ _ jv _ => M - (intOf jv).toNat)
      case atStart => exact ⟨0, by omega, rfl, [], rfl, Lib.hid ⟨OwnI.nil _ _, HT.out.cu, World.grownBy.refl _ _⟩⟩
      case round =>
        obtain ⟨j, hj, rfl, l, hl, HJ⟩ := hrel
        generalize wr = wy at *
        by_cases hjM : j < M
        · have hjM' : (j : Int) < M := by omega
          have hR0 : R ≠ 0 := by omega
          have QAb := tdiv_nn (a := 5 * (q : Int)) (p := (R : Int)) (by omega) (by omega)
          have QBb := tdiv_nn (a := (j : Int) * 2) (p := 3) (by omega) (by omega)
          have e0 : IntKind.i64.wrap (5 * (q : Int)) = 5 * (q : Int) := IntWalk.i64_in _ (by omega)
          have e1 : IntKind.i64.wrap ((5 * (q : Int)).tdiv (R : Int)) = (5 * (q : Int)).tdiv (R : Int) := IntWalk.i64_in _ (by omega)
          have e2 : IntKind.i64.wrap ((j : Int) * 2) = (j : Int) * 2 := IntWalk.i64_in _ (by omega)
          have e3 : IntKind.i64.wrap (((j : Int) * 2).tdiv 3) = ((j : Int) * 2).tdiv 3 := IntWalk.i64_in _ (by omega)
          go_wp2_with fail
          refine wp_region_held_drew (S := fun _ => True) (by kernel_rfl) trivial (fun hHeld => ?_)
          have kd : Kp wy wy.drew := (Kp.refl _).drew
          have HJ2 : Hid (OwnI wy.drew wq.heap.size _ l ∧ Cu wy.drew base g (K + 3 + 6 * q + j) ∧ wq.grownBy wy.drew (some g)) := Lib.hid ⟨HJ.out.1.keep kd, HJ.out.2.1.keep kd, grown_keep HJ.out.2.2 kd⟩
          clear kd HJ
          generalize wy.drew = wz at *
          refine wpAnyH_take (i := 0) (oi := ⟨some 54, _, _, _, _, _⟩) (v := ?_) rfl (by kernel_rfl) (by kernel_rfl) (by kernel_rfl) (fun _ _ _ h => h) (Or.inl ⟨by rfl, ?_⟩) (by assumption) ?_
          rotate_left
          · intro w hSw; go_simp; (all_goals with_reducible rfl)
          simp only [Act.put, List.setIfInBounds_toArray, List.set_cons_zero, List.set_cons_succ]
          refine wpAnyH_take (i := 1) (oi := ⟨some 55, _, _, _, _, _⟩) (v := ?_) rfl (by kernel_rfl) (by kernel_rfl) (by kernel_rfl) (fun _ _ _ h => h) (Or.inl ⟨by rfl, ?_⟩) (by assumption) ?_
          rotate_left
          · intro w hSw; go_simp; (all_goals with_reducible rfl)
          simp only [Act.put, List.setIfInBounds_toArray, List.set_cons_zero, List.set_cons_succ]
          refine wpAnyH_take (i := 2) (oi := ⟨some 56, _, _, _, _, _⟩) (v := ?_) rfl (by kernel_rfl) (by kernel_rfl) (by kernel_rfl) (fun _ _ _ h => h) (Or.inl ⟨by rfl, ?_⟩) (by assumption) ?_
          rotate_left
          · intro w hSw; go_simp; (all_goals with_reducible rfl)
          simp only [Act.put, List.setIfInBounds_toArray, List.set_cons_zero, List.set_cons_succ]
          refine wpAnyH_take (i := 3) (oi := ⟨some 57, _, _, _, _, _⟩) (v := ?_) rfl (by kernel_rfl) (by kernel_rfl) (by kernel_rfl) (fun _ _ _ h => h) (Or.inl ⟨by rfl, ?_⟩) (by assumption) ?_
          rotate_left
          · intro w hSw; go_simp; (all_goals with_reducible rfl)
          simp only [Act.put, List.setIfInBounds_toArray, List.set_cons_zero, List.set_cons_succ]
          refine wpAnyH_take (i := 4) (oi := ⟨some 58, _, _, _, _, _⟩) (v := ?_) rfl (by kernel_rfl) (by kernel_rfl) (by kernel_rfl) (fun _ _ _ h => h) (Or.inl ⟨by rfl, ?_⟩) (by assumption) ?_
          rotate_left
          · intro w hSw; go_simp; (all_goals with_reducible rfl)
          simp only [Act.put, List.setIfInBounds_toArray, List.set_cons_zero, List.set_cons_succ]
          refine wpAnyH_take (i := 5) (oi := ⟨some 59, _, _, _, _, _⟩) (v := ?_) rfl (by kernel_rfl) (by kernel_rfl) (by kernel_rfl) (fun _ _ _ h => h) (Or.inl ⟨by rfl, ?_⟩) (by assumption) ?_
          rotate_left
          · intro w hSw; go_simp; (all_goals with_reducible rfl)
          simp only [Act.put, List.setIfInBounds_toArray, List.set_cons_zero, List.set_cons_succ]
          generalize (5 * (q : Int)).tdiv (R : Int) = QA at *
          refine wpAnyH_take (i := 6) (oi := ⟨some 60, _, _, _, _, _⟩) (v := ?_) rfl (by kernel_rfl) (by kernel_rfl) (by kernel_rfl) (fun _ _ _ h => h) (Or.inl ⟨by rfl, ?_⟩) (by assumption) ?_
          rotate_left
          · intro w hSw; go_simp; (all_goals with_reducible rfl)
          simp only [Act.put, List.setIfInBounds_toArray, List.set_cons_zero, List.set_cons_succ]
          refine wpAnyH_take (i := 7) (oi := ⟨some 61, _, _, _, _, _⟩) (v := ?_) rfl (by kernel_rfl) (by kernel_rfl) (by kernel_rfl) (fun _ _ _ h => h) (Or.inl ⟨by rfl, ?_⟩) (by assumption) ?_
          rotate_left
          · intro w hSw; go_simp; (all_goals with_reducible rfl)
          simp only [Act.put, List.setIfInBounds_toArray, List.set_cons_zero, List.set_cons_succ]
          refine wpAnyH_take (i := 8) (oi := ⟨some 62, _, _, _, _, _⟩) (v := ?_) rfl (by kernel_rfl) (by kernel_rfl) (by kernel_rfl) (fun _ _ _ h => h) (Or.inl ⟨by rfl, ?_⟩) (by assumption) ?_
          rotate_left
          · intro w hSw; go_simp; (all_goals with_reducible rfl)
          simp only [Act.put, List.setIfInBounds_toArray, List.set_cons_zero, List.set_cons_succ]
          generalize ((j : Int) * 2).tdiv 3 = QB at *
          have e4 : IntKind.i64.wrap (QA + QB) = QA + QB := IntWalk.i64_in _ (by omega)
          refine wpAnyH_take (i := 9) (oi := ⟨some 63, _, _, _, _, _⟩) (v := ?_) rfl (by kernel_rfl) (by kernel_rfl) (by kernel_rfl) (fun _ _ _ h => h) (Or.inl ⟨by rfl, ?_⟩) (by assumption) ?_
          rotate_left
          · intro w hSw; go_simp; (all_goals with_reducible rfl)
          simp only [Act.put, List.setIfInBounds_toArray, List.set_cons_zero, List.set_cons_succ]
          refine wpAnyH_take (i := 10) (oi := ⟨some 64, _, _, _, _, _⟩) (v := ?_) rfl (by kernel_rfl) (by kernel_rfl) (by kernel_rfl) (fun _ _ _ h => h) (Or.inl ⟨by rfl, ?_⟩) (by assumption) ?_
          rotate_left
          · intro w hSw; go_simp; (all_goals with_reducible rfl)
          simp only [Act.put, List.setIfInBounds_toArray, List.set_cons_zero, List.set_cons_succ]
          refine wpAnyH_ready (rs := [11]) (by kernel_rfl) (by simp) ?_
          refine AllReadyH.cons (o := ⟨some 65, _, _, _, _, _⟩) rfl (fun Kx hKx => ?_) AllReadyH.nil
          go_simp
          refine (pickC base g (K + 3 + 6 * q + j) 2 _ HJ2.out.2.1 (by omega) (by omega) (by omega)).mono ?_
          rintro e6 w6 ⟨z, rfl, z0, z1, cu6, g6⟩
          go_wp2_with fail
          refine hKx.out _ _ trivial (fun hHeld => ?_)
          clear hKx Kx
          try simp only [Act.put, List.setIfInBounds_toArray, List.set_cons_zero, List.set_cons_succ]
          have QCb := tdiv_nn (a := z) (p := 2) z0 (by omega)
          have e5 : IntKind.i64.wrap (z.tdiv 2) = z.tdiv 2 := IntWalk.i64_in _ (by omega)
          refine wpAnyH_take (i := 12) (oi := ⟨some 66, _, _, _, _, _⟩) (v := ?_) rfl (by kernel_rfl) (by kernel_rfl) (by kernel_rfl) (fun _ _ _ h => h) (Or.inl ⟨by rfl, ?_⟩) (by assumption) ?_
          rotate_left
          · intro w hSw; go_simp; (all_goals with_reducible rfl)
          simp only [Act.put, List.setIfInBounds_toArray, List.set_cons_zero, List.set_cons_succ]
          generalize z.tdiv 2 = QC at *
          have e6 : IntKind.i64.wrap (QA + QB + QC) = QA + QB + QC := IntWalk.i64_in _ (by omega)
          refine wpAnyH_take (i := 13) (oi := ⟨some 67, _, _, _, _, _⟩) (v := ?_) rfl (by kernel_rfl) (by kernel_rfl) (by kernel_rfl) (fun _ _ _ h => h) (Or.inl ⟨by rfl, ?_⟩) (by assumption) ?_
          rotate_left
          · intro w hSw; go_simp; (all_goals with_reducible rfl)
          simp only [Act.put, List.setIfInBounds_toArray, List.set_cons_zero, List.set_cons_succ]
          refine wpAnyH_ready (rs := [14]) (by kernel_rfl) (by simp) ?_
          refine AllReadyH.cons (o := ⟨some 68, _, _, _, _, _⟩) rfl (fun Kx hKx => ?_) AllReadyH.nil
          go_simp
          refine (l1Least_any _ _ _).mono ?_
          rintro e7 w7 ⟨rfl, rfl⟩
          go_wp2_with fail
          refine hKx.out _ _ trivial (fun hHeld => ?_)
          clear hKx Kx
          try simp only [Act.put, List.setIfInBounds_toArray, List.set_cons_zero, List.set_cons_succ]
          have hmx : 0 ≤ min 7 (QA + QB + QC) ∧ min 7 (QA + QB + QC) ≤ 7 := by omega
          obtain ⟨ix, hix⟩ : ∃ ix : Nat, (ix : Int) = min 7 (QA + QB + QC) := ⟨(min 7 (QA + QB + QC)).toNat, by omega⟩
          rw [← hix]
          have hi7 : ix < 8 := by omega
          have hi7' : (ix : Int) < 8 := by omega
          clear hix hmx
          refine wpAnyH_take (i := 15) (oi := ⟨some 69, _, _, _, _, _⟩) (v := ?_) rfl (by kernel_rfl) (by kernel_rfl) (by kernel_rfl) (fun _ _ _ h => h) (Or.inl ⟨by rfl, ?_⟩) (by assumption) ?_
          rotate_left
          · intro w hSw; go_simp; (all_goals with_reducible rfl)
          simp only [Act.put, List.setIfInBounds_toArray, List.set_cons_zero, List.set_cons_succ]
          obtain ⟨u, hu⟩ : ∃ u, scaleL[ix]? = some u := ⟨_, List.getElem?_eq_getElem (show ix < scaleL.length from hi7)⟩
          have TJ := Lib.hid (HT.out.draw (HJ2.out.2.2.trans g6) cu6 (by omega) (by omega) (by omega) (by omega))
          have cu := TJ.out.sc ix u hu
          have hwq := HT.out.sz
          have OI6 := Lib.hid (HJ2.out.1.draw g6 (by omega))
          refine wpAnyH_ready (rs := [16]) (by kernel_rfl) (by simp) ?_
          refine AllReadyH.cons (o := ⟨some 70, _, _, _, _, _⟩) rfl (fun Kx hKx => ?_) AllReadyH.nil
          go_simp
          go_wp2_with fail
          refine hKx.out _ _ trivial (fun hHeld => ?_)
          clear hKx Kx
          try simp only [Act.put, List.setIfInBounds_toArray, List.set_cons_zero, List.set_cons_succ]
          refine wpAnyH_ready (rs := [17]) (by kernel_rfl) (by simp) ?_
          refine AllReadyH.cons (o := ⟨some 71, _, _, _, _, _⟩) rfl (fun Kx hKx => ?_) AllReadyH.nil
          go_simp
          go_wp2_with fail
          refine hKx.out _ _ trivial (fun hHeld => ?_)
          clear hKx Kx
          try simp only [Act.put, List.setIfInBounds_toArray, List.set_cons_zero, List.set_cons_succ]
          refine wpAnyH_ready (rs := [18]) (by kernel_rfl) (by simp) ?_
          refine AllReadyH.cons (o := ⟨some 72, _, _, _, _, _⟩) rfl (fun Kx hKx => ?_) AllReadyH.nil
          rw [if_pos (by rfl)]
          have ka : Kp w6 (w6.alloc (.cells #[.int .i64 u] 3)) := (Kp.refl w6).alloc _
          have hsz6 := g6.size
          refine step_append_ownC (.tmp 54) (.tmp 71) 41 rfl wq.heap.size 3 j0 (.int .i64 0) 1 8 Tryd.underlying41 hj0 hjz hjs hjb rfl (by decide) _ l.length (cellsI l) rfl (World.ownsRow.alloc OI6.out _) ⟨w6.heap.size, 0, none⟩ 1 1 [.int .i64 u] rfl rfl (one_cell _ _ _) (by simp [Value.oneCell']) (by simp only [maxLen]; omega) (by omega) (by have := HJ2.out.2.2.size; simp; omega) ?_
          intro v' w7 hown2 hgrow2
          have hr7 : ∀ r, Value.ownBlock _ = some r → wq.heap.size ≤ r := fun r e => (World.ownsRow.lt OI6.out r e).1
          have HJ7 : Hid (OwnI w7 wq.heap.size v' (l ++ [u]) ∧ Cu w7 base g (K + 3 + 6 * q + (j + 1)) ∧ wq.grownBy w7 (some g)) := Lib.hid ⟨OwnI.snoc (x := u) hown2, (cu6.keep ka).own hgrow2 (fun r e => by have := hr7 r e; omega), gw_own (grown_keep (HJ2.out.2.2.trans g6) ka) hgrow2 hr7⟩
          clear hown2 hgrow2 hr7
          refine hKx.out _ _ trivial (fun hHeld => ?_)
          clear hKx Kx
          try simp only [Act.put, List.setIfInBounds_toArray, List.set_cons_zero, List.set_cons_succ]
          refine wpAnyH_ready (rs := [19]) (by kernel_rfl) (by simp) ?_
          refine AllReadyH.cons (o := ⟨some 10, _, _, _, _, _⟩) rfl (fun Kx hKx => ?_) AllReadyH.nil
          go_simp
          go_wp2_with fail
          refine hKx.out _ _ trivial (fun hHeld => ?_)
          clear hKx Kx
          try simp only [Act.put, List.setIfInBounds_toArray, List.set_cons_zero, List.set_cons_succ]
          refine wpAnyH_done (by kernel_rfl) ?_ _
          clear TJ cu OI6 HJ2 g6 cu6 ka
          go_wp2_with fail
          go_roundw
          case rel => exact ⟨j + 1, by omega, by go_num, l ++ [u], by rw [List.length_append, hl]; rfl, HJ7⟩
          case measure => simp [intOf]; omega
        · have hjM2 : j = M := by omega
          have TY := Lib.hid (HT.out.draw HJ.out.2.2 HJ.out.2.1 (by omega) (by omega) (by omega) (by omega))
          have bq2 := live3_grown HJ.out.2.2 (fun e => by have := Option.some.inj e; omega) bq
          have HL : Hid (l.length = M) := Lib.hid (hl.trans hjM2)
          obtain ⟨Ar, ca, rfl⟩ := own_slice (n := M) (e := 3) (sz := 1) (xs := cellsI l) (by have := HJ.out.1; unfold OwnI at this; rw [hl, hjM2] at this; exact this)
          clear hl hjM2
          have hwq := HT.out.sz
          have hqy := HJ.out.2.2.size
          have orow : Hid (wy.ownsRow BB 41 1 (.slice A q cr) q vs) := Lib.hid (by have := TY.out.or.row; rw [TY.out.len] at this; exact this)
          have hr9 : Hid (∀ r, (Value.slice A q cr).ownBlock = some r → BB ≤ r) := Lib.hid fun r e => (World.ownsRow.lt orow.out r e).1
          have ka : Kp wy (wy.alloc (.cells #[.slice Ar M ca] 41)) := (Kp.refl wy).alloc _
          go_wp2_with (at_builtin; refine wpList_append_own_at _ rfl (.tmp 75) (.tmp 77) 24 rfl BB 41 i0 (.slice none 0 0) 1 24 Tryd.underlying24 hi0 hiz his hib rfl (by decide) _ q vs rfl (World.ownsRow.alloc orow.out _) ⟨wy.heap.size, 0, none⟩ 1 1 [.slice Ar M ca] rfl rfl (one_cell _ _ _) (by simp [Value.oneCell']) (by simp only [maxLen]; omega) (by omega) (by simp; omega) ?_; intro v' w9 hown2 hgrow2 hnil2 hat2; clear hnil2; have b9 := live3_grown hgrow2 (fun e => by have := hr9.out b6 e.symm; omega) (live3_keep ka bq2); obtain ⟨A', c', rfl⟩ := own_slice hown2)
          have OR9 : OwnII w9 BB (.slice A' (q + 1) c') (rs ++ [l]) (vs ++ [.slice Ar M ca]) := OwnII.snocN (n0 := wq.heap.size) TY.out.or (fun r e => (World.ownsRow.lt HT.out.or.row r e).2) (fun i y r hy e => by
            have hl2 : rs[i]? = some (rs[i]'(by have := lt_at hy; have := HT.out.or.len; omega)) := List.getElem?_eq_getElem _
            exact (World.ownsRow.lt (HT.out.or.inn i y _ hy hl2) r e).2) HJ.out.1 hwq hqy (by rw [TY.out.len]; exact hown2) hgrow2 hat2
          have k9 : w9.grownBy (w9.setCell ⟨b6, 2, none⟩ (.slice A' (q + 1) c')) (some b6) := grown_set w9 b6 2 _
          have TS9 : Hid (TS w (w9.setCell ⟨b6, 2, none⟩ (.slice A' (q + 1) c')) base g (K + 3 + 6 * (q + 1)) (b6 + 1) w2.heap.size BB M (q + 1) (.slice Ac M cc) (.slice A' (q + 1) c') co (rs ++ [l]) (vs ++ [.slice Ar M ca])) := Lib.hid ⟨
            live3_grown k9 (fun e => by have := Option.some.inj e; omega) (live3_grown hgrow2 (fun e => by have := hr9.out _ e.symm; omega) (live3_keep ka TY.out.r0)),
            fun i u hu => k9.cell (hgrow2.cell (ka.cell (TY.out.sc i u hu)) (fun e => by have := hr9.out _ e.symm; simp only at this; omega)) (fun e => by have := Option.some.inj e; simp only at this; omega),
            World.ownsRow.kept (World.ownsRow.kept (TY.out.oc.keep ka) hgrow2 (by
              cases hv : (Value.slice Ac M cc).ownBlock
              · exact .inl rfl
              · rename_i r
                refine .inr fun e => ?_
                have h1 := hcb.out r hv
                have h2 := hr9.out r e.symm
                omega)) k9 (by
              cases hv : (Value.slice Ac M cc).ownBlock
              · exact .inl rfl
              · rename_i r
                refine .inr fun e => ?_
                have h1 := hcb.out r hv
                have h2 := Option.some.inj e
                omega),
            OR9.far (by omega) _,
            by rw [List.length_append, TY.out.len]; rfl,
            fun m hm => by
              rcases List.mem_append.1 hm with hm | hm
              · exact TY.out.row m hm
              · rw [List.mem_singleton.1 hm]
                exact HL.out,
            (((TY.out.cu.keep ka).own hgrow2 (fun r e => by have := hr9.out r e; omega)).own k9 (fun r e => by have := Option.some.inj e; omega)).le (by omega),
            gw_own (gw_own (grown_keep TY.out.gr ka) hgrow2 (fun r e => by have := hr9.out r e; omega)) k9 (fun r e => by have := Option.some.inj e; omega),
            by have h1 := hgrow2.size; have h2 := k9.size; have h3 := ka.size; omega⟩
          have b10 : Live3 (w9.setCell ⟨b6, 2, none⟩ (.slice A' (q + 1) c')) b6 (.slice Ac M cc) (.int .i64 d) (.slice A' (q + 1) c') := ⟨by simp [go_sem, *], by simp [go_sem, *], by simp [go_sem, *]⟩
          clear OR9 k9 hown2 hgrow2 hat2 TY bq2 orow hr9 ka HJ HT b9
          go_wp2_with fail
          go_roundw
          case rel => exact ⟨q + 1, by omega, by go_num, A', c', _, _, b10, TS9⟩
          case measure => simp [intOf]; omega
    · have hqR : q = R := by omega
      have HN2 : w.heap.size < w2.heap.size := by omega
      have hcb2 : Hid (∀ k, (Value.slice Ac M cc).ownBlock = some k → k < BB) := Lib.hid fun k e => by have := (hcb.out k e).2; omega
      have FIN : Hid (∀ (wx : World) (K2 : Nat) (A : Option Addr) (cr : Nat) (rs : List (List Int)) (vs : List Value), K2 ≤ K + 200 → TS w wx base g K2 (b6 + 1) w2.heap.size BB M R (.slice Ac M cc) (.slice A R cr) co rs vs → TabD base g (K + 200) w (.returned (cv (.slice Ac M cc) d (.slice A R cr))) (((wx.setCell ⟨w.heap.size, 0, none⟩ (.slice Ac M cc)).setCell ⟨w.heap.size, 1, none⟩ (.int .i64 d)).setCell ⟨w.heap.size, 2, none⟩ (.slice A R cr))) := Lib.hid fun wx K2 A cr rs vs hK2 h => by
        have hr : ∀ (r : Nat), some w.heap.size = some r → base ≤ r ∧ w.heap.size ≤ r := fun r e => by have := Option.some.inj e; omega
        refine ⟨_, _, d, co, rs, vs, rfl, ((((h.fin hcb2.out (b := w.heap.size + 1) (by omega) (by omega)).far (by omega) _).far (by omega) _).far (by omega) _).base (by omega), by omega, by have := HD.out; omega, by have := HRd.out; have := HD.out; have := h.len; omega, fun l hl => by rw [h.row l hl, hco], ?_, ?_⟩
        · exact (((h.cu.own (grown_set _ _ _ _) (fun r e => (hr r e).1)).own (grown_set _ _ _ _) (fun r e => (hr r e).1)).own (grown_set _ _ _ _) (fun r e => (hr r e).1)).le hK2
        · exact gw_own (gw_own (gw_own h.gr (grown_set _ _ _ _) (fun r e => (hr r e).2)) (grown_set _ _ _ _) (fun r e => (hr r e).2)) (grown_set _ _ _ _) (fun r e => (hr r e).2)
      go_wp2_with fail
      refine (oneC base g (K + 3 + 6 * q) 3 _ HT.out.cu (by omega) (by omega) (by omega)).mono ?_
      rintro e8 w8 ⟨bb, rfl, cu8, g8⟩
      have TX := Lib.hid (HT.out.draw g8 cu8 (by omega) (by omega) (by omega) (by omega))
      have bx8 := live3_grown g8 (fun e => by have := Option.some.inj e; omega) bq
      clear HT cu8 g8 bq
      rw [hqR] at TX bx8
      cases bb
      · have r0 := TX.out.r0
        go_wp2_with fail
        exact bodyPost_ret (v := cv (.slice Ac M cc) d (.slice A R cr)) (by simp [results, Tryd.results39, go_sem, *]) rfl (FIN.out _ _ _ _ _ _ (by omega) TX.out)
      · obtain ⟨br, cr2, hcr⟩ := own_row (n := R) (e := 41) (sz := 1) (xs := vs) (by have := TX.out.or.row; rw [TX.out.len] at this; exact this) (by omega)
        simp only [Value.slice.injEq, true_and] at hcr
        obtain ⟨rfl, rfl⟩ := hcr
        have TZ := Lib.hid (TX.out.keepK ((Kp.refl w8).drew))
        have bz8 := live3_keep ((Kp.refl w8).drew) bx8
        go_wp2_with fail
        clear TX bx8
        have orow : w8.drew.ownsRow BB 41 1 (.slice (some ⟨br, 0, none⟩) R cr) R vs := by have := TZ.out.or.row; rw [TZ.out.len] at this; exact this
        have hbr : BB ≤ br := (World.ownsRow.lt orow br rfl).1
        have S0 : (fun w' => w'.cell? ⟨b6, 2, none⟩ = some (.slice (some ⟨br, 0, none⟩) R cr) ∧ w'.cell? ⟨b6, 0, none⟩ = some (.slice Ac M cc) ∧ ∀ (i : Nat) x, vs[i]? = some x → w'.cell? ⟨br, i, none⟩ = some x) w8.drew := ⟨bz8.2.2.1, bz8.1.1, fun i x hx => (World.ownsRow.cellAt orow i (by have := lt_at hx; have := orow.1; omega)).trans hx⟩
        have cv0 := TZ.out.cu
        clear orow
        refine wp_region_held_drew (S := (fun w' => w'.cell? ⟨b6, 2, none⟩ = some (.slice (some ⟨br, 0, none⟩) R cr) ∧ w'.cell? ⟨b6, 0, none⟩ = some (.slice Ac M cc) ∧ ∀ (i : Nat) x, vs[i]? = some x → w'.cell? ⟨br, i, none⟩ = some x)) (by kernel_rfl) S0 (fun hHeld => ?_)
        generalize w8.drew = wv at *
        refine wpAnyH_take (i := 0) (oi := ⟨some 82, _, _, _, _, _⟩) (v := ?_) rfl (by kernel_rfl) (by kernel_rfl) (by kernel_rfl) (fun _ _ _ h => h) (Or.inl ⟨by rfl, ?_⟩) (by assumption) ?_
        rotate_left
        · intro w hSw; (try dsimp only at hSw); go_simp; (all_goals with_reducible rfl)
        simp only [Act.put, List.setIfInBounds_toArray, List.set_cons_zero, List.set_cons_succ]
        refine wpAnyH_take (i := 2) (oi := ⟨some 84, _, _, _, _, _⟩) (v := ?_) rfl (by kernel_rfl) (by kernel_rfl) (by kernel_rfl) (fun _ _ _ h => h) (Or.inl ⟨by rfl, ?_⟩) (by assumption) ?_
        rotate_left
        · intro w hSw; (try dsimp only at hSw); go_simp; (all_goals with_reducible rfl)
        simp only [Act.put, List.setIfInBounds_toArray, List.set_cons_zero, List.set_cons_succ]
        refine wpAnyH_take (i := 3) (oi := ⟨some 85, _, _, _, _, _⟩) (v := ?_) rfl (by kernel_rfl) (by kernel_rfl) (by kernel_rfl) (fun _ _ _ h => h) (Or.inl ⟨by rfl, ?_⟩) (by assumption) ?_
        rotate_left
        · intro w hSw; (try dsimp only at hSw); go_simp; (all_goals with_reducible rfl)
        simp only [Act.put, List.setIfInBounds_toArray, List.set_cons_zero, List.set_cons_succ]
        refine wpAnyH_take (i := 7) (oi := ⟨some 89, _, _, _, _, _⟩) (v := ?_) rfl (by kernel_rfl) (by kernel_rfl) (by kernel_rfl) (fun _ _ _ h => h) (Or.inl ⟨by rfl, ?_⟩) (by assumption) ?_
        rotate_left
        · intro w hSw; (try dsimp only at hSw); go_simp; (all_goals with_reducible rfl)
        simp only [Act.put, List.setIfInBounds_toArray, List.set_cons_zero, List.set_cons_succ]
        refine wpAnyH_take (i := 8) (oi := ⟨some 90, _, _, _, _, _⟩) (v := ?_) rfl (by kernel_rfl) (by kernel_rfl) (by kernel_rfl) (fun _ _ _ h => h) (Or.inl ⟨by rfl, ?_⟩) (by assumption) ?_
        rotate_left
        · intro w hSw; (try dsimp only at hSw); go_simp; (all_goals with_reducible rfl)
        simp only [Act.put, List.setIfInBounds_toArray, List.set_cons_zero, List.set_cons_succ]
        refine wpAnyH_take (i := 12) (oi := ⟨some 94, _, _, _, _, _⟩) (v := ?_) rfl (by kernel_rfl) (by kernel_rfl) (by kernel_rfl) (fun _ _ _ h => h) (Or.inl ⟨by rfl, ?_⟩) (by assumption) ?_
        rotate_left
        · intro w hSw; (try dsimp only at hSw); go_simp; (all_goals with_reducible rfl)
        simp only [Act.put, List.setIfInBounds_toArray, List.set_cons_zero, List.set_cons_succ]
        refine wpAnyH_take (i := 1) (oi := ⟨some 83, _, _, _, _, _⟩) (v := ?_) rfl (by kernel_rfl) (by kernel_rfl) (by kernel_rfl) (fun _ _ _ h => h) (Or.inl ⟨by rfl, ?_⟩) (by assumption) ?_
        rotate_left
        · intro w hSw; (try dsimp only at hSw); obtain ⟨hS1, hS2, hS3⟩ := hSw; go_simp; (all_goals with_reducible rfl)
        simp only [Act.put, List.setIfInBounds_toArray, List.set_cons_zero, List.set_cons_succ]
        refine wpAnyH_take (i := 9) (oi := ⟨some 91, _, _, _, _, _⟩) (v := ?_) rfl (by kernel_rfl) (by kernel_rfl) (by kernel_rfl) (fun _ _ _ h => h) (Or.inl ⟨by rfl, ?_⟩) (by assumption) ?_
        rotate_left
        · intro w hSw; (try dsimp only at hSw); obtain ⟨hS1, hS2, hS3⟩ := hSw; go_simp; (all_goals with_reducible rfl)
        simp only [Act.put, List.setIfInBounds_toArray, List.set_cons_zero, List.set_cons_succ]
        refine wpAnyH_take (i := 10) (oi := ⟨some 92, _, _, _, _, _⟩) (v := ?_) rfl (by kernel_rfl) (by kernel_rfl) (by kernel_rfl) (fun _ _ _ h => h) (Or.inl ⟨by rfl, ?_⟩) (by assumption) ?_
        rotate_left
        · intro w hSw; (try dsimp only at hSw); go_simp; (all_goals with_reducible rfl)
        simp only [Act.put, List.setIfInBounds_toArray, List.set_cons_zero, List.set_cons_succ]
        refine wpAnyH_ready (rs := [4]) (by kernel_rfl) (by simp) ?_
        refine AllReadyH.cons (o := ⟨some 86, _, _, _, _, _⟩) rfl (fun Kx hKx => ?_) AllReadyH.nil
        go_simp
        refine (pickC base g (K + 3 + 6 * R + 1) (R : Int) _ cv0 (by omega) (by omega) (by omega)).mono ?_
        rintro e4 wa ⟨xa, rfl, xa0, xa1, cu4, ga⟩
        have S1 : (fun w' => w'.cell? ⟨b6, 2, none⟩ = some (.slice (some ⟨br, 0, none⟩) R cr) ∧ w'.cell? ⟨b6, 0, none⟩ = some (.slice Ac M cc) ∧ ∀ (i : Nat) x, vs[i]? = some x → w'.cell? ⟨br, i, none⟩ = some x) wa := by
          exact ⟨ga.cell S0.1 (fun e => by have := Option.some.inj e; simp only at this; omega), ga.cell S0.2.1 (fun e => by have := Option.some.inj e; simp only at this; omega), fun i x hx => ga.cell (S0.2.2 i x hx) (fun e => by have := Option.some.inj e; simp only at this; omega)⟩
        go_wp2_with fail
        refine hKx.out _ _ ?_ (fun hHeld => ?_)
        · exact S1
        clear hKx Kx
        try simp only [Act.put, List.setIfInBounds_toArray, List.set_cons_zero, List.set_cons_succ]
        obtain ⟨a, rfl⟩ := Int.eq_ofNat_of_zero_le xa0
        have ha : a < R := by omega
        obtain ⟨x, hx⟩ : ∃ x, vs[a]? = some x := ⟨_, List.getElem?_eq_getElem (show a < vs.length by have := TZ.out.or.len; have := TZ.out.len; omega)⟩
        obtain ⟨l, hl⟩ : ∃ l, rs[a]? = some l := ⟨_, List.getElem?_eq_getElem (show a < rs.length by have := TZ.out.len; omega)⟩
        have hlM : Hid (l.length = M) := Lib.hid (TZ.out.row l (List.mem_of_getElem? hl))
        obtain ⟨bx, cx, rfl⟩ := own_row (n := M) (e := 3) (sz := 1) (xs := cellsI l) (by have := TZ.out.or.inn a x l hx hl; unfold OwnI at this; rw [hlM.out] at this; exact this) (by omega)
        have ha' : (a : Int) < R := by omega
        refine wpAnyH_take (i := 5) (oi := ⟨some 87, _, _, _, _, _⟩) (v := ?_) rfl (by kernel_rfl) (by kernel_rfl) (by kernel_rfl) (fun _ _ _ h => h) (Or.inl ⟨by rfl, ?_⟩) (by assumption) ?_
        rotate_left
        · intro w hSw; (try dsimp only at hSw); go_simp; (all_goals with_reducible rfl)
        simp only [Act.put, List.setIfInBounds_toArray, List.set_cons_zero, List.set_cons_succ]
        refine wpAnyH_take (i := 6) (oi := ⟨some 88, _, _, _, _, _⟩) (v := ?_) rfl (by kernel_rfl) (by kernel_rfl) (by kernel_rfl) (fun _ _ _ h => h) (Or.inl ⟨by rfl, ?_⟩) (by assumption) ?_
        rotate_left
        · intro w hSw; (try dsimp only at hSw); obtain ⟨hS1, hS2, hS3⟩ := hSw; have hSx := hS3 a _ hx; go_simp; (all_goals with_reducible rfl)
        simp only [Act.put, List.setIfInBounds_toArray, List.set_cons_zero, List.set_cons_succ]
        refine wpAnyH_ready (rs := [11]) (by kernel_rfl) (by simp) ?_
        refine AllReadyH.cons (o := ⟨some 93, _, _, _, _, _⟩) rfl (fun Kx hKx => ?_) AllReadyH.nil
        go_simp
        refine (pickC base g (K + 3 + 6 * R + 1 + 1) (M : Int) _ cu4 (by omega) (by omega) (by omega)).mono ?_
        rintro e11 wb ⟨xb, rfl, xb0, xb1, cu11, gb⟩
        have S2 : (fun w' => w'.cell? ⟨b6, 2, none⟩ = some (.slice (some ⟨br, 0, none⟩) R cr) ∧ w'.cell? ⟨b6, 0, none⟩ = some (.slice Ac M cc) ∧ ∀ (i : Nat) x, vs[i]? = some x → w'.cell? ⟨br, i, none⟩ = some x) wb := by
          exact ⟨gb.cell S1.1 (fun e => by have := Option.some.inj e; simp only at this; omega), gb.cell S1.2.1 (fun e => by have := Option.some.inj e; simp only at this; omega), fun i x hx => gb.cell (S1.2.2 i x hx) (fun e => by have := Option.some.inj e; simp only at this; omega)⟩
        go_wp2_with fail
        refine hKx.out _ _ ?_ (fun hHeld => ?_)
        · exact S2
        clear hKx Kx
        try simp only [Act.put, List.setIfInBounds_toArray, List.set_cons_zero, List.set_cons_succ]
        obtain ⟨k, rfl⟩ := Int.eq_ofNat_of_zero_le xb0
        have hk : k < M := by omega
        have hk' : (k : Int) < M := by omega
        refine wpAnyH_ready (rs := [13]) (by kernel_rfl) (by simp) ?_
        refine AllReadyH.cons (o := ⟨some 95, _, _, _, _, _⟩) rfl (fun Kx hKx => ?_) AllReadyH.nil
        go_simp
        refine (pickC base g (K + 3 + 6 * R + 1 + 1 + 1) 8 _ cu11 (by omega) (by omega) (by omega)).mono ?_
        rintro e13 wc ⟨xc, rfl, xc0, xc1, cu13, gc⟩
        have S3 : (fun w' => w'.cell? ⟨b6, 2, none⟩ = some (.slice (some ⟨br, 0, none⟩) R cr) ∧ w'.cell? ⟨b6, 0, none⟩ = some (.slice Ac M cc) ∧ ∀ (i : Nat) x, vs[i]? = some x → w'.cell? ⟨br, i, none⟩ = some x) wc := by
          exact ⟨gc.cell S2.1 (fun e => by have := Option.some.inj e; simp only at this; omega), gc.cell S2.2.1 (fun e => by have := Option.some.inj e; simp only at this; omega), fun i x hx => gc.cell (S2.2.2 i x hx) (fun e => by have := Option.some.inj e; simp only at this; omega)⟩
        go_wp2_with fail
        refine hKx.out _ _ ?_ (fun hHeld => ?_)
        · exact S3
        clear hKx Kx
        try simp only [Act.put, List.setIfInBounds_toArray, List.set_cons_zero, List.set_cons_succ]
        refine wpAnyH_take (i := 14) (oi := ⟨some 96, _, _, _, _, _⟩) (v := ?_) rfl (by kernel_rfl) (by kernel_rfl) (by kernel_rfl) (fun _ _ _ h => h) (Or.inl ⟨by rfl, ?_⟩) (by assumption) ?_
        rotate_left
        · intro w hSw; (try dsimp only at hSw); go_simp; (all_goals with_reducible rfl)
        simp only [Act.put, List.setIfInBounds_toArray, List.set_cons_zero, List.set_cons_succ]
        have G3 := (ga.trans gb).trans gc
        have TC := Lib.hid (TZ.out.draw G3 cu13 (by omega) (by omega) (by omega) (by omega))
        have bC := live3_grown G3 (fun e => by have := Option.some.inj e; omega) bz8
        obtain ⟨⟨uu, huu⟩, hfz, hbx, hne, TP⟩ := TC.out.put hx hl hk xc hb (by omega) (by omega) hcb2.out
        have hnbr : br ≠ bx := hne br rfl
        have k9 := grown_set wc bx k (.int .i64 xc)
        have S4 : (fun w' => w'.cell? ⟨b6, 2, none⟩ = some (.slice (some ⟨br, 0, none⟩) R cr) ∧ w'.cell? ⟨b6, 0, none⟩ = some (.slice Ac M cc) ∧ ∀ (i : Nat) x, vs[i]? = some x → w'.cell? ⟨br, i, none⟩ = some x) (wc.setCell ⟨bx, k, none⟩ (.int .i64 xc)) := by
          exact ⟨k9.cell S3.1 (fun e => by have := Option.some.inj e; simp only at this; omega), k9.cell S3.2.1 (fun e => by have := Option.some.inj e; simp only at this; omega), fun i x hx => k9.cell (S3.2.2 i x hx) (fun e => by have := Option.some.inj e; simp only at this; omega)⟩
        have bS := live3_grown k9 (fun e => by have := Option.some.inj e; omega) bC
        refine wpAnyH_ready (rs := [15]) (by kernel_rfl) (by simp) ?_
        refine AllReadyH.cons (o := ⟨none, _, _, _, _, _⟩) rfl (fun Kx hKx => ?_) AllReadyH.nil
        go_simp
        go_wp2_with fail
        refine hKx.out _ _ ?_ (fun hHeld => ?_)
        · exact S4
        clear hKx Kx
        try simp only [Act.put, List.setIfInBounds_toArray, List.set_cons_zero, List.set_cons_succ]
        refine wpAnyH_done (by kernel_rfl) ?_ _
        clear S0 S1 S2 S3 S4 TZ TC bC G3 ga gb gc
        have r0 := TP.r0
        go_wp2_with fail
        exact bodyPost_ret (v := cv (.slice Ac M cc) d (.slice (some ⟨br, 0, none⟩) R cr)) (by simp [results, Tryd.results39, go_sem, *]) rfl (FIN.out _ _ _ _ _ _ (by omega) TP)


end Go.Proofs.YtjpfmckoodalnaaDoor
