/-
  The text of a combat table, of both sides.
-/
import Derived.Test.YtgeophllbmjjfaaDoorKTx
namespace Go.Proofs.YtgeophllbmjjfaaDoor
open Go.RowKit

theorem tab_small {co : List (Int × Int)} {d : Int} {rs : List (List Int)} (h : tabOk co d rs = true) :
    (0 ≤ d ∧ d < 100) ∧ (∀ x ∈ co, (0 ≤ x.1 ∧ x.1 < 100) ∧ 0 ≤ x.2 ∧ x.2 < 100) ∧ ∀ x ∈ rs, x.length ≤ 1048576 ∧ ∀ y ∈ x, 0 ≤ y ∧ y < 100 := by
  have h0 := tabOk_d h
  have h1 := tabOk_n h
  refine ⟨⟨by omega, by omega⟩, fun x hx => ?_, fun x hx => ?_⟩
  · obtain ⟨j, hj⟩ := List.getElem?_of_mem hx
    have := tabOk_col h hj
    omega
  · obtain ⟨j, hj⟩ := List.getElem?_of_mem hx
    have h4 := (tabOk_parts h).2.2.2
    have h5 := allN_at h4 (List.getElem?_eq_some_iff.1 hj).1
    have e : rs.getD j [] = x := by simp [List.getD, hj]
    simp only [rowF, rowOk, e, Bool.and_eq_true, decide_eq_true_eq, List.all_eq_true] at h5
    refine ⟨by omega, fun y hy => ?_⟩
    have := spB_true (h5.2 y hy)
    omega

set_option maxRecDepth 100000 in
set_option maxHeartbeats 2000000 in
theorem specTableText_any (c r : Value) (d : Int) (co : List (Int × Int)) (rs : List (List Int)) (w : World) (h : CtAt w c r co rs) :
    Calls Tryd.prog 6 #[cv c d r] w fun e w' => e = .returned (.tuple #[.string (if tabOk co d rs then txt (tabTx co d rs) else ⟨#[]⟩), .bool (tabOk co d rs)]) ∧ Kp w w' := by
  obtain ⟨A, c1, ec, hA⟩ := h.rc
  obtain ⟨B, c2, vs, er, hvs, hB, hI⟩ := h.rr
  obtain ⟨m, hm⟩ : ∃ m, co.length = m := ⟨_, rfl⟩
  obtain ⟨n, hn⟩ : ∃ n, rs.length = n := ⟨_, rfl⟩
  rw [hm] at ec
  rw [hn] at er
  subst ec er
  have HL := Lib.hid h
  have KA : Kp w (w.alloc (.cells #[.slice A m c1, .int .i64 d, .slice B n c2] 31)) := (Kp.refl w).alloc _
  have s0 : (w.alloc (.cells #[.slice A m c1, .int .i64 d, .slice B n c2] 31)).cell? ⟨w.heap.size, 0, none⟩ = some (.slice A m c1) ∧ (w.alloc (.cells #[.slice A m c1, .int .i64 d, .slice B n c2] 31)).cell? ⟨w.heap.size, 1, none⟩ = some (.int .i64 d) ∧ (w.alloc (.cells #[.slice A m c1, .int .i64 d, .slice B n c2] 31)).cell? ⟨w.heap.size, 2, none⟩ = some (.slice B n c2) := ⟨by simp [go_sem], by simp [go_sem], by simp [go_sem]⟩
  clear h hvs hA hB hI hm hn
  go_enter Tryd.func6, Tryd.ntmps6
  go_wp2_with fail
  generalize (w.alloc (.cells #[.slice A m c1, .int .i64 d, .slice B n c2] 31)) = W0 at *
  refine (kGood_any _ _ d co rs _ (HL.out.keep KA)).mono ?_
  rintro e1 w1 ⟨rfl, k1⟩
  obtain ⟨t0, t1, t2⟩ : w1.cell? ⟨w.heap.size, 0, none⟩ = some (.slice A m c1) ∧ w1.cell? ⟨w.heap.size, 1, none⟩ = some (.int .i64 d) ∧ w1.cell? ⟨w.heap.size, 2, none⟩ = some (.slice B n c2) := ⟨k1.cell s0.1, k1.cell s0.2.1, k1.cell s0.2.2⟩
  have KB := KA.trans k1
  cases hok : tabOk co d rs
  · go_wp2_with fail
    all_goals (go_ret2; exact ⟨rfl, KB⟩)
  · obtain ⟨h1, h2, h3⟩ := tab_small hok
    have CK := Lib.hid (kText_any (.slice A m c1) (.slice B n c2) d co rs w1 (HL.out.keep KB) h1 h2 h3)
    clear h1 h2 h3
    go_wp2_with fail
    refine CK.out.mono ?_
    rintro e2 w2 ⟨rfl, k2⟩
    go_wp2_with fail
    go_ret2
    exact ⟨rfl, KB.trans k2⟩

/-- The words of a table's first line, as far as the q-th column. -/
def wordsL (co : List (Int × Int)) (q : Nat) : List ByteArray := txt [111, 100, 100, 115] :: (co.take q).map fun x => txt (colT x)
theorem wordsL_more {l : List (Int × Int)} {q : Nat} {x : Int × Int} (h : l[q]? = some x) : wordsL l (q + 1) = wordsL l q ++ [txt (colT x)] := by
  rw [wordsL, List.take_add_one, h]
  simp [wordsL]
theorem wordsL_len {l : List (Int × Int)} {q : Nat} (h : q ≤ l.length) : (wordsL l q).length = q + 1 := by
  simp [wordsL, List.length_take]
  omega
/-- An append to an owned row, as one operation of a drawn region. -/
theorem step_append_own {P : Program} {o : Oper} {a : Act} {w : World} {K : Act → World → Prop} {Q : Exit → Act → World → Prop} (s x : Operand) (t : TypeId)
    (ho : o.op = .call { callee := .builtin .append, args := #[s, x], argTypes := #[t, t] })
    (base : Nat) (e : TypeId) (i : TypeInfo) (z : Value) (size bytes : Nat) (ht : P.underlying t = some (.slice e)) (hi : P.info? e = some i) (hz : i.zero = some z)
    (hsize : i.size = size) (hby : i.bytes = bytes) (hzs : z.cells.size = size) (hsz : 0 < size)
    (v : Value) (n : Nat) (xs : List Value) (hs : a.eval s = v) (hown : w.ownsRow base e size v n xs)
    (ad : Addr) (m c : Nat) (news : List Value) (hx : a.eval x = .slice (some ad) m c) (hl : news.length = m * size) (hnews : ∀ j u, news[j]? = some u → w.cell? (ad.add j) = some u) (h1 : ∀ u ∈ news, u.oneCell' = true)
    (h63 : n + m ≤ maxLen) (hbytes : (n + m) * bytes ≤ 140737488355328) (hbase : base ≤ w.heap.size)
    (h : ∀ v' w', w'.ownsRow base e size v' (n + m) (xs ++ news) → w.grownBy w' v.ownBlock → K (a.put o.dst v') w') : Oper.wp P o a w K Q := by
  obtain ⟨v', w', hr, h2, h3, _⟩ := run_append_own (P := P) (w := w) base t o.type e i z size bytes ht hi hz hsize hby hzs hsz v n xs hown ad m c news hl hnews h1 h63 hbytes hbase
  unfold Oper.wp execOp
  simp only [ho, resolve, invoke, builtin, Sem.run_bind, Sem.run_pure, Result.andThen_ok, List.map_toArray, List.map_cons, List.map_nil, hs, hx, hr]
  exact h v' w' h2 h3

theorem row_shape {w : World} {base n : Nat} {e : TypeId} {v : Value} {xs : List Value} (h : w.ownsRow base e 1 v n xs) (h0 : 0 < n) :
    ∃ g cap, v = .slice (some ⟨g, 0, none⟩) n cap ∧ base ≤ g ∧ g < w.heap.size ∧ n ≤ cap := by
  have hl := World.ownsRow.lt h
  rcases h.2 with ⟨_, h1⟩ | ⟨g, cap, cur, e1, h2, _, h3, _⟩
  · omega
  · exact ⟨g, cap, e1, h2, (hl g (by rw [e1]; rfl)).2, h3⟩
theorem infoString : (Tryd.prog.info? 9).map (fun i => (i.zero, i.size, i.bytes)) = some (some (.string ⟨#[]⟩), 1, 16) := by kernel_rfl

set_option maxRecDepth 100000 in
set_option maxHeartbeats 4000000 in
theorem tableText_any (c r : Value) (d : Int) (co : List (Int × Int)) (rs : List (List Int)) (w : World) (h : CtAt w c r co rs) (hs : TbSp w) :
    Calls Tryd.prog 8 #[cv c d r] w fun e w' => e = .returned (.tuple #[.string (if tabOk co d rs then txt (tabTx co d rs) else ⟨#[]⟩), .bool (tabOk co d rs)]) ∧ Kp w w' := by
  obtain ⟨A, c1, ec, hA⟩ := h.rc
  obtain ⟨B, c2, vs, er, hvs, hB, hI⟩ := h.rr
  have hbc := h.bc
  have hbr := h.br
  obtain ⟨m, hm⟩ : ∃ m, co.length = m := ⟨_, rfl⟩
  obtain ⟨n, hn⟩ : ∃ n, rs.length = n := ⟨_, rfl⟩
  rw [hm] at ec hA hbc
  rw [hn] at er hvs hB hbr
  subst ec er
  have HL := Lib.hid h
  have HA := Lib.hid hA
  have HB := Lib.hid hB
  have HI := Lib.hid hI
  have HV := Lib.hid hvs
  have HM := Lib.hid hm
  have HN := Lib.hid hn
  have KA : Kp w (w.alloc (.cells #[.slice A m c1, .int .i64 d, .slice B n c2] 31)) := (Kp.refl w).alloc _
  have s0 : (w.alloc (.cells #[.slice A m c1, .int .i64 d, .slice B n c2] 31)).cell? ⟨w.heap.size, 0, none⟩ = some (.slice A m c1) ∧ (w.alloc (.cells #[.slice A m c1, .int .i64 d, .slice B n c2] 31)).cell? ⟨w.heap.size, 1, none⟩ = some (.int .i64 d) ∧ (w.alloc (.cells #[.slice A m c1, .int .i64 d, .slice B n c2] 31)).cell? ⟨w.heap.size, 2, none⟩ = some (.slice B n c2) := ⟨by simp [go_sem], by simp [go_sem], by simp [go_sem]⟩
  have Z0 : (w.alloc (.cells #[.slice A m c1, .int .i64 d, .slice B n c2] 31)).heap.size = w.heap.size + 1 := by simp
  have C1 := Lib.hid (isCombatTable_any (.slice A m c1) (.slice B n c2) d co rs (w.alloc (.cells #[.slice A m c1, .int .i64 d, .slice B n c2] 31)) (h.keep KA) (hs.keep KA))
  obtain ⟨j0, hj0, hj1⟩ := Option.map_eq_some_iff.1 infoString
  have hz0 : j0.zero = some (.string ⟨#[]⟩) := congrArg (·.1) hj1
  have hs0 : j0.size = 1 := congrArg (·.2.1) hj1
  have hb0 : j0.bytes = 16 := congrArg (·.2.2) hj1
  clear h hs hvs hA hB hI hm hn hj1
  cases hok : tabOk co d rs
  · rw [hok] at C1
    go_enter Tryd.func8, Tryd.ntmps8
    go_wp2_with fail
    generalize (w.alloc (.cells #[.slice A m c1, .int .i64 d, .slice B n c2] 31)) = W0 at *
    refine C1.out.mono ?_
    rintro e1 w1 ⟨rfl, k1⟩
    go_wp2_with fail
    go_ret2
    exact ⟨rfl, KA.trans k1⟩
  rw [hok] at C1
  obtain ⟨h1, h2, h3⟩ := tab_small hok
  obtain ⟨dn, rfl⟩ : ∃ dn : Nat, d = dn := ⟨d.toNat, by omega⟩
  have hdn : dn < 100 := by omega
  have HC := Lib.hid h2
  have HR := Lib.hid h3
  have HCL := Lib.hid (colsT_len co (fun x hx => ⟨(h2 x hx).1.2, (h2 x hx).2.2⟩))
  have HRL := Lib.hid (fun (q : Nat) => rowsT_len 1048576 (rs.take q) (fun x hx => h3 x (List.mem_of_mem_take hx)))
  clear h1 h2 h3 hok
  go_enter Tryd.func8, Tryd.ntmps8
  go_wp2_with fail
  generalize (w.alloc (.cells #[.slice A m c1, .int .i64 (dn : Int), .slice B n c2] 31)) = W0 at *
  refine C1.out.mono ?_
  rintro e1 w1 ⟨rfl, k1⟩
  obtain ⟨t0, t1, t2⟩ : w1.cell? ⟨w.heap.size, 0, none⟩ = some (.slice A m c1) ∧ w1.cell? ⟨w.heap.size, 1, none⟩ = some (.int .i64 (dn : Int)) ∧ w1.cell? ⟨w.heap.size, 2, none⟩ = some (.slice B n c2) := ⟨k1.cell s0.1, k1.cell s0.2.1, k1.cell s0.2.2⟩
  have KB := KA.trans k1
  have z1 := k1.size
  have OW0 : Hid ((w1.alloc (.cells #[.string ⟨#[111, 100, 100, 115]⟩] 9)).ownsRow (w.heap.size + 1) 9 1 (.slice (some ⟨w1.heap.size, 0, none⟩) 1 1) (0 + 1) ((wordsL co 0).map Value.string)) := Lib.hid (by
    refine ⟨rfl, .inr ⟨w1.heap.size, 1, #[.string ⟨#[111, 100, 100, 115]⟩], rfl, by omega, Array.getElem?_push_size, Nat.le_refl _, by decide, rfl, rfl⟩⟩)
  have e1 : ¬ w.heap.size = w1.heap.size := by omega
  have e2 : ¬ w1.heap.size = w.heap.size := by omega
  have e3 : w.heap.size < w1.heap.size := by omega
  clear s0 k1 KA C1
  go_wp2_with fail
  go_loopw [4, 6, 17] (fun v _ i wr => ∃ q : Nat, q ≤ m ∧ i = .int .i64 q ∧ Hid (wr.ownsRow (w.heap.size + 1) 9 1 v (q + 1) ((wordsL co q).map Value.string)) ∧ wr.cell? ⟨w.heap.size, 1, none⟩ = some (.int .i64 (dn : Int)) ∧ wr.cell? ⟨w.heap.size, 2, none⟩ = some (.slice B n c2) ∧ w.heap.size + 1 ≤ wr.heap.size ∧ Kp w wr) (fun _ _ i _ => m - (intOf i).toNat)
  case atStart => exact ⟨0, by omega, rfl, OW0, by simp [go_sem, *], by simp [go_sem, *], by simp; omega, KB.alloc _⟩
  case round =>
    clear OW0 t0 t1 t2 KB z1 e1 e2 e3
    obtain ⟨q, hq, rfl, HO, t1, t2, hw, kr⟩ := hrel
    obtain ⟨g4, c4, ev, hg4, hg5, hg6⟩ := row_shape HO.out (by omega)
    subst ev
    by_cases hlt : q < m
    · have hlt' : (q : Int) < m := by omega
      obtain ⟨x, hx⟩ : ∃ x, co[q]? = some x := ⟨co[q]'(by have := HM.out; omega), List.getElem?_eq_getElem _⟩
      obtain ⟨g, off, rfl, hc⟩ := HA.out (by have := HM.out; omega)
      obtain ⟨c10, c11⟩ := hc q x hx
      have a0 := kr.cell c10
      have a1 := kr.cell c11
      have hx1 := HC.out x (List.mem_of_getElem? hx)
      have HM2 := Lib.hid (wordsL_more hx)
      have HLW : Hid (q + 1 ≤ 1048577) := Lib.hid (by omega)
      obtain ⟨xa, xb⟩ := x
      simp only at a0 a1 hx1
      obtain ⟨a, rfl⟩ : ∃ k : Nat, xa = k := ⟨xa.toNat, by omega⟩
      obtain ⟨b, rfl⟩ : ∃ k : Nat, xb = k := ⟨xb.toNat, by omega⟩
      have ha : a < 100 := by omega
      have hb : b < 100 := by omega
      obtain ⟨sa, hsa⟩ : ∃ y, y = ByteArray.mk (Lib.decDigits a).toArray := ⟨_, rfl⟩
      obtain ⟨sb, hsb⟩ : ∃ y, y = ByteArray.mk (Lib.decDigits b).toArray := ⟨_, rfl⟩
      have hsa2 : sa.size ≤ 2 := by rw [hsa]; exact Nat.le_trans (Nat.le_of_eq (txt_size _)) (dec_len ha)
      have hsb2 : sb.size ≤ 2 := by rw [hsb]; exact Nat.le_trans (Nat.le_of_eq (txt_size _)) (dec_len hb)
      have HX : Hid (sa ++ ByteArray.mk #[47] ++ sb = txt (colT ((a : Int), (b : Int)))) := Lib.hid (by
        rw [hsa, hsb, show ByteArray.mk #[47] = txt [47] from rfl]
        exact (congrArg (· ++ _) (txt_app _ _)).trans (txt_app _ _))
      have q1 : (ByteArray.mk #[47]).size = 1 := rfl
      have q2 : (sa ++ ByteArray.mk #[47]).size = sa.size + 1 := by rw [ByteArray.size_append, q1]
      have y1 : ¬ 9223372036854775807 < sa.size + 1 := by omega
      have y2 : ¬ 9223372036854775807 < (sa ++ ByteArray.mk #[47]).size + sb.size := by omega
      have x2 : ¬ 9223372036854775807 < sa.size + 1 + sb.size := by omega
      have CA : Hid (∀ w, Calls Tryd.prog 21 #[.int .i64 (a : Int)] w fun e w' => e = .returned (.string sa) ∧ w = w') := Lib.hid fun w => by rw [hsa]; exact (Tryd.strconv_Itoa_small a ha w).mono fun e w' h => ⟨h.1, h.2.symm⟩
      have CB : Hid (∀ w, Calls Tryd.prog 21 #[.int .i64 (b : Int)] w fun e w' => e = .returned (.string sb) ∧ w = w') := Lib.hid fun w => by rw [hsb]; exact (Tryd.strconv_Itoa_small b hb w).mono fun e w' h => ⟨h.1, h.2.symm⟩
      clear hsa hsb q1 q2 hx hc hx1 c10 c11
      have s1 : (wr.alloc (.cells #[.int .i64 (a : Int), .int .i64 (b : Int)] 47)).drew.cell? ⟨wr.heap.size, 0, none⟩ = some (.int .i64 (a : Int)) ∧ (wr.alloc (.cells #[.int .i64 (a : Int), .int .i64 (b : Int)] 47)).drew.cell? ⟨wr.heap.size, 1, none⟩ = some (.int .i64 (b : Int)) := ⟨by simp [go_sem], by simp [go_sem]⟩
      go_wp2_with fail
      refine wp_region_held_drew (S := (fun w' => w'.cell? ⟨wr.heap.size, 0, none⟩ = some (.int .i64 (a : Int)) ∧ w'.cell? ⟨wr.heap.size, 1, none⟩ = some (.int .i64 (b : Int)))) (by kernel_rfl) ?_ (fun hHeld => ?_)
      · exact s1
      refine wpAnyH_take (i := 0) (oi := ⟨some 21, _, _, _, _, _⟩) (v := ?_) rfl (by kernel_rfl) (by kernel_rfl) (by kernel_rfl) (fun _ _ _ h => h) (Or.inl ⟨by rfl, ?_⟩) (by assumption) ?_
      rotate_left
      · intro w hSw; (try dsimp only at hSw); go_simp; (all_goals with_reducible rfl)
      simp only [Act.put, List.setIfInBounds_toArray, List.set_cons_zero, List.set_cons_succ]
      refine wpAnyH_take (i := 1) (oi := ⟨some 22, _, _, _, _, _⟩) (v := ?_) rfl (by kernel_rfl) (by kernel_rfl) (by kernel_rfl) (fun _ _ _ h => h) (Or.inl ⟨by rfl, ?_⟩) (by assumption) ?_
      rotate_left
      · intro w hSw; (try dsimp only at hSw); go_simp; (all_goals with_reducible rfl)
      simp only [Act.put, List.setIfInBounds_toArray, List.set_cons_zero, List.set_cons_succ]
      refine wpAnyH_take (i := 2) (oi := ⟨some 23, _, _, _, _, _⟩) (v := ?_) rfl (by kernel_rfl) (by kernel_rfl) (by kernel_rfl) (fun _ _ _ h => h) (Or.inl ⟨by rfl, ?_⟩) (by assumption) ?_
      rotate_left
      · intro w hSw; (try dsimp only at hSw); go_simp; (all_goals with_reducible rfl)
      simp only [Act.put, List.setIfInBounds_toArray, List.set_cons_zero, List.set_cons_succ]
      refine wpAnyH_take (i := 5) (oi := ⟨some 26, _, _, _, _, _⟩) (v := ?_) rfl (by kernel_rfl) (by kernel_rfl) (by kernel_rfl) (fun _ _ _ h => h) (Or.inl ⟨by rfl, ?_⟩) (by assumption) ?_
      rotate_left
      · intro w hSw; (try dsimp only at hSw); go_simp; (all_goals with_reducible rfl)
      simp only [Act.put, List.setIfInBounds_toArray, List.set_cons_zero, List.set_cons_succ]
      refine wpAnyH_take (i := 6) (oi := ⟨some 27, _, _, _, _, _⟩) (v := ?_) rfl (by kernel_rfl) (by kernel_rfl) (by kernel_rfl) (fun _ _ _ h => h) (Or.inl ⟨by rfl, ?_⟩) (by assumption) ?_
      rotate_left
      · intro w hSw; (try dsimp only at hSw); go_simp; (all_goals with_reducible rfl)
      simp only [Act.put, List.setIfInBounds_toArray, List.set_cons_zero, List.set_cons_succ]
      refine wpAnyH_ready (rs := [3]) (by kernel_rfl) (by simp) ?_
      refine AllReadyH.cons (o := ⟨some 24, _, _, _, _, _⟩) rfl (fun K hK => ?_) AllReadyH.nil
      go_simp
      refine (CA.out _).mono ?_; rintro e1 w1 ⟨rfl, rfl⟩
      go_wp2_with fail
      refine hK.out _ _ ?_ (fun hHeld => ?_)
      · (try dsimp only); (first | assumption | exact s1)
      clear hK K
      try simp only [Act.put, List.setIfInBounds_toArray, List.set_cons_zero, List.set_cons_succ]
      refine wpAnyH_take (i := 4) (oi := ⟨some 25, _, _, _, _, _⟩) (v := ?_) rfl (by kernel_rfl) (by kernel_rfl) (by kernel_rfl) (fun _ _ _ h => h) (Or.inl ⟨by rfl, ?_⟩) (by assumption) ?_
      rotate_left
      · intro w hSw; (try dsimp only at hSw); go_simp; (all_goals with_reducible rfl)
      simp only [Act.put, List.setIfInBounds_toArray, List.set_cons_zero, List.set_cons_succ]
      refine wpAnyH_ready (rs := [7]) (by kernel_rfl) (by simp) ?_
      refine AllReadyH.cons (o := ⟨some 28, _, _, _, _, _⟩) rfl (fun K hK => ?_) AllReadyH.nil
      go_simp
      refine (CB.out _).mono ?_; rintro e2 w2 ⟨rfl, rfl⟩
      go_wp2_with fail
      refine hK.out _ _ ?_ (fun hHeld => ?_)
      · (try dsimp only); (first | assumption | exact s1)
      clear hK K
      try simp only [Act.put, List.setIfInBounds_toArray, List.set_cons_zero, List.set_cons_succ]
      refine wpAnyH_take (i := 8) (oi := ⟨some 29, _, _, _, _, _⟩) (v := ?_) rfl (by kernel_rfl) (by kernel_rfl) (by kernel_rfl) (fun _ _ _ h => h) (Or.inl ⟨by rfl, ?_⟩) (by assumption) ?_
      rotate_left
      · intro w hSw; (try dsimp only at hSw); go_simp; (all_goals with_reducible rfl)
      simp only [Act.put, List.setIfInBounds_toArray, List.set_cons_zero, List.set_cons_succ]
      refine wpAnyH_ready (rs := [9]) (by kernel_rfl) (by simp) ?_
      refine AllReadyH.cons (o := ⟨some 30, _, _, _, _, _⟩) rfl (fun K hK => ?_) AllReadyH.nil
      go_simp
      go_wp2_with fail
      refine hK.out _ _ ?_ (fun hHeld => ?_)
      · (try dsimp only); exact ⟨by simp [go_sem], by simp [go_sem]⟩
      clear hK K
      try simp only [Act.put, List.setIfInBounds_toArray, List.set_cons_zero, List.set_cons_succ]
      refine wpAnyH_ready (rs := [10]) (by kernel_rfl) (by simp) ?_
      refine AllReadyH.cons (o := ⟨some 31, _, _, _, _, _⟩) rfl (fun K hK => ?_) AllReadyH.nil
      refine step_append_own (.tmp 21) (.tmp 30) 45 rfl (w.heap.size + 1) 9 j0 (.string ⟨#[]⟩) 1 16 Tryd.underlying45 hj0 hz0 hs0 hb0 rfl (by decide) (.slice (some ⟨g4, 0, none⟩) (q + 1) c4) _ _ rfl ((World.ownsRow.alloc HO.out _).alloc _) ⟨wr.heap.size + 1, 0, none⟩ 1 1 [.string (sa ++ ByteArray.mk #[47] ++ sb)] rfl rfl (by intro j u hju; obtain _ | j := j <;> simp at hju; subst hju; simp [go_sem]) (by simp [Value.oneCell']) (by have := HLW.out; simp only [maxLen]; omega) (by have := HLW.out; omega) (by simp; omega) ?_
      intro v' w3 own3 grow3
      have OW : Hid (w3.ownsRow (w.heap.size + 1) 9 1 v' (q + 1 + 1) ((wordsL co (q + 1)).map Value.string)) := Lib.hid (by
        rw [HX.out] at own3
        rw [HM2.out, List.map_append]
        exact own3)
      have K3 : Kp w w3 := (((kr.alloc _).alloc _).drew).grown grow3 (fun k e => by
        simp only [Value.ownBlock, Option.some.injEq] at e
        omega)
      have S3 : w3.cell? ⟨wr.heap.size, 0, none⟩ = some (.int .i64 (a : Int)) ∧ w3.cell? ⟨wr.heap.size, 1, none⟩ = some (.int .i64 (b : Int)) := ⟨(World.cell?_of_block (grow3.block wr.heap.size (by simp; omega) (by simp [Value.ownBlock]; omega))).trans (by simp [go_sem]), (World.cell?_of_block (grow3.block wr.heap.size (by simp; omega) (by simp [Value.ownBlock]; omega))).trans (by simp [go_sem])⟩
      have e4 : ¬ wr.heap.size = w.heap.size := by omega
      have e5 : ¬ wr.heap.size + 1 = w.heap.size := by omega
      have T1 := (World.cell?_of_block (a := ⟨w.heap.size, 1, none⟩) (grow3.block w.heap.size (by simp; omega) (by simp [Value.ownBlock]; omega))).trans ((((Kp.refl wr).alloc _).alloc _).drew.cell t1)
      have T2 := (World.cell?_of_block (a := ⟨w.heap.size, 2, none⟩) (grow3.block w.heap.size (by simp; omega) (by simp [Value.ownBlock]; omega))).trans ((((Kp.refl wr).alloc _).alloc _).drew.cell t2)
      have z3 : wr.heap.size ≤ w3.heap.size := by have := grow3.size; simp at this; omega
      clear own3 grow3
      refine hK.out _ _ S3 (fun hHeld => ?_)
      clear hK K
      try simp only [Act.put, List.setIfInBounds_toArray, List.set_cons_zero, List.set_cons_succ]
      refine wpAnyH_take (i := 11) (oi := ⟨some 4, _, _, _, _, _⟩) (v := ?_) rfl (by kernel_rfl) (by kernel_rfl) (by kernel_rfl) (fun _ _ _ h => h) (Or.inl ⟨by rfl, ?_⟩) (by assumption) ?_
      rotate_left
      · intro w hSw; (try dsimp only at hSw); go_simp; (all_goals with_reducible rfl)
      simp only [Act.put, List.setIfInBounds_toArray, List.set_cons_zero, List.set_cons_succ]
      refine wpAnyH_done (by kernel_rfl) ?_ _
      go_wp2_with fail
      go_roundw
      case rel => exact ⟨q + 1, by omega, by go_num, OW, T1, T2, by omega, K3⟩
      case measure => simp [intOf]; omega

      done
    · obtain rfl : q = m := by omega
      have HT := Lib.hid (show co.take q = co from List.take_of_length_le (by rw [HM.out]; omega))
      obtain ⟨sd, hsd⟩ : ∃ y, y = ByteArray.mk (Lib.decDigits dn).toArray := ⟨_, rfl⟩
      have CD : Hid (∀ w, Calls Tryd.prog 21 #[.int .i64 (dn : Int)] w fun e w' => e = .returned (.string sd) ∧ w = w') := Lib.hid fun w => by rw [hsd]; exact (Tryd.strconv_Itoa_small dn hdn w).mono fun e w' h => ⟨h.1, h.2.symm⟩
      obtain ⟨LN, hLN⟩ : ∃ y, y = [111, 100, 100, 115] ++ colsT co ++ ([32, 100, 105, 99, 101, 32] ++ Lib.decDigits dn) := ⟨_, rfl⟩
      have HLL : Hid (LN.length ≤ 16777216) := Lib.hid (by
        have h1 := HCL.out
        have h2 := HM.out
        have h3 := dec_len hdn
        rw [hLN]
        simp only [List.length_append, List.length_cons, List.length_nil]
        omega)
      have HJ : Hid (Lib.join ((wordsL co q ++ [ByteArray.mk #[100, 105, 99, 101], sd]).map (·.data.toList)) (ByteArray.mk #[32]).data.toList = LN) := Lib.hid (by
        rw [hLN, hsd, wordsL, HT.out, List.cons_append, List.map_cons, Lib.join_cons]
        simp [Lib.joinTail, txt, colsT, List.flatMap, Function.comp_def])
      have HLW : Hid ((wordsL co q ++ [ByteArray.mk #[100, 105, 99, 101], sd]).length = q + 1 + 2) := Lib.hid (by
        rw [List.length_append, wordsL_len (by have := HM.out; omega)]
        rfl)
      have HF : Hid (tabTx co dn rs = (LN ++ [10]) ++ rowsT rs) := Lib.hid (by rw [hLN]; simp [tabTx])
      clear hsd hLN
      go_wp2_with fail
      refine (CD.out _).mono ?_
      rintro e1 w1 ⟨rfl, rfl⟩
      go_wp2_with (at_builtin; refine wpList_append_own _ rfl (.tmp 33) (.tmp 37) 45 rfl (w.heap.size + 1) 9 j0 (.string ⟨#[]⟩) 1 16 Tryd.underlying45 hj0 hz0 hs0 hb0 rfl (by decide) (.slice (some ⟨g4, 0, none⟩) (q + 1) c4) (q + 1) _ rfl (World.ownsRow.alloc HO.out _) ⟨wr.heap.size, 0, none⟩ 2 2 [.string (ByteArray.mk #[100, 105, 99, 101]), .string sd] rfl rfl (by intro j u hju; obtain _ | _ | j := j <;> simp at hju <;> subst hju <;> simp [go_sem]) (by simp [Value.oneCell']) (by simp only [maxLen]; omega) (by omega) (by simp; omega) ?_; intro v' w3 own3 grow3 nil3; clear nil3; obtain ⟨g5, c5, ev, hg5', hh5, hc5⟩ := row_shape own3 (by omega); subst ev)
      have K3 : Kp w w3 := (kr.alloc _).grown grow3 (fun k e => by
        simp only [Value.ownBlock, Option.some.injEq] at e
        omega)
      have T2 := (World.cell?_of_block (a := ⟨w.heap.size, 2, none⟩) (grow3.block w.heap.size (by simp; omega) (by simp [Value.ownBlock]; omega))).trans (((Kp.refl wr).alloc _).cell t2)
      obtain ⟨z, hz⟩ : ∃ y, y = txt LN := ⟨_, rfl⟩
      have hz2 : z.size ≤ 16777216 := by rw [hz, txt_size]; exact HLL.out
      have CJ : Hid (Calls Tryd.prog 22 #[.slice (some ⟨g5, 0, none⟩) (q + 1 + 2) c5, .string ⟨#[32]⟩] w3 fun e w' => e = .returned (.string z) ∧ Kp w3 w') := Lib.hid (by
        have := Tryd.strings_Join g5 0 c5 (wordsL co q ++ [ByteArray.mk #[100, 105, 99, 101], sd]) ⟨#[32]⟩ w3 (fun j x hj => by
          have h := World.ownsRow.cells own3 rfl j (.string x) (by
            rw [show List.map Value.string (wordsL co q) ++ [Value.string (ByteArray.mk #[100, 105, 99, 101]), Value.string sd] = (wordsL co q ++ [ByteArray.mk #[100, 105, 99, 101], sd]).map Value.string by simp, List.getElem?_map, hj]
            rfl)
          rw [show ((⟨g5, 0, none⟩ : Addr).add j) = ⟨g5, 0 + j, none⟩ by by_cases h0 : j = 0 <;> simp [Addr.add, h0]] at h
          exact h) hh5 (by rw [HLW.out]; omega) (by rw [HLW.out]; exact hc5) (by rw [HJ.out]; have := HLL.out; omega)
        rw [HJ.out, HLW.out] at this
        rw [hz]
        exact this)
      have HZ2 : Hid (z ++ ByteArray.mk #[10] = txt ((LN ++ [10]) ++ rowsT (rs.take 0))) := Lib.hid (by
        rw [hz, show ByteArray.mk #[10] = txt [10] from rfl, txt_app]
        simp [rowsT])
      obtain ⟨HD, hHD⟩ : ∃ y, y = LN ++ [10] := ⟨_, rfl⟩
      rw [← hHD] at HF HZ2
      have HDZ : Hid (HD.length ≤ 16777217) := Lib.hid (by
        have := HLL.out
        rw [hHD, List.length_append, List.length_cons, List.length_nil]
        omega)
      have y1 : ¬ 9223372036854775807 < z.size + 1 := by omega
      clear hz hz2 hHD own3 grow3 HO t1 t2 kr hg5' hh5 hc5
      refine CJ.out.mono ?_
      rintro e2 w2 ⟨rfl, k2⟩
      have T22 := k2.cell T2
      have kr1 := K3.trans k2
      clear T2 K3 CJ
      go_wp2_with fail
      clear y1
      go_loopw [7, 9, 45] (fun s _ i wr => ∃ (q : Nat) (z : ByteArray), q ≤ n ∧ i = .int .i64 q ∧ s = .string z ∧ Hid (z = txt (HD ++ rowsT (rs.take q))) ∧ Kp w wr) (fun _ _ i _ => n - (intOf i).toNat)
      case atStart => exact ⟨0, _, by omega, rfl, rfl, HZ2, kr1⟩
      case round =>
        clear HZ2 kr1 T22 k2
        obtain ⟨q, z, hq2, rfl, rfl, HZ, kr⟩ := hrel
        have HRQ : Hid ((rowsT (rs.take q)).length ≤ 2199025352704) := Lib.hid (by
          have h1 := HRL.out q
          have h2 : (rs.take q).length ≤ 1048576 := by rw [List.length_take]; omega
          have h3 : (2 * 1048576 + 1) * (rs.take q).length ≤ (2 * 1048576 + 1) * 1048576 := Nat.mul_le_mul_left _ h2
          omega)
        have hzz : z.size ≤ 2199042129921 := by
          have h1 := HRQ.out
          have h2 := congrArg ByteArray.size HZ.out
          have h3 := HDZ.out
          rw [txt_size, List.length_append] at h2
          omega
        by_cases hlt : q < n
        · have hlt' : (q : Int) < n := by omega
          obtain ⟨row, hrow⟩ : ∃ x, rs[q]? = some x := ⟨rs[q]'(by have := HN.out; omega), List.getElem?_eq_getElem _⟩
          obtain ⟨vx, hvx⟩ : ∃ x, vs[q]? = some x := ⟨vs[q]'(by have := HV.out; omega), List.getElem?_eq_getElem _⟩
          obtain ⟨g, off, rfl, hc⟩ := HB.out (by omega)
          have a0 := kr.cell (hc q vx hvx)
          have hrd := (HI.out q vx row hvx hrow).keep kr
          obtain ⟨hrl, hrb⟩ := HR.out row (List.mem_of_getElem? hrow)
          have HRM := Lib.hid (rowsT_more hrow)
          obtain ⟨y, hy⟩ : ∃ y, y = txt (digs row ++ [10]) := ⟨_, rfl⟩
          have hyz : y.size ≤ 2097153 := by
            have := digs_len row hrb
            rw [hy, txt_size, List.length_append, List.length_cons, List.length_nil]
            omega
          have CDL : Hid (Calls Tryd.prog 23 #[vx] wr fun e w' => e = .returned (.string y) ∧ Kp wr w') := Lib.hid (by
            rw [hy]
            exact digitsLine_any vx row wr hrd hrl hrb)
          have HZ3 : Hid (z ++ y = txt (HD ++ rowsT (rs.take (q + 1)))) := Lib.hid (by
            rw [HRM.out, HZ.out, hy, txt_app]
            simp)
          have y1 : ¬ 9223372036854775807 < z.size + y.size := by omega
          obtain ⟨Ar, cr, rfl, _⟩ := hrd
          clear hrow hvx hc hrb hy
          go_wp2_with fail
          refine CDL.out.mono ?_
          rintro e3 w3 ⟨rfl, k3⟩
          have kr3 := kr.trans k3
          go_wp2_with fail
          go_roundw
          case rel => exact ⟨q + 1, _, by omega, by go_num, rfl, HZ3, kr3⟩
          case measure => simp [intOf]; omega
        · obtain rfl : q = n := by omega
          have HT3 := Lib.hid (show rs.take q = rs from List.take_of_length_le (by rw [HN.out]; omega))
          go_wp2_with fail
          go_ret2
          exact ⟨by rw [HF.out, HZ.out, HT3.out]; rfl, kr⟩
end Go.Proofs.YtgeophllbmjjfaaDoor
