/-
  The program's functions on boards: missing terrains, the test of a board, the cost to enter a hex. Nothing that was there is changed. The named variables hold what the program's text lays.
-/
import Derived.Test.YtkkcnofplddbmaaDoorBrdM
import Derived.Test.YtkkcnofplddbmaaDoorListI
import Derived.Test.YtkkcnofplddbmaaDoorRulR
import Derived.Test.YtkkcnofplddbmaaDoorRulS
import Derived.Test.YtkkcnofplddbmaaDoorIsMapI
namespace Go.Proofs.YtkkcnofplddbmaaDoor
open Go.RowKit

abbrev bv (t k : Value) (a b c d e W H : Int) (x r y : Value) : Value := .agg #[t, k, .int .i64 a, .int .i64 b, .int .i64 c, .int .i64 d, .int .i64 e, .int .i64 W, .int .i64 H, x, r, y]
/-- What a board is in memory. -/
structure BrdAt (w : World) (At Ak : Option Addr) (nt nk : Nat) (l : List Ter) (m : List Knd) (x r y : Value) (lt lr ld : List Int) : Prop where
  R : RulAt w At Ak nt nk l m
  L : Lists w x r y lt lr ld
theorem BrdAt.keep {w w' : World} {At Ak : Option Addr} {nt nk : Nat} {l : List Ter} {m : List Knd} {x r y : Value} {lt lr ld : List Int} (h : BrdAt w At Ak nt nk l m x r y lt lr ld) (k : Kp w w') : BrdAt w' At Ak nt nk l m x r y lt lr ld :=
  ⟨h.R.keep k, h.L.keep k⟩

theorem misL_none {lt : List Int} {nt : Nat} : filN (misB lt nt) nt = [] := by
  rw [List.eq_nil_iff_forall_not_mem]
  intro z hz
  obtain ⟨j, hj, _, hm⟩ := (filN_mem _ _ _).1 hz
  simp only [misB, Bool.and_eq_true, decide_eq_true_iff] at hm
  omega
theorem rulOk_nt {l : List Ter} {m : List Knd} {a b c d e : Int} (h : rulOk ⟨l, m, a, b, c, d, e⟩ = true) : (1 ≤ l.length ∧ l.length ≤ 6) ∧ (1 ≤ m.length ∧ m.length ≤ 4) := by
  simp only [rulOk, spB, Bool.and_eq_true, decide_eq_true_iff] at h
  omega

set_option maxRecDepth 100000 in
set_option maxHeartbeats 4000000 in
theorem missing_any (At Ak : Option Addr) (nt nk ct ck : Nat) (l : List Ter) (m : List Knd) (a b c d e W H : Int) (x r y : Value) (lt lr ld : List Int) (w : World) (hs : Spans w) (ht : Tab w) (hB : BrdAt w At Ak nt nk l m x r y lt lr ld) :
    Calls Tryd.prog 42 #[rv (.slice At nt ct) (.slice Ak nk ck) a b c d e, mp W H x r y] w (ListPostI (rulOk ⟨l, m, a, b, c, d, e⟩ && mapOk W H lt lr ld) (misL lt nt) w) := by
  have KA : Kp w ((w.alloc (.cells #[.slice At nt ct, .slice Ak nk ck, .int .i64 a, .int .i64 b, .int .i64 c, .int .i64 d, .int .i64 e] 31)).alloc (.cells #[.int .i64 W, .int .i64 H, x, r, y] 42)) := ((Kp.refl w).alloc _).alloc _
  have HB := Lib.hid hB
  have C1 := Lib.hid (isRules_any At Ak nt nk ct ck l m a b c d e _ (hs.keep KA) (hB.R.keep KA))
  have s0 : ((w.alloc (.cells #[.slice At nt ct, .slice Ak nk ck, .int .i64 a, .int .i64 b, .int .i64 c, .int .i64 d, .int .i64 e] 31)).alloc (.cells #[.int .i64 W, .int .i64 H, x, r, y] 42)).cell? ⟨w.heap.size + 1, 0, none⟩ = some (.int .i64 W) ∧ ((w.alloc (.cells #[.slice At nt ct, .slice Ak nk ck, .int .i64 a, .int .i64 b, .int .i64 c, .int .i64 d, .int .i64 e] 31)).alloc (.cells #[.int .i64 W, .int .i64 H, x, r, y] 42)).cell? ⟨w.heap.size + 1, 1, none⟩ = some (.int .i64 H) ∧ ((w.alloc (.cells #[.slice At nt ct, .slice Ak nk ck, .int .i64 a, .int .i64 b, .int .i64 c, .int .i64 d, .int .i64 e] 31)).alloc (.cells #[.int .i64 W, .int .i64 H, x, r, y] 42)).cell? ⟨w.heap.size + 1, 2, none⟩ = some (x) ∧ ((w.alloc (.cells #[.slice At nt ct, .slice Ak nk ck, .int .i64 a, .int .i64 b, .int .i64 c, .int .i64 d, .int .i64 e] 31)).alloc (.cells #[.int .i64 W, .int .i64 H, x, r, y] 42)).cell? ⟨w.heap.size + 1, 3, none⟩ = some (r) ∧ ((w.alloc (.cells #[.slice At nt ct, .slice Ak nk ck, .int .i64 a, .int .i64 b, .int .i64 c, .int .i64 d, .int .i64 e] 31)).alloc (.cells #[.int .i64 W, .int .i64 H, x, r, y] 42)).cell? ⟨w.heap.size + 1, 4, none⟩ = some (y) := ⟨by simp [go_sem], by simp [go_sem], by simp [go_sem], by simp [go_sem], by simp [go_sem]⟩
  have r0 : ((w.alloc (.cells #[.slice At nt ct, .slice Ak nk ck, .int .i64 a, .int .i64 b, .int .i64 c, .int .i64 d, .int .i64 e] 31)).alloc (.cells #[.int .i64 W, .int .i64 H, x, r, y] 42)).cell? ⟨w.heap.size, 0, none⟩ = some (.slice At nt ct) := by simp [go_sem]
  cases hr : rulOk ⟨l, m, a, b, c, d, e⟩
  · rw [hr] at C1
    clear hs ht hB hr
    go_enter Tryd.func42, Tryd.ntmps42
    go_wp2_with fail
    refine C1.out.mono ?_
    rintro e1 w1 ⟨rfl, k1⟩
    go_wp2_with fail
    go_ret2
    exact ListPostI.no (KA.trans k1)
  · rw [hr] at C1
    have hn6 : nt ≤ 6 := by have := (rulOk_nt hr).1.2; have := hB.R.rt.1; omega
    have HT := Lib.hid ht
    have CM : Hid (∀ w, Tab w → Lists w x r y lt lr ld → Calls Tryd.prog 82 #[mp W H x r y] w fun e w' => e = .returned (.bool (mapOk W H lt lr ld)) ∧ Kp w w') := Lib.hid fun w k h => isMap_any W H x r y lt lr ld w k h
    cases hm : mapOk W H lt lr ld
    · rw [hm] at CM
      clear hs ht hB hr hm
      go_enter Tryd.func42, Tryd.ntmps42
      go_wp2_with fail
      refine C1.out.mono ?_
      rintro e1 w1 ⟨rfl, k1⟩
      have s1 := keepc5 k1 s0
      have K1 : Kp w w1 := KA.trans k1
      clear s0 k1
      go_wp2_with fail
      refine (CM.out _ (HT.out.keep K1) (HB.out.keep K1).L).mono ?_
      rintro e2 w2 ⟨rfl, k2⟩
      go_wp2_with fail
      go_ret2
      exact ListPostI.no (K1.trans k2)
    · rw [hm] at CM
      clear hs ht hB hr hm
      obtain ⟨j0, hj0, hz0, hs0, hb0⟩ := info_parts infoInt
      go_enter Tryd.func42, Tryd.ntmps42
      go_wp2_with fail
      refine C1.out.mono ?_
      rintro e1 w1 ⟨rfl, k1⟩
      have s1 := keepc5 k1 s0
      have r1 := k1.cell r0
      have K1 : Kp w w1 := KA.trans k1
      clear s0 k1 r0
      go_wp2_with fail
      refine (CM.out _ (HT.out.keep K1) (HB.out.keep K1).L).mono ?_
      rintro e2 w2 ⟨rfl, k2⟩
      have x2 := k2.cell s1.2.2.1
      have r2 := k2.cell r1
      have K2 : Kp w w2 := K1.trans k2
      have hz2 := cell_lt x2
      clear s1 k2 K1 r1
      go_wp2_with fail
      go_loopw [6, 7] (fun v s7 wx => ∃ k : Nat, nt ≤ k ∧ k ≤ 6 ∧ s7 = .int .i64 k ∧ OwnI wx (w.heap.size + 2) v (filN (misB lt nt) k) ∧ wx.cell? ⟨w.heap.size + 1, 2, none⟩ = some x ∧ Kp w wx) (fun _ s7 _ => 6 - (intOf s7).toNat)
      case atStart => exact ⟨nt, by omega, hn6, rfl, by rw [misL_none]; exact OwnI.nil _ _, x2, K2⟩
      case round =>
        clear x2 K2 hz2
        obtain ⟨k, hnk, hk6, rfl, hoR, xr, kr⟩ := hrel
        by_cases hlt : k < 6
        · have hlt' : (k : Int) < 6 := by omega
          have HO := Lib.hid hoR
          have bz := cell_lt xr
          have HX := Lib.hid (HB.out.keep kr).L
          clear hoR
          cases hh : hasB lt (k : Int)
          · have HS : Hid (filN (misB lt nt) (k + 1) = filN (misB lt nt) k) := Lib.hid (filN_no (by unfold misB; rw [hh, Bool.and_false]))
            go_wp2_with fail
            refine (contains_any _ lt _ _ HX.out.rt HX.out.bt).mono ?_
            rintro e3 w3 ⟨rfl, rfl⟩
            rw [hh]
            go_wp2_with fail
            go_roundw
            case rel => exact ⟨k + 1, by omega, by omega, by go_num, by rw [HS.out]; exact HO.out, xr, kr⟩
            case measure => simp [intOf]; omega
          · have HS : Hid (filN (misB lt nt) (k + 1) = filN (misB lt nt) k ++ [(k : Int)]) := Lib.hid (filN_yes (by unfold misB; rw [hh, Bool.and_true]; exact decide_eq_true hnk))
            have hln := Lib.hid (filN_len (misB lt nt) k)
            have n1 := Lib.hid (HO.out.not (g := w.heap.size + 1) (by omega))
            go_wp2_with fail
            refine (contains_any _ lt _ _ HX.out.rt HX.out.bt).mono ?_
            rintro e3 w3 ⟨rfl, rfl⟩
            rw [hh]
            go_wp2_with (at_builtin; refine wpList_append_own_at _ rfl (.tmp 27) (.tmp 29) 35 rfl (w.heap.size + 2) 3 j0 (.int .i64 0) 1 8 Tryd.underlying35 hj0 hz0 hs0 hb0 rfl (by decide) _ (filN (misB lt nt) k).length (cellsI (filN (misB lt nt) k)) rfl (World.ownsRow.alloc HO.out _) ⟨wr.heap.size, 0, none⟩ 1 1 [.int .i64 k] rfl rfl (one_cell _ _ _) (by simp [Value.oneCell']) (by have := hln.out; simp only [maxLen]; omega) (by have := hln.out; omega) (by simp; omega) ?_; intro v' w3 hown2 hgrow2 hnil2 hat2; clear hnil2 hat2; have x5 := hgrow2.cell (((Kp.refl wr).alloc (.cells #[.int .i64 (k : Int)] 3)).cell xr) (fun e => n1.out e.symm); have K5 : Kp w w3 := (kr.alloc _).grown hgrow2 (fun k e => by have := (World.ownsRow.lt HO.out k e).1; omega); have O3 := Lib.hid (OwnI.snoc (x := k) hown2); clear hown2 hgrow2)
            go_roundw
            case rel => exact ⟨k + 1, by omega, by omega, by go_num, by rw [HS.out]; exact O3.out, x5, K5⟩
            case measure => simp [intOf]; omega
        · obtain rfl : k = 6 := by omega
          go_wp2_with fail
          go_ret2
          exact ⟨_, rfl, hoR.base (by omega), kr⟩

theorem keepb12 {w w1 : World} {p0 p1 p2 p3 p4 p5 p6 p7 p8 p9 p10 p11 : Addr} {v0 v1 v2 v3 v4 v5 v6 v7 v8 v9 v10 v11 : Value} (k : Kp w w1) (h : w.cell? p0 = some v0 ∧ w.cell? p1 = some v1 ∧ w.cell? p2 = some v2 ∧ w.cell? p3 = some v3 ∧ w.cell? p4 = some v4 ∧ w.cell? p5 = some v5 ∧ w.cell? p6 = some v6 ∧ w.cell? p7 = some v7 ∧ w.cell? p8 = some v8 ∧ w.cell? p9 = some v9 ∧ w.cell? p10 = some v10 ∧ w.cell? p11 = some v11) : w1.cell? p0 = some v0 ∧ w1.cell? p1 = some v1 ∧ w1.cell? p2 = some v2 ∧ w1.cell? p3 = some v3 ∧ w1.cell? p4 = some v4 ∧ w1.cell? p5 = some v5 ∧ w1.cell? p6 = some v6 ∧ w1.cell? p7 = some v7 ∧ w1.cell? p8 = some v8 ∧ w1.cell? p9 = some v9 ∧ w1.cell? p10 = some v10 ∧ w1.cell? p11 = some v11 :=
  ⟨k.cell h.1, k.cell h.2.1, k.cell h.2.2.1, k.cell h.2.2.2.1, k.cell h.2.2.2.2.1, k.cell h.2.2.2.2.2.1, k.cell h.2.2.2.2.2.2.1, k.cell h.2.2.2.2.2.2.2.1, k.cell h.2.2.2.2.2.2.2.2.1, k.cell h.2.2.2.2.2.2.2.2.2.1, k.cell h.2.2.2.2.2.2.2.2.2.2.1, k.cell h.2.2.2.2.2.2.2.2.2.2.2⟩

theorem brdOk_eq (l : List Ter) (m : List Knd) (a b c d e W H : Int) (lt lr ld : List Int) (nt : Nat) (hl : l.length = nt) : (((rulOk ⟨l, m, a, b, c, d, e⟩ && mapOk W H lt lr ld) && decide (misL lt nt = []))) = brdOk ⟨l, m, a, b, c, d, e⟩ W H lt lr ld := by
  unfold brdOk
  cases hm : mapOk W H lt lr ld
  · simp
  · rw [misL_nil (mapOk_terr hm), hl]

set_option maxRecDepth 100000 in
set_option maxHeartbeats 4000000 in
theorem isBoard_any (At Ak : Option Addr) (nt nk ct ck : Nat) (l : List Ter) (m : List Knd) (a b c d e W H : Int) (x r y : Value) (lt lr ld : List Int) (w : World) (hs : Spans w) (ht : Tab w) (hB : BrdAt w At Ak nt nk l m x r y lt lr ld) :
    Calls Tryd.prog 21 #[bv (.slice At nt ct) (.slice Ak nk ck) a b c d e W H x r y] w fun e' w' => e' = .returned (.bool (brdOk ⟨l, m, a, b, c, d, e⟩ W H lt lr ld)) ∧ Kp w w' := by
  have KA : Kp w (w.alloc (.cells #[.slice At nt ct, .slice Ak nk ck, .int .i64 a, .int .i64 b, .int .i64 c, .int .i64 d, .int .i64 e, .int .i64 W, .int .i64 H, x, r, y] 44)) := (Kp.refl w).alloc _
  have C1 := Lib.hid (missing_any At Ak nt nk ct ck l m a b c d e W H x r y lt lr ld _ (hs.keep KA) (ht.keep KA) (hB.keep KA))
  have HE := Lib.hid (brdOk_eq l m a b c d e W H lt lr ld nt hB.R.rt.1)
  have hln : (misL lt nt).length ≤ 6 := filN_len _ _
  generalize (rulOk ⟨l, m, a, b, c, d, e⟩ && mapOk W H lt lr ld) = B at C1 HE
  generalize misL lt nt = L at C1 HE hln
  generalize brdOk ⟨l, m, a, b, c, d, e⟩ W H lt lr ld = R at HE
  unfold ListPostI at C1
  clear hs ht hB
  cases B
  · go_enter Tryd.func21, Tryd.ntmps21
    go_wp2_with fail
    refine C1.out.mono ?_
    rintro e1 w1 ⟨v, rfl, o1, k1⟩
    obtain ⟨A1, c1, rfl⟩ := o1.slice
    go_wp2_with fail
    go_ret
    exact ⟨ret_bool HE.out, KA.trans k1⟩
  · have HL : Hid ((if true = true then L else []).length = L.length) := Lib.hid (by simp)
    go_enter Tryd.func21, Tryd.ntmps21
    go_wp2_with fail
    refine C1.out.mono ?_
    rintro e1 w1 ⟨v, rfl, o1, k1⟩
    obtain ⟨A1, c1, rfl⟩ := o1.slice
    rw [HL.out]
    go_wp2_with fail
    go_ret
    refine ⟨ret_bool ?_, KA.trans k1⟩
    rw [← HE.out, Bool.true_and]
    cases L
    · rfl
    · simp
      omega

/-- A hex of a valid board: its terrain and what that costs a kind. -/
theorem brd_hex {l : List Ter} {m : List Knd} {a b c d e W H : Int} {lt lr ld : List Int} {k i : Nat} (h : brdOk ⟨l, m, a, b, c, d, e⟩ W H lt lr ld = true) (hk : k < m.length) (hi : i < lt.length) :
    ∃ (T : Nat) (t : Ter) (z : Int), lt[i]? = some (T : Int) ∧ T < l.length ∧ l[T]? = some t ∧ t.cost.length = m.length ∧ t.cost[k]? = some z ∧ costB l lt k i = z ∧ 0 ≤ z ∧ z ≤ 9 := by
  simp only [brdOk, rulOk, Bool.and_eq_true] at h
  obtain ⟨⟨⟨⟨hl1, _⟩, h1, _⟩, _⟩, h2⟩ := h
  have hx : lt[i]? = some (lt[i]'hi) := List.getElem?_eq_getElem _
  have h3 := List.all_eq_true.1 h2 _ (List.getElem_mem hi)
  simp only [spB, Bool.and_eq_true, decide_eq_true_iff] at h3
  obtain ⟨T, hT⟩ : ∃ T : Nat, lt[i]'hi = T := ⟨(lt[i]'hi).toNat, by omega⟩
  rw [hT] at hx h3
  have hTl : T < l.length := by omega
  have ht : l[T]? = some (l[T]'hTl) := List.getElem?_eq_getElem _
  have h4 := List.all_eq_true.1 h1 _ (List.getElem_mem hTl)
  simp only [numT, Bool.and_eq_true, decide_eq_true_iff] at h4
  have hkc : k < (l[T]'hTl).cost.length := by omega
  have hz : (l[T]'hTl).cost[k]? = some ((l[T]'hTl).cost[k]'hkc) := List.getElem?_eq_getElem _
  have h5 := List.all_eq_true.1 h4.2.1 _ (List.getElem_mem hkc)
  simp only [spB, Bool.and_eq_true, decide_eq_true_iff] at h5
  refine ⟨T, _, _, hx, hTl, ht, h4.1, hz, ?_, h5.1, h5.2⟩
  unfold costB costT
  rw [hx]
  simp [ht, hkc]

set_option maxRecDepth 100000 in
set_option maxHeartbeats 4000000 in
theorem enterCost_any (At Ak : Option Addr) (nt nk ct ck : Nat) (l : List Ter) (m : List Knd) (a b c d e W H : Int) (x r y : Value) (lt lr ld : List Int) (k i : Nat) (w : World) (hB : BrdAt w At Ak nt nk l m x r y lt lr ld) (hok : brdOk ⟨l, m, a, b, c, d, e⟩ W H lt lr ld = true) (hk : k < m.length) (hi : i < lt.length) :
    Calls Tryd.prog 71 #[bv (.slice At nt ct) (.slice Ak nk ck) a b c d e W H x r y, .int .i64 (k : Int), .int .i64 (i : Int)] w fun e' w' => e' = .returned (.int .i64 (costB l lt k i)) ∧ Kp w w' := by
  obtain ⟨T, t, z, h1, h2, h3, h4, h5, h6, _, _⟩ := brd_hex hok hk hi
  rw [h6]
  obtain ⟨Bx, bx, rfl, hrt⟩ := hB.L.rt
  obtain ⟨gx, ox, rfl, hcx⟩ := hrt (by omega)
  have q1 := hcx i _ h1
  obtain ⟨hl, hrT⟩ := hB.R.rt
  obtain ⟨gt, ot, rfl, hct⟩ := hrT (by omega)
  obtain ⟨Ac, cc, ⟨_, q2, _, _, _⟩, hrc⟩ := hct T t h3
  obtain ⟨Ac', cc', ec, hrc'⟩ := hrc
  simp only [Value.slice.injEq] at ec
  obtain ⟨rfl, _, rfl⟩ := ec
  obtain ⟨gc, oc, rfl, hcc⟩ := hrc' (by omega)
  have q3 := hcc k _ h5
  have hbt := hB.L.bt
  have hbc := (hB.R.bc t (List.mem_of_getElem? h3)).1
  have hbn := hB.R.bt
  generalize t.cost.length = nc at q2 h4 hbc
  generalize lt.length = mt at hi hbt
  have f1 : T < nt := by omega
  have f2 : k < nc := by omega
  clear hB hok hrt hcx hrT hct hrc' hcc h1 h3 h5 h6 hl h2 h4 hk
  go_enter Tryd.func71, Tryd.ntmps71
  go_wp2_with fail
  have KA : Kp w (w.alloc (.cells #[.slice (some ⟨gt, ot, none⟩) nt ct, .slice Ak nk ck, .int .i64 a, .int .i64 b, .int .i64 c, .int .i64 d, .int .i64 e, .int .i64 W, .int .i64 H, .slice (some ⟨gx, ox, none⟩) mt bx, r, y] 44)) := (Kp.refl w).alloc _
  have s0 : ((w.alloc (.cells #[.slice (some ⟨gt, ot, none⟩) nt ct, .slice Ak nk ck, .int .i64 a, .int .i64 b, .int .i64 c, .int .i64 d, .int .i64 e, .int .i64 W, .int .i64 H, .slice (some ⟨gx, ox, none⟩) mt bx, r, y] 44)).drew).cell? ⟨w.heap.size, 0, none⟩ = some (.slice (some ⟨gt, ot, none⟩) nt ct) ∧ ((w.alloc (.cells #[.slice (some ⟨gt, ot, none⟩) nt ct, .slice Ak nk ck, .int .i64 a, .int .i64 b, .int .i64 c, .int .i64 d, .int .i64 e, .int .i64 W, .int .i64 H, .slice (some ⟨gx, ox, none⟩) mt bx, r, y] 44)).drew).cell? ⟨w.heap.size, 9, none⟩ = some (.slice (some ⟨gx, ox, none⟩) mt bx) ∧ ((w.alloc (.cells #[.slice (some ⟨gt, ot, none⟩) nt ct, .slice Ak nk ck, .int .i64 a, .int .i64 b, .int .i64 c, .int .i64 d, .int .i64 e, .int .i64 W, .int .i64 H, .slice (some ⟨gx, ox, none⟩) mt bx, r, y] 44)).drew).cell? ⟨gx, ox + i, none⟩ = some (.int .i64 (T : Int)) ∧ ((w.alloc (.cells #[.slice (some ⟨gt, ot, none⟩) nt ct, .slice Ak nk ck, .int .i64 a, .int .i64 b, .int .i64 c, .int .i64 d, .int .i64 e, .int .i64 W, .int .i64 H, .slice (some ⟨gx, ox, none⟩) mt bx, r, y] 44)).drew).cell? ⟨gt, ot + T * 5 + 1, none⟩ = some (.slice (some ⟨gc, oc, none⟩) nc cc) ∧ ((w.alloc (.cells #[.slice (some ⟨gt, ot, none⟩) nt ct, .slice Ak nk ck, .int .i64 a, .int .i64 b, .int .i64 c, .int .i64 d, .int .i64 e, .int .i64 W, .int .i64 H, .slice (some ⟨gx, ox, none⟩) mt bx, r, y] 44)).drew).cell? ⟨gc, oc + k, none⟩ = some (.int .i64 z) := ⟨by simp [go_sem], by simp [go_sem], KA.cell q1, KA.cell q2, KA.cell q3⟩
  clear q1 q2 q3
  go_region_held3 (fun w' => w'.cell? ⟨w.heap.size, 0, none⟩ = some (.slice (some ⟨gt, ot, none⟩) nt ct) ∧ w'.cell? ⟨w.heap.size, 9, none⟩ = some (.slice (some ⟨gx, ox, none⟩) mt bx) ∧ w'.cell? ⟨gx, ox + i, none⟩ = some (.int .i64 (T : Int)) ∧ w'.cell? ⟨gt, ot + T * 5 + 1, none⟩ = some (.slice (some ⟨gc, oc, none⟩) nc cc) ∧ w'.cell? ⟨gc, oc + k, none⟩ = some (.int .i64 z)) (first | assumption | exact s0) (fail)
  go_wp2_with fail
  go_ret
  exact ⟨rfl, KA.drew⟩

end Go.Proofs.YtkkcnofplddbmaaDoor
