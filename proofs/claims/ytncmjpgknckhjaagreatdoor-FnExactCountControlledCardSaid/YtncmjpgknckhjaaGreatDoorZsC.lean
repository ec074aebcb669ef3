/-
  Who controls a hex: ControlMap and CountControlled of the reference. In memory of their own; nothing that was there is changed.
-/
import Derived.Test.YtncmjpgknckhjaaGreatDoorZsE
import Derived.Test.YtncmjpgknckhjaaGreatDoorQa
import Derived.Test.YtncmjpgknckhjaaGreatDoorQa
namespace Go.Proofs.YtncmjpgknckhjaaGreatDoor
open Go.RowKit

theorem mk4Z (w : World) : (Instr.makeSlice 26 (.int .i64 4) (.int .i64 4)).run Tryz.prog w = .ok (.slice (some ⟨w.heap.size, 0, none⟩) 4 4) (w.alloc (.cells (madeCells #[.int .i64 0] 4) 3)) := mkInts 4 (by omega) w
theorem OwnI.cat {w : World} {base g cap n : Nat} {l : List Int} (h : OwnI w base (.slice (some ⟨g, 0, none⟩) n cap) l) {k : Nat} {z : Int} (hx : l[k]? = some z) : w.cell? ⟨g, k, none⟩ = some (.int .i64 z) := by
  obtain ⟨A, c, e, h2⟩ := h.rd
  have hk := (List.getElem?_eq_some_iff.1 hx).1
  simp only [Value.slice.injEq] at e
  obtain ⟨rfl, _, rfl⟩ := e
  obtain ⟨g', off, e2, hc⟩ := h2 (by omega)
  simp only [Option.some.injEq, Addr.mk.injEq, and_true] at e2
  obtain ⟨rfl, rfl⟩ := e2
  have := hc k z hx
  rw [Nat.zero_add] at this
  exact this

set_option maxRecDepth 100000 in
set_option maxHeartbeats 4000000 in
theorem zControl_any (At Ak : Option Addr) (nt nk ct ck : Nat) (l : List Ter) (m : List Knd) (a b c d e W H : Int) (x r y : Value) (lt lr ld : List Int) (T Z : Int) (u : Value) (us : List Uni) (n : Nat) (w : World) (hB : BrdAt w At Ak nt nk l m x r y lt lr ld) (hS : StaAt w u us) (hok : brdOk ⟨l, m, a, b, c, d, e⟩ W H lt lr ld = true) (hst : staOk ⟨l, m, a, b, c, d, e⟩ W H lt T Z us = true) (hn : n < lt.length) :
    Calls Tryz.prog 130 #[bv (.slice At nt ct) (.slice Ak nk ck) a b c d e W H x r y, sv T Z u, .int .i64 (n : Int)] w fun e' w' => e' = .returned (.int .i64 (ctlI l m lt lr ld W us (n : Int))) ∧ Kp w w' := by
  have hlen := mapOk_len (brdOk_map hok)
  have hb := ownN_bd (us := us) (staOk_parts hst).2.2.1 (n : Int)
  have KA : Kp w ((w.alloc (.cells #[.slice At nt ct, .slice Ak nk ck, .int .i64 a, .int .i64 b, .int .i64 c, .int .i64 d, .int .i64 e, .int .i64 W, .int .i64 H, x, r, y] 44)).alloc (.cells #[.int .i64 T, .int .i64 Z, u] 48)) := ((Kp.refl w).alloc _).alloc _
  have s0 : cb12 ((w.alloc (.cells #[.slice At nt ct, .slice Ak nk ck, .int .i64 a, .int .i64 b, .int .i64 c, .int .i64 d, .int .i64 e, .int .i64 W, .int .i64 H, x, r, y] 44)).alloc (.cells #[.int .i64 T, .int .i64 Z, u] 48)) (w.heap.size) (.slice At nt ct) (.slice Ak nk ck) (.int .i64 a) (.int .i64 b) (.int .i64 c) (.int .i64 d) (.int .i64 e) (.int .i64 W) (.int .i64 H) (x) (r) (y) (cb3 ((w.alloc (.cells #[.slice At nt ct, .slice Ak nk ck, .int .i64 a, .int .i64 b, .int .i64 c, .int .i64 d, .int .i64 e, .int .i64 W, .int .i64 H, x, r, y] 44)).alloc (.cells #[.int .i64 T, .int .i64 Z, u] 48)) (w.heap.size + 1) (.int .i64 T) (.int .i64 Z) (u) (Kp w ((w.alloc (.cells #[.slice At nt ct, .slice Ak nk ck, .int .i64 a, .int .i64 b, .int .i64 c, .int .i64 d, .int .i64 e, .int .i64 W, .int .i64 H, x, r, y] 44)).alloc (.cells #[.int .i64 T, .int .i64 Z, u] 48)))) := ⟨by simp [go_sem], by simp [go_sem], by simp [go_sem], by simp [go_sem], by simp [go_sem], by simp [go_sem], by simp [go_sem], by simp [go_sem], by simp [go_sem], by simp [go_sem], by simp [go_sem], by simp [go_sem], by simp [go_sem], by simp [go_sem], by simp [go_sem], KA⟩
  have HB := Lib.hid hB
  have HS := Lib.hid hS
  have CO := Lib.hid (fun (w : World) hS => sOwner_any T Z u us (n : Int) w hS (staOk_parts hst).2.1)
  have CA := Lib.hid (fun (w : World) hB hS => zIn_any At Ak nt nk ct ck l m a b c d e W H x r y lt lr ld T Z u us (n : Int) 0 w hB hS hok hst (onI_mk (by omega) (by omega)))
  have CB := Lib.hid (fun (w : World) hB hS => zIn_any At Ak nt nk ct ck l m a b c d e W H x r y lt lr ld T Z u us (n : Int) 1 w hB hS hok hst (onI_mk (by omega) (by omega)))
  have HE : Hid (ctlI l m lt lr ld W us (n : Int) = ctlZ (ownN us n) (zonB l m lt lr ld W us 0 n) (zonB l m lt lr ld W us 1 n)) := Lib.hid rfl
  rw [HE.out]
  generalize ownN us (n : Int) = X at CO hb ⊢
  generalize zonB l m lt lr ld W us 0 (n : Int) = P at CA ⊢
  generalize zonB l m lt lr ld W us 1 (n : Int) = Q at CB ⊢
  clear hB hS hok hst hn hlen HE
  by_cases hx : 0 ≤ X
  · have hx1 : (X != -1) = true := by simp [bne]; omega
    rw [show ctlZ X P Q = X from if_pos hx]
    clear CA CB
    go_enter Tryz.func130, Tryz.ntmps130
    go_wp2_with fail
    refine (CO.out _ (HS.out.keep KA)).mono ?_
    rintro e1 w1 ⟨rfl, k1⟩
    go_wp2_with fail
    go_ret
    exact ⟨rfl, KA.trans k1⟩
  · obtain rfl : X = -1 := by omega
    clear hx hb
    go_enter Tryz.func130, Tryz.ntmps130
    go_wp2_with fail
    refine (CO.out _ (HS.out.keep KA)).mono ?_
    rintro e1 w1 ⟨rfl, k1⟩
    have s1 := keepe15 k1 s0
    clear s0 k1
    go_upto_region 4 with (fail)
    have sg := drewe15 s1
    clear s1
    refine wp_region_held_drew (S := (fun w' => cb12 w' (w.heap.size) (.slice At nt ct) (.slice Ak nk ck) (.int .i64 a) (.int .i64 b) (.int .i64 c) (.int .i64 d) (.int .i64 e) (.int .i64 W) (.int .i64 H) (x) (r) (y) (cb3 w' (w.heap.size + 1) (.int .i64 T) (.int .i64 Z) (u) (Kp w w')))) (by kernel_rfl) ?_ (fun hHeld => ?_)
    · assumption
    generalize w1.drew = V at *
    refine tk 0 ⟨some 16, _, _, _, _, _⟩ ?_ rfl (by kernel_rfl) (fun _ _ _ h => h) (by rfl) ?_ (by assumption) ?_
    rotate_left
    · intro w hSw; (try dsimp only at hSw); go_simp; (all_goals with_reducible rfl)
    try simp only [Act.put, sA, sB, sC]
    refine tk 1 ⟨some 17, _, _, _, _, _⟩ ?_ rfl (by kernel_rfl) (fun _ _ _ h => h) (by rfl) ?_ (by assumption) ?_
    rotate_left
    · intro w hSw; (try dsimp only at hSw); go_simp; (all_goals with_reducible rfl)
    try simp only [Act.put, sA, sB, sC]
    refine tk 2 ⟨some 18, _, _, _, _, _⟩ ?_ rfl (by kernel_rfl) (fun _ _ _ h => h) (by rfl) ?_ (by assumption) ?_
    rotate_left
    · intro w hSw; (try dsimp only at hSw); go_simp; (all_goals with_reducible rfl)
    try simp only [Act.put, sA, sB, sC]
    refine tk 4 ⟨some 20, _, _, _, _, _⟩ ?_ rfl (by kernel_rfl) (fun _ _ _ h => h) (by rfl) ?_ (by assumption) ?_
    rotate_left
    · intro w hSw; (try dsimp only at hSw); go_simp; (all_goals with_reducible rfl)
    try simp only [Act.put, sA, sB, sC]
    refine tk 5 ⟨some 21, _, _, _, _, _⟩ ?_ rfl (by kernel_rfl) (fun _ _ _ h => h) (by rfl) ?_ (by assumption) ?_
    rotate_left
    · intro w hSw; (try dsimp only at hSw); go_simp; (all_goals with_reducible rfl)
    try simp only [Act.put, sA, sB, sC]
    refine tk 6 ⟨some 22, _, _, _, _, _⟩ ?_ rfl (by kernel_rfl) (fun _ _ _ h => h) (by rfl) ?_ (by assumption) ?_
    rotate_left
    · intro w hSw; (try dsimp only at hSw); go_simp; (all_goals with_reducible rfl)
    try simp only [Act.put, sA, sB, sC]
    refine wpAnyH_ready (rs := [3]) (by kernel_rfl) (by simp) ?_
    refine (AllReadyH.cons (o := ⟨some 19, _, _, _, _, _⟩) rfl (fun K hK => ?_) AllReadyH.nil)
    go_simp
    refine (CA.out _ (HB.out.keep hHeld.2.2.2.2.2.2.2.2.2.2.2.2.2.2.2) (HS.out.keep hHeld.2.2.2.2.2.2.2.2.2.2.2.2.2.2.2)).mono ?_
    rintro e3 w3 ⟨rfl, k3⟩
    have s3 := keepe15 k3 hHeld
    go_wp2_with fail
    refine hK.out _ _ ?_ (fun hHeld => ?_)
    · (try dsimp only); (first | assumption)
    clear hK K
    try simp only [Act.put, sA, sB, sC]
    refine wpAnyH_ready (rs := [7]) (by kernel_rfl) (by simp) ?_
    refine (AllReadyH.cons (o := ⟨some 23, _, _, _, _, _⟩) rfl (fun K hK => ?_) AllReadyH.nil)
    go_simp
    refine (CB.out _ (HB.out.keep hHeld.2.2.2.2.2.2.2.2.2.2.2.2.2.2.2) (HS.out.keep hHeld.2.2.2.2.2.2.2.2.2.2.2.2.2.2.2)).mono ?_
    rintro e4 w4 ⟨rfl, k4⟩
    have s4 := keepe15 k4 hHeld
    go_wp2_with fail
    refine hK.out _ _ ?_ (fun hHeld => ?_)
    · (try dsimp only); (first | assumption)
    clear hK K
    try simp only [Act.put, sA, sB, sC]
    refine tk 8 ⟨some 8, _, _, _, _, _⟩ ?_ rfl (by kernel_rfl) (fun _ _ _ h => h) (by rfl) ?_ (by assumption) ?_
    rotate_left
    · intro w hSw; (try dsimp only at hSw); go_simp; (all_goals with_reducible rfl)
    try simp only [Act.put, sA, sB, sC]
    refine tk 9 ⟨some 9, _, _, _, _, _⟩ ?_ rfl (by kernel_rfl) (fun _ _ _ h => h) (by rfl) ?_ (by assumption) ?_
    rotate_left
    · intro w hSw; (try dsimp only at hSw); go_simp; (all_goals with_reducible rfl)
    try simp only [Act.put, sA, sB, sC]
    refine wpAnyH_done (by kernel_rfl) ?_ _
    have K4 := hHeld.2.2.2.2.2.2.2.2.2.2.2.2.2.2.2
    clear hHeld CO CA CB HB HS KA
    cases P
    · cases Q
      · go_wp2_with fail
        go_ret
        exact ⟨rfl, K4⟩
      · go_wp2_with fail
        go_ret
        exact ⟨rfl, K4⟩
    · cases Q
      · go_wp2_with fail
        go_ret
        exact ⟨rfl, K4⟩
      · go_wp2_with fail
        go_ret
        exact ⟨rfl, K4⟩

set_option maxRecDepth 100000 in
set_option maxHeartbeats 4000000 in
theorem zMap_any (At Ak : Option Addr) (nt nk ct ck : Nat) (l : List Ter) (m : List Knd) (a b c d e W H : Int) (x r y : Value) (lt lr ld : List Int) (T Z : Int) (u : Value) (us : List Uni) (w : World) (hB : BrdAt w At Ak nt nk l m x r y lt lr ld) (hS : StaAt w u us) (hok : brdOk ⟨l, m, a, b, c, d, e⟩ W H lt lr ld = true) (hst : staOk ⟨l, m, a, b, c, d, e⟩ W H lt T Z us = true) :
    Calls Tryz.prog 93 #[bv (.slice At nt ct) (.slice Ak nk ck) a b c d e W H x r y, sv T Z u] w fun e' w' => ∃ v, e' = .returned v ∧ OwnI w' w.heap.size v (ctlL l m lt lr ld W us) ∧ Kp w w' := by
  obtain ⟨p1, p2, p3, p4⟩ := mapOk_side (brdOk_map hok)
  have hlen := mapOk_len (brdOk_map hok)
  have hA := area_bd p1 p2 p3 p4
  have KA : Kp w ((w.alloc (.cells #[.slice At nt ct, .slice Ak nk ck, .int .i64 a, .int .i64 b, .int .i64 c, .int .i64 d, .int .i64 e, .int .i64 W, .int .i64 H, x, r, y] 44)).alloc (.cells #[.int .i64 T, .int .i64 Z, u] 48)) := ((Kp.refl w).alloc _).alloc _
  have s0 : cb12 ((w.alloc (.cells #[.slice At nt ct, .slice Ak nk ck, .int .i64 a, .int .i64 b, .int .i64 c, .int .i64 d, .int .i64 e, .int .i64 W, .int .i64 H, x, r, y] 44)).alloc (.cells #[.int .i64 T, .int .i64 Z, u] 48)) (w.heap.size) (.slice At nt ct) (.slice Ak nk ck) (.int .i64 a) (.int .i64 b) (.int .i64 c) (.int .i64 d) (.int .i64 e) (.int .i64 W) (.int .i64 H) (x) (r) (y) (cb3 ((w.alloc (.cells #[.slice At nt ct, .slice Ak nk ck, .int .i64 a, .int .i64 b, .int .i64 c, .int .i64 d, .int .i64 e, .int .i64 W, .int .i64 H, x, r, y] 44)).alloc (.cells #[.int .i64 T, .int .i64 Z, u] 48)) (w.heap.size + 1) (.int .i64 T) (.int .i64 Z) (u) (Kp w ((w.alloc (.cells #[.slice At nt ct, .slice Ak nk ck, .int .i64 a, .int .i64 b, .int .i64 c, .int .i64 d, .int .i64 e, .int .i64 W, .int .i64 H, x, r, y] 44)).alloc (.cells #[.int .i64 T, .int .i64 Z, u] 48)))) := ⟨by simp [go_sem], by simp [go_sem], by simp [go_sem], by simp [go_sem], by simp [go_sem], by simp [go_sem], by simp [go_sem], by simp [go_sem], by simp [go_sem], by simp [go_sem], by simp [go_sem], by simp [go_sem], by simp [go_sem], by simp [go_sem], by simp [go_sem], KA⟩
  have HB := Lib.hid hB
  have HS := Lib.hid hS
  have CZ : Hid (∀ j : Nat, j < lt.length → ∀ w, BrdAt w At Ak nt nk l m x r y lt lr ld → StaAt w u us → Calls Tryz.prog 130 #[bv (.slice At nt ct) (.slice Ak nk ck) a b c d e W H x r y, sv T Z u, .int .i64 (j : Int)] w fun e' w' => e' = .returned (.int .i64 (ctlI l m lt lr ld W us j)) ∧ Kp w w') := Lib.hid fun j hj w hB hS => zControl_any At Ak nt nk ct ck l m a b c d e W H x r y lt lr ld T Z u us j w hB hS hok hst hj
  have CS : Hid (∀ w, Calls Tryz.prog 75 #[mp W H x r y] w fun e w' => e = .returned (.int .i64 (lt.length : Int)) ∧ Kp w w') := Lib.hid fun w => by
    have h := mSize_any W H x r y w p1 p2 p3 p4
    rw [← hlen] at h
    exact h
  have hn1 : lt.length ≤ 100 := by omega
  have HL : Hid (ctlL l m lt lr ld W us = tabN (fun j => ctlI l m lt lr ld W us j) lt.length) := Lib.hid rfl
  rw [HL.out]
  have HF : Hid (∀ j : Nat, ctlI l m lt lr ld W us (j : Int) = (fun j : Nat => ctlI l m lt lr ld W us j) j) := Lib.hid fun j => rfl
  generalize (fun j : Nat => ctlI l m lt lr ld W us j) = F at HF ⊢
  generalize hn : lt.length = n at CZ CS hn1 ⊢
  obtain ⟨j0, hj0, hz0, hs0, hb0⟩ := info_parts infoInt
  clear hB hS hok hst hlen hA HL hn p1 p2 p3 p4
  go_enter Tryz.func93, Tryz.ntmps93
  go_wp2_with fail
  generalize (w.alloc (.cells #[.slice At nt ct, .slice Ak nk ck, .int .i64 a, .int .i64 b, .int .i64 c, .int .i64 d, .int .i64 e, .int .i64 W, .int .i64 H, x, r, y] 44)).alloc (.cells #[.int .i64 T, .int .i64 Z, u] 48) = W1 at *
  go_loopw [5, 6] (fun v sq wx => ∃ q : Nat, q ≤ n ∧ sq = .int .i64 q ∧ Hid (OwnI wx W1.heap.size v (tabN F q)) ∧ Kp W1 wx) (fun _ sq _ => n - (intOf sq).toNat)
  case atStart => exact ⟨0, by omega, rfl, Lib.hid (OwnI.nil _ _), Kp.refl _⟩
  case round =>
    obtain ⟨q, hqn, rfl, HO, kr⟩ := hrel
    have sr := keepe15 kr s0
    by_cases hlt : q < n
    · have hlt' : (q : Int) < n := by omega
      have CQ := Lib.hid (CZ.out q hlt)
      rw [HF.out q] at CQ
      have HS2 : Hid (tabN F (q + 1) = tabN F q ++ [F q]) := Lib.hid rfl
      have hln : Hid ((tabN F q).length ≤ q) := Lib.hid (Nat.le_of_eq (tabN_len F q))
      generalize F q = X at CQ HS2
      go_wp2_with fail
      refine (CS.out _).mono ?_
      rintro e2 w2 ⟨rfl, k2⟩
      have s2 := keepe15 k2 sr
      have k20 := kr.trans k2
      have HO2 := Lib.hid (HO.out.keep k2)
      clear sr k2 HO kr
      go_wp2_with fail
      refine (CQ.out _ (HB.out.keep s2.2.2.2.2.2.2.2.2.2.2.2.2.2.2.2) (HS.out.keep s2.2.2.2.2.2.2.2.2.2.2.2.2.2.2.2)).mono ?_
      rintro e3 w3 ⟨rfl, k3⟩
      have k30 := k20.trans k3
      have HO3 := Lib.hid (HO2.out.keep k3)
      clear s2 k3 HO2 k20
      go_wp2_with (at_builtin; refine wpList_append_own_at _ rfl (.tmp 14) (.tmp 19) 26 rfl (W1.heap.size) 3 j0 (.int .i64 0) 1 8 Tryz.underlying26 hj0 hz0 hs0 hb0 rfl (by decide) _ (tabN F q).length (cellsI (tabN F q)) rfl (World.ownsRow.alloc HO3.out _) ⟨w3.heap.size, 0, none⟩ 1 1 [.int .i64 X] rfl rfl (one_cell _ _ _) (by simp [Value.oneCell']) (by have := hln.out; simp only [maxLen]; omega) (by have := hln.out; omega) (by have h5 := k30.size; simp; omega) ?_; intro v' w3 hown2 hgrow2 hnil2 hat2; clear hnil2 hat2; have K5 : Kp W1 w3 := (k30.alloc _).grown hgrow2 (fun k e => by have := (World.ownsRow.lt HO3.out k e).1; omega); have O3 := Lib.hid (OwnI.snoc (x := X) hown2); clear hown2 hgrow2)
      go_roundw
      case rel => exact ⟨q + 1, by omega, by go_num, Lib.hid (by rw [HS2.out]; exact O3.out), K5⟩
      case measure => simp [intOf]; omega
    · obtain rfl : q = n := by omega
      have hz9 := s0.2.2.2.2.2.2.2.2.2.2.2.2.2.2.2.size
      go_wp2_with fail
      refine (CS.out _).mono ?_
      rintro e2 w2 ⟨rfl, k2⟩
      go_wp2_with fail
      go_ret
      exact ⟨_, rfl, (HO.out.keep k2).base hz9, sr.2.2.2.2.2.2.2.2.2.2.2.2.2.2.2.trans k2⟩

set_option maxRecDepth 100000 in
set_option maxHeartbeats 4000000 in
theorem specControlMap_any (At Ak : Option Addr) (nt nk ct ck : Nat) (l : List Ter) (m : List Knd) (a b c d e W H : Int) (x r y : Value) (lt lr ld : List Int) (T Z : Int) (u : Value) (us : List Uni) (w : World) (hB : BrdAt w At Ak nt nk l m x r y lt lr ld) (hS : StaAt w u us) :
    Calls Tryz.prog 46 #[bv (.slice At nt ct) (.slice Ak nk ck) a b c d e W H x r y, sv T Z u] w (ListPostI (brdOk ⟨l, m, a, b, c, d, e⟩ W H lt lr ld && staOk ⟨l, m, a, b, c, d, e⟩ W H lt T Z us) (ctlL l m lt lr ld W us) w) := by
  have KA : Kp w ((w.alloc (.cells #[.slice At nt ct, .slice Ak nk ck, .int .i64 a, .int .i64 b, .int .i64 c, .int .i64 d, .int .i64 e, .int .i64 W, .int .i64 H, x, r, y] 44)).alloc (.cells #[.int .i64 T, .int .i64 Z, u] 48)) := ((Kp.refl w).alloc _).alloc _
  have s0 : cb12 ((w.alloc (.cells #[.slice At nt ct, .slice Ak nk ck, .int .i64 a, .int .i64 b, .int .i64 c, .int .i64 d, .int .i64 e, .int .i64 W, .int .i64 H, x, r, y] 44)).alloc (.cells #[.int .i64 T, .int .i64 Z, u] 48)) (w.heap.size) (.slice At nt ct) (.slice Ak nk ck) (.int .i64 a) (.int .i64 b) (.int .i64 c) (.int .i64 d) (.int .i64 e) (.int .i64 W) (.int .i64 H) (x) (r) (y) (cb3 ((w.alloc (.cells #[.slice At nt ct, .slice Ak nk ck, .int .i64 a, .int .i64 b, .int .i64 c, .int .i64 d, .int .i64 e, .int .i64 W, .int .i64 H, x, r, y] 44)).alloc (.cells #[.int .i64 T, .int .i64 Z, u] 48)) (w.heap.size + 1) (.int .i64 T) (.int .i64 Z) (u) (Kp w ((w.alloc (.cells #[.slice At nt ct, .slice Ak nk ck, .int .i64 a, .int .i64 b, .int .i64 c, .int .i64 d, .int .i64 e, .int .i64 W, .int .i64 H, x, r, y] 44)).alloc (.cells #[.int .i64 T, .int .i64 Z, u] 48)))) := ⟨by simp [go_sem], by simp [go_sem], by simp [go_sem], by simp [go_sem], by simp [go_sem], by simp [go_sem], by simp [go_sem], by simp [go_sem], by simp [go_sem], by simp [go_sem], by simp [go_sem], by simp [go_sem], by simp [go_sem], by simp [go_sem], by simp [go_sem], KA⟩
  have HB := Lib.hid hB
  have HS := Lib.hid hS
  clear hB hS
  have CG := Lib.hid (fun (w : World) hB hS => sGood_any At Ak nt nk ct ck l m a b c d e W H x r y lt lr ld T Z u us w hB hS)
  cases hg0 : brdOk ⟨l, m, a, b, c, d, e⟩ W H lt lr ld && staOk ⟨l, m, a, b, c, d, e⟩ W H lt T Z us
  · rw [hg0] at CG
    clear hg0
    repeat (first | rw [Bool.true_and] | rw [Bool.and_true] | rw [Bool.false_and] | rw [Bool.and_false])
    go_enter Tryz.func46, Tryz.ntmps46
    go_wp2_with fail
    refine (CG.out _ (HB.out.keep s0.2.2.2.2.2.2.2.2.2.2.2.2.2.2.2) (HS.out.keep s0.2.2.2.2.2.2.2.2.2.2.2.2.2.2.2)).mono ?_
    rintro e1 w1 ⟨rfl, k1⟩
    have s1 := keepe15 k1 s0
    clear s0 k1
    go_wp2_with fail
    go_ret2
    exact ListPostI.no (s1.2.2.2.2.2.2.2.2.2.2.2.2.2.2.2)
  · rw [hg0] at CG
    have hok : brdOk ⟨l, m, a, b, c, d, e⟩ W H lt lr ld = true := by
      simp only [Bool.and_eq_true] at hg0
      exact hg0.1
    have hst : staOk ⟨l, m, a, b, c, d, e⟩ W H lt T Z us = true := by
      simp only [Bool.and_eq_true] at hg0
      exact hg0.2
    obtain ⟨p1, p2, p3, p4⟩ := mapOk_side (brdOk_map hok)
    have hlen := mapOk_len (brdOk_map hok)
    have CZ := Lib.hid (fun (w : World) hB hS => zMap_any At Ak nt nk ct ck l m a b c d e W H x r y lt lr ld T Z u us w hB hS hok hst)
    generalize ctlL l m lt lr ld W us = R at CZ ⊢
    clear hok hst p1 p2 p3 p4 hlen hg0
    repeat (first | rw [Bool.true_and] | rw [Bool.and_true] | rw [Bool.false_and] | rw [Bool.and_false])
    go_enter Tryz.func46, Tryz.ntmps46
    go_wp2_with fail
    refine (CG.out _ (HB.out.keep s0.2.2.2.2.2.2.2.2.2.2.2.2.2.2.2) (HS.out.keep s0.2.2.2.2.2.2.2.2.2.2.2.2.2.2.2)).mono ?_
    rintro e1 w1 ⟨rfl, k1⟩
    have s1 := keepe15 k1 s0
    clear s0 k1
    go_wp2_with fail
    refine (CZ.out _ (HB.out.keep s1.2.2.2.2.2.2.2.2.2.2.2.2.2.2.2) (HS.out.keep s1.2.2.2.2.2.2.2.2.2.2.2.2.2.2.2)).mono ?_
    rintro e9 w9 ⟨v9, rfl, o9, k9⟩
    have hz9 := s1.2.2.2.2.2.2.2.2.2.2.2.2.2.2.2.size
    go_wp2_with fail
    go_ret2
    exact ⟨_, rfl, o9.base hz9, s1.2.2.2.2.2.2.2.2.2.2.2.2.2.2.2.trans k9⟩

set_option maxRecDepth 100000 in
set_option maxHeartbeats 4000000 in
theorem specCountControlled_any (At Ak : Option Addr) (nt nk ct ck : Nat) (l : List Ter) (m : List Knd) (a b c d e W H : Int) (x r y : Value) (lt lr ld : List Int) (T Z : Int) (u : Value) (us : List Uni) (w : World) (hB : BrdAt w At Ak nt nk l m x r y lt lr ld) (hS : StaAt w u us) :
    Calls Tryz.prog 48 #[bv (.slice At nt ct) (.slice Ak nk ck) a b c d e W H x r y, sv T Z u] w (ListPostI (brdOk ⟨l, m, a, b, c, d, e⟩ W H lt lr ld && staOk ⟨l, m, a, b, c, d, e⟩ W H lt T Z us) (ctlC (ctlL l m lt lr ld W us)) w) := by
  have KA : Kp w ((w.alloc (.cells #[.slice At nt ct, .slice Ak nk ck, .int .i64 a, .int .i64 b, .int .i64 c, .int .i64 d, .int .i64 e, .int .i64 W, .int .i64 H, x, r, y] 44)).alloc (.cells #[.int .i64 T, .int .i64 Z, u] 48)) := ((Kp.refl w).alloc _).alloc _
  have s0 : cb12 ((w.alloc (.cells #[.slice At nt ct, .slice Ak nk ck, .int .i64 a, .int .i64 b, .int .i64 c, .int .i64 d, .int .i64 e, .int .i64 W, .int .i64 H, x, r, y] 44)).alloc (.cells #[.int .i64 T, .int .i64 Z, u] 48)) (w.heap.size) (.slice At nt ct) (.slice Ak nk ck) (.int .i64 a) (.int .i64 b) (.int .i64 c) (.int .i64 d) (.int .i64 e) (.int .i64 W) (.int .i64 H) (x) (r) (y) (cb3 ((w.alloc (.cells #[.slice At nt ct, .slice Ak nk ck, .int .i64 a, .int .i64 b, .int .i64 c, .int .i64 d, .int .i64 e, .int .i64 W, .int .i64 H, x, r, y] 44)).alloc (.cells #[.int .i64 T, .int .i64 Z, u] 48)) (w.heap.size + 1) (.int .i64 T) (.int .i64 Z) (u) (Kp w ((w.alloc (.cells #[.slice At nt ct, .slice Ak nk ck, .int .i64 a, .int .i64 b, .int .i64 c, .int .i64 d, .int .i64 e, .int .i64 W, .int .i64 H, x, r, y] 44)).alloc (.cells #[.int .i64 T, .int .i64 Z, u] 48)))) := ⟨by simp [go_sem], by simp [go_sem], by simp [go_sem], by simp [go_sem], by simp [go_sem], by simp [go_sem], by simp [go_sem], by simp [go_sem], by simp [go_sem], by simp [go_sem], by simp [go_sem], by simp [go_sem], by simp [go_sem], by simp [go_sem], by simp [go_sem], KA⟩
  have HB := Lib.hid hB
  have HS := Lib.hid hS
  clear hB hS
  have CG := Lib.hid (fun (w : World) hB hS => sGood_any At Ak nt nk ct ck l m a b c d e W H x r y lt lr ld T Z u us w hB hS)
  cases hg0 : brdOk ⟨l, m, a, b, c, d, e⟩ W H lt lr ld && staOk ⟨l, m, a, b, c, d, e⟩ W H lt T Z us
  · rw [hg0] at CG
    clear hg0
    repeat (first | rw [Bool.true_and] | rw [Bool.and_true] | rw [Bool.false_and] | rw [Bool.and_false])
    go_enter Tryz.func48, Tryz.ntmps48
    go_wp2_with fail
    refine (CG.out _ (HB.out.keep s0.2.2.2.2.2.2.2.2.2.2.2.2.2.2.2) (HS.out.keep s0.2.2.2.2.2.2.2.2.2.2.2.2.2.2.2)).mono ?_
    rintro e1 w1 ⟨rfl, k1⟩
    have s1 := keepe15 k1 s0
    clear s0 k1
    go_wp2_with fail
    go_ret2
    exact ListPostI.no (s1.2.2.2.2.2.2.2.2.2.2.2.2.2.2.2)
  · rw [hg0] at CG
    have hok : brdOk ⟨l, m, a, b, c, d, e⟩ W H lt lr ld = true := by
      simp only [Bool.and_eq_true] at hg0
      exact hg0.1
    have hst : staOk ⟨l, m, a, b, c, d, e⟩ W H lt T Z us = true := by
      simp only [Bool.and_eq_true] at hg0
      exact hg0.2
    obtain ⟨p1, p2, p3, p4⟩ := mapOk_side (brdOk_map hok)
    have hlen := mapOk_len (brdOk_map hok)
    have CZ := Lib.hid (fun (w : World) hB hS => zMap_any At Ak nt nk ct ck l m a b c d e W H x r y lt lr ld T Z u us w hB hS hok hst)
    have hll : (ctlL l m lt lr ld W us).length ≤ 100 := by
      have hA := area_bd p1 p2 p3 p4
      have := tabN_len (fun j => ctlI l m lt lr ld W us j) lt.length
      unfold ctlL
      omega
    have hbd : ∀ z ∈ ctlL l m lt lr ld W us, -1 ≤ z ∧ z ≤ 2 := fun z hz => by
      obtain ⟨j, _, rfl⟩ := tabN_mem _ _ z hz
      exact ctlZ_bd (ownN_bd (staOk_parts hst).2.2.1 _)
    have HBD := Lib.hid hbd
    generalize ctlL l m lt lr ld W us = R at CZ hll HBD ⊢
    have hmk := fun w => mk4Z w
    clear hbd hok hst p1 p2 p3 p4 hlen hg0
    repeat (first | rw [Bool.true_and] | rw [Bool.and_true] | rw [Bool.false_and] | rw [Bool.and_false])
    go_enter Tryz.func48, Tryz.ntmps48
    go_wp2_with fail
    refine (CG.out _ (HB.out.keep s0.2.2.2.2.2.2.2.2.2.2.2.2.2.2.2) (HS.out.keep s0.2.2.2.2.2.2.2.2.2.2.2.2.2.2.2)).mono ?_
    rintro e1 w1 ⟨rfl, k1⟩
    have s1 := keepe15 k1 s0
    clear s0 k1
    have OZ := Lib.hid (ownI_zero w1 4 (by omega))
    have k2 : Kp w1 (w1.alloc (.cells (madeCells #[.int .i64 0] 4) 3)) := (Kp.refl w1).alloc _
    have s2 := keepe15 k2 s1
    have hzW : w1.heap.size < (w1.alloc (.cells (madeCells #[.int .i64 0] 4) 3)).heap.size := by simp
    go_wp2_with fail
    clear hmk
    generalize w1.alloc (.cells (madeCells #[.int .i64 0] 4) 3) = W2 at *
    refine (CZ.out _ (HB.out.keep s2.2.2.2.2.2.2.2.2.2.2.2.2.2.2.2) (HS.out.keep s2.2.2.2.2.2.2.2.2.2.2.2.2.2.2.2)).mono ?_
    rintro e3 w3 ⟨v3, rfl, o3, k3⟩
    obtain ⟨A3, c3, rfl⟩ := o3.slice
    have O3 := Lib.hid o3
    obtain ⟨n, hn⟩ : ∃ n, R.length = n := ⟨_, rfl⟩
    have HN := Lib.hid hn
    rw [hn] at hll O3 ⊢
    have OC : Hid (OwnI w3 w1.heap.size (.slice (some ⟨w1.heap.size, 0, none⟩) 4 4) (ctlC (R.take 0))) := Lib.hid (OZ.out.keep k3)
    have K3 := s2.2.2.2.2.2.2.2.2.2.2.2.2.2.2.2.trans k3
    have hzw : w.heap.size ≤ w1.heap.size := s1.2.2.2.2.2.2.2.2.2.2.2.2.2.2.2.size
    have hz2 : w1.heap.size < W2.heap.size := hzW
    clear s1 s2 k2 k3 o3 hn OZ hzW
    go_wp2_with fail
    go_loopw [8, 18] (fun _ sq wx => ∃ q : Nat, q ≤ n ∧ sq = .int .i64 q ∧ Hid (OwnI wx w1.heap.size (.slice (some ⟨w1.heap.size, 0, none⟩) 4 4) (ctlC (R.take q))) ∧ Hid (OwnI wx W2.heap.size (.slice A3 n c3) R) ∧ Kp w wx) (fun _ sq _ => n - (intOf sq).toNat)
    case atStart => exact ⟨0, by omega, rfl, OC, O3, K3⟩
    case round =>
      clear OC O3 K3
      obtain ⟨q, hqn, rfl, HC, HR, kr⟩ := hrel
      by_cases hlt : q < n
      · have hlt' : (q : Int) < n := by omega
        obtain ⟨A4, c4, e4, h4⟩ := HR.out.rd
        simp only [Value.slice.injEq] at e4
        obtain ⟨rfl, hn4, rfl⟩ := e4
        obtain ⟨g, off, rfl, hc⟩ := h4 (by omega)
        obtain ⟨z, hz⟩ : ∃ z, R[q]? = some z := ⟨R[q]'(by omega), List.getElem?_eq_getElem _⟩
        have a0 := hc q z hz
        have HZ := Lib.hid hz
        have hb := HBD.out z (List.mem_of_getElem? hz)
        have hg := HR.out.not (g := w1.heap.size) (by omega)
        have HG := Lib.hid hg
        clear hc h4 hz hn4 hg
        have p0 := HC.out.put (k := 0) rfl (by omega) (occI 0 (R.take q) + 1)
        have p1 := HC.out.put (k := 1) rfl (by omega) (occI 1 (R.take q) + 1)
        have p2 := HC.out.put (k := 2) rfl (by omega) (occI 2 (R.take q) + 1)
        have p3 := HC.out.put (k := 3) rfl (by omega) (occI (-1) (R.take q) + 1)
        have b0 := occI_bd 0 (R.take q)
        have b1 := occI_bd 1 (R.take q)
        have b2 := occI_bd 2 (R.take q)
        have b3 := occI_bd (-1) (R.take q)
        have hlq : (R.take q).length ≤ q := by rw [List.length_take]; omega
        have c0 := HC.out.cat (k := 0) (z := occI 0 (R.take q)) rfl
        have c1 := HC.out.cat (k := 1) (z := occI 1 (R.take q)) rfl
        have c2 := HC.out.cat (k := 2) (z := occI 2 (R.take q)) rfl
        have c3 := HC.out.cat (k := 3) (z := occI (-1) (R.take q)) rfl
        have HT : ∀ t : Int, occI t (R.take (q + 1)) = occI t (R.take q) + (if z = t then 1 else 0) := fun t => occI_take HZ.out
        have hz4 : z = -1 ∨ z = 0 ∨ z = 1 ∨ z = 2 := by omega
        rcases hz4 with rfl | rfl | rfl | rfl
        · have HS : Hid (ctlC (R.take (q + 1)) = (ctlC (R.take q)).set 3 (occI (-1) (R.take q) + 1)) := Lib.hid (by
            unfold ctlC
            rw [HT, HT, HT, HT]
            simp [List.set])
          obtain ⟨-, u2, u3⟩ := p3
          have U3 := Lib.hid u3
          generalize occI (-1) (R.take q) = C at c3 b3 HS U3
          clear u3 HT p0 p1 p2
          go_wp2_with fail
          go_roundw
          case rel => exact ⟨q + 1, by omega, by go_num, Lib.hid (by rw [HS.out]; exact U3.out), Lib.hid (HR.out.far HG.out _), kr.setCell hzw _⟩
          case measure => simp [intOf]; omega
        · have HS : Hid (ctlC (R.take (q + 1)) = (ctlC (R.take q)).set 0 (occI (0) (R.take q) + 1)) := Lib.hid (by
            unfold ctlC
            rw [HT, HT, HT, HT]
            simp [List.set])
          obtain ⟨-, u2, u3⟩ := p0
          have U3 := Lib.hid u3
          generalize occI (0) (R.take q) = C at c0 b0 HS U3
          clear u3 HT p1 p2 p3
          go_wp2_with fail
          go_roundw
          case rel => exact ⟨q + 1, by omega, by go_num, Lib.hid (by rw [HS.out]; exact U3.out), Lib.hid (HR.out.far HG.out _), kr.setCell hzw _⟩
          case measure => simp [intOf]; omega
        · have HS : Hid (ctlC (R.take (q + 1)) = (ctlC (R.take q)).set 1 (occI (1) (R.take q) + 1)) := Lib.hid (by
            unfold ctlC
            rw [HT, HT, HT, HT]
            simp [List.set])
          obtain ⟨-, u2, u3⟩ := p1
          have U3 := Lib.hid u3
          generalize occI (1) (R.take q) = C at c1 b1 HS U3
          clear u3 HT p0 p2 p3
          go_wp2_with fail
          go_roundw
          case rel => exact ⟨q + 1, by omega, by go_num, Lib.hid (by rw [HS.out]; exact U3.out), Lib.hid (HR.out.far HG.out _), kr.setCell hzw _⟩
          case measure => simp [intOf]; omega
        · have HS : Hid (ctlC (R.take (q + 1)) = (ctlC (R.take q)).set 2 (occI (2) (R.take q) + 1)) := Lib.hid (by
            unfold ctlC
            rw [HT, HT, HT, HT]
            simp [List.set])
          obtain ⟨-, u2, u3⟩ := p2
          have U3 := Lib.hid u3
          generalize occI (2) (R.take q) = C at c2 b2 HS U3
          clear u3 HT p0 p1 p3
          go_wp2_with fail
          go_roundw
          case rel => exact ⟨q + 1, by omega, by go_num, Lib.hid (by rw [HS.out]; exact U3.out), Lib.hid (HR.out.far HG.out _), kr.setCell hzw _⟩
          case measure => simp [intOf]; omega
      · obtain rfl : q = n := by omega
        have HD : Hid (ctlC (R.take q) = ctlC R) := Lib.hid (by rw [List.take_of_length_le (by have := HN.out; omega)])
        go_wp2_with fail
        go_ret2
        exact ⟨_, rfl, (HD.out ▸ HC.out).base hzw, kr⟩

end Go.Proofs.YtncmjpgknckhjaaGreatDoor
