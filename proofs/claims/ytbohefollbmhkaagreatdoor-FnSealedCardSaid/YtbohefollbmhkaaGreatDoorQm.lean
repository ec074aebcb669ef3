/-
  Texts of this seat in one module: SlT.
-/
import Derived.Test.YtbohefollbmhkaaGreatDoorQl

/-
  FirstBadOpening of both sides; the laws' sizes of openings. Nothing that was there is changed. The named variables hold what the program's text lays.
-/
namespace Go.Proofs.YtbohefollbmhkaaGreatDoor
open Go.RowKit

def szR (left r : Int) : Prop := r = -1 ∨ (0 ≤ r ∧ r ≤ left)
set_option maxRecDepth 100000 in
set_option maxHeartbeats 8000000 in
theorem firstBadOpeningP_any (v u : Value) (l : List Sea) (o : List Opn) (w : World) (h : RdSl w v l) (hu : RdOp w u o) (hl : l.length ≤ 1048576) (hol : o.length ≤ 1048576) (hg0 : SpanAt w 0 0 30) (hg1 : SpanAt w 1 0 1) (hg2 : SpanAt w 2 0 4611686016279904236) (hg3 : SpanAt w 3 0 150) (hg4 : SpanAt w 4 0 4) (hT : Lib.Utf8Tabs 6 7 w) :
    Calls Tryz.prog 12 #[v, u] w fun e w' => e = .returned (ib (fboB l o) (fstK (noP l o) 0 l.length : Nat)) ∧ Kp w w' := by
  have HT := Lib.hid hT
  clear hT
  have CL := Lib.hid (fun w h g => isRoundSl_any v l w h hl g)
  have CO := Lib.hid (fun w h g => isRoundOp_any u o w h hol g)
  have RL := Lib.hid h
  have RO := Lib.hid hu
  obtain ⟨A, ca, rfl, ha⟩ := h
  obtain ⟨B, cb, rfl, hb⟩ := hu
  have HA := Lib.hid ha
  have HB := Lib.hid hb
  clear ha hb
  have hB : fboB l o = (decide (l.length = o.length) && (roundB seaB l && roundB opnB o)) := rfl
  rw [hB]
  clear hB
  have HO : roundB opnB o = true → ∀ (k : Nat) p, o[k]? = some p → p.s.size ≤ 150 := fun h k p hp => opnB_size (n := p.n) (roundB_at h hp)
  obtain ⟨n, hn⟩ : ∃ n, l.length = n := ⟨_, rfl⟩
  obtain ⟨m, hm⟩ : ∃ m, o.length = m := ⟨_, rfl⟩
  have HN := Lib.hid hn
  have HM := Lib.hid hm
  rw [hn] at HA hl ⊢
  rw [hm] at HB hol ⊢
  rw [hn] at RL CL
  rw [hm] at RO CO
  obtain ⟨R, hR⟩ : ∃ R, fstK (noP l o) 0 n = R := ⟨_, rfl⟩
  rw [hR]
  have HR := Lib.hid hR
  clear hR hn hm
  by_cases hmn : n = m
  · subst hmn
    have hd : decide (n = n) = true := by simp
    rw [hd, Bool.true_and]
    clear hd
    have hnn : ((n : Int) != (n : Int)) = false := by simp
    cases hok : roundB seaB l
    · rw [hok] at CL
      rw [Bool.false_and]
      clear hok
      go_enter Tryz.func12, Tryz.ntmps12
      go_wp2_with fail
      refine (CL.out _ RL.out hg4 hg0 hg1 hg2).mono ?_
      rintro e1 w1 ⟨rfl, k1⟩
      go_wp2_with fail
      go_ret2
      exact ⟨rfl, k1⟩
    · rw [hok] at CL
      rw [Bool.true_and]
      clear hok
      cases hok : roundB opnB o
      · rw [hok] at CO
        clear hok HO
        go_enter Tryz.func12, Tryz.ntmps12
        go_wp2_with fail
        refine (CL.out _ RL.out hg4 hg0 hg1 hg2).mono ?_
        rintro e1 w1 ⟨rfl, k1⟩
        go_wp2_with fail
        refine (CO.out _ (RO.out.keep k1) (k1.two hg4) (k1.two hg2) (k1.two hg3)).mono ?_
        rintro e2 w2 ⟨rfl, k2⟩
        go_wp2_with fail
        go_ret2
        exact ⟨rfl, k1.trans k2⟩
      · rw [hok] at CO
        have HO := Lib.hid (HO hok)
        clear hok
        go_enter Tryz.func12, Tryz.ntmps12
        go_wp2_with fail
        refine (CL.out _ RL.out hg4 hg0 hg1 hg2).mono ?_
        rintro e1 w1 ⟨rfl, k1⟩
        go_wp2_with fail
        refine (CO.out _ (RO.out.keep k1) (k1.two hg4) (k1.two hg2) (k1.two hg3)).mono ?_
        rintro e2 w2 ⟨rfl, k2⟩
        have KL := k1.trans k2
        clear k1 k2
        go_wp2_with fail
        go_loopw [25] (fun iv wr => ∃ k : Nat, k ≤ n ∧ iv = .int .i64 k ∧ Hid (fstK (noP l o) k (n - k) = R) ∧ Kp w wr) (fun iv _ => n - (intOf iv).toNat)
        case atStart => exact ⟨0, by omega, rfl, HR, KL⟩
        case round =>
          clear HR KL
          obtain ⟨k, hk, rfl, hE, kr⟩ := hrel
          by_cases hlt : k < n
          · have hlt' : (k : Int) < n := by omega
            obtain ⟨e, he⟩ : ∃ e, l[k]? = some e := ⟨l[k]'(by have := HN.out; omega), List.getElem?_eq_getElem _⟩
            obtain ⟨p, hp⟩ : ∃ p, o[k]? = some p := ⟨o[k]'(by have := HM.out; omega), List.getElem?_eq_getElem _⟩
            have hP := Lib.hid (noP_at he hp)
            have hxs := HO.out k p hp
            obtain ⟨ga, oa, rfl, hca⟩ := HA.out (by omega)
            obtain ⟨gb, ob, rfl, hcb⟩ := HB.out (by omega)
            have a9 := (hca k e he).keep kr
            have b9 := (hcb k p hp).keep kr
            obtain ⟨t, s, y⟩ := e
            obtain ⟨nn, x⟩ := p
            obtain ⟨a0, a1, a2⟩ := a9
            obtain ⟨b0, b1⟩ := b9
            simp only at a0 a1 a2 b0 b1 hxs
            clear hca hcb he hp
            have CQ := Lib.hid (fun w hT => opensToP_any t s y nn x w hxs hT)
            have kb : Kp wr (wr.alloc (.cells #[.int .i64 t, .int .i64 s, .int .i64 y] 29)) := (Kp.refl wr).alloc _
            have S0 : (fun w' : World => w'.cell? ⟨wr.heap.size, 0, none⟩ = some (.int .i64 t) ∧ w'.cell? ⟨wr.heap.size, 1, none⟩ = some (.int .i64 s) ∧ w'.cell? ⟨wr.heap.size, 2, none⟩ = some (.int .i64 y) ∧ w'.cell? ⟨gb, ob + k * 2, none⟩ = some (.int .i64 nn) ∧ w'.cell? ⟨gb, ob + k * 2 + 1, none⟩ = some (.string x) ∧ Kp w w') (wr.alloc (.cells #[.int .i64 t, .int .i64 s, .int .i64 y] 29)).drew := ⟨by simp [go_sem], by simp [go_sem], by simp [go_sem], kb.cell b0, kb.cell b1, (kr.trans kb).drew⟩
            go_upto_region 6 with fail
            clear a0 a1 a2 b0 b1
            cases hq : opnsB ⟨t, s, y⟩ ⟨nn, x⟩
            · rw [hq] at CQ
              have HE2 : Hid (R = k) := Lib.hid (by rw [← hE.out]; exact fstK_yes (by rw [hP.out, hq]; rfl) hlt)
              clear hq
              refine wp_region_held_drew (S := (fun w' => w'.cell? ⟨wr.heap.size, 0, none⟩ = some (.int .i64 t) ∧ w'.cell? ⟨wr.heap.size, 1, none⟩ = some (.int .i64 s) ∧ w'.cell? ⟨wr.heap.size, 2, none⟩ = some (.int .i64 y) ∧ w'.cell? ⟨gb, ob + k * 2, none⟩ = some (.int .i64 nn) ∧ w'.cell? ⟨gb, ob + k * 2 + 1, none⟩ = some (.string x) ∧ Kp w w')) (by kernel_rfl) ?_ (fun hHeld => ?_)
              · exact S0
              refine wpAnyH_take (i := 0) (oi := ⟨some 30, _, _, _, _, _⟩) (v := ?_) rfl (by kernel_rfl) (by kernel_rfl) (by kernel_rfl) (fun _ _ _ h => h) (Or.inl ⟨by rfl, ?_⟩) (by assumption) ?_
              rotate_left
              · intro w hSw; (try dsimp only at hSw); go_simp; (all_goals with_reducible rfl)
              simp only [Act.put, List.setIfInBounds_toArray, List.set_cons_zero, List.set_cons_succ]
              refine wpAnyH_take (i := 1) (oi := ⟨some 31, _, _, _, _, _⟩) (v := ?_) rfl (by kernel_rfl) (by kernel_rfl) (by kernel_rfl) (fun _ _ _ h => h) (Or.inl ⟨by rfl, ?_⟩) (by assumption) ?_
              rotate_left
              · intro w hSw; (try dsimp only at hSw); go_simp; (all_goals with_reducible rfl)
              simp only [Act.put, List.setIfInBounds_toArray, List.set_cons_zero, List.set_cons_succ]
              refine wpAnyH_take (i := 2) (oi := ⟨some 32, _, _, _, _, _⟩) (v := ?_) rfl (by kernel_rfl) (by kernel_rfl) (by kernel_rfl) (fun _ _ _ h => h) (Or.inl ⟨by rfl, ?_⟩) (by assumption) ?_
              rotate_left
              · intro w hSw; (try dsimp only at hSw); go_simp; (all_goals with_reducible rfl)
              simp only [Act.put, List.setIfInBounds_toArray, List.set_cons_zero, List.set_cons_succ]
              refine wpAnyH_take (i := 3) (oi := ⟨some 33, _, _, _, _, _⟩) (v := ?_) rfl (by kernel_rfl) (by kernel_rfl) (by kernel_rfl) (fun _ _ _ h => h) (Or.inl ⟨by rfl, ?_⟩) (by assumption) ?_
              rotate_left
              · intro w hSw; (try dsimp only at hSw); go_simp; (all_goals with_reducible rfl)
              simp only [Act.put, List.setIfInBounds_toArray, List.set_cons_zero, List.set_cons_succ]
              refine wpAnyH_take (i := 4) (oi := ⟨some 34, _, _, _, _, _⟩) (v := ?_) rfl (by kernel_rfl) (by kernel_rfl) (by kernel_rfl) (fun _ _ _ h => h) (Or.inl ⟨by rfl, ?_⟩) (by assumption) ?_
              rotate_left
              · intro w hSw; (try dsimp only at hSw); go_simp; (all_goals with_reducible rfl)
              simp only [Act.put, List.setIfInBounds_toArray, List.set_cons_zero, List.set_cons_succ]
              refine wpAnyH_ready (rs := [5]) (by kernel_rfl) (by simp) ?_
              refine AllReadyH.cons (o := ⟨some 35, _, _, _, _, _⟩) rfl (fun K hK => ?_) AllReadyH.nil
              go_simp
              refine (CQ.out _ (by first | exact Lib.Utf8Tabs_below HT.out hHeld.2.2.2.2.2 | exact Utf8Tabs_below HT.out hHeld.2.2.2.2.2)).mono ?_; rintro e1 w1 ⟨rfl, k1⟩; have s1 := keep6k k1 hHeld
              go_wp2_with fail
              refine hK.out _ _ ?_ (fun hHeld => ?_)
              · (try dsimp only); (first | assumption | exact s1)
              clear hK K
              try simp only [Act.put, List.setIfInBounds_toArray, List.set_cons_zero, List.set_cons_succ]
              refine wpAnyH_take (i := 6) (oi := ⟨some 36, _, _, _, _, _⟩) (v := ?_) rfl (by kernel_rfl) (by kernel_rfl) (by kernel_rfl) (fun _ _ _ h => h) (Or.inl ⟨by rfl, ?_⟩) (by assumption) ?_
              rotate_left
              · intro w hSw; (try dsimp only at hSw); go_simp; (all_goals with_reducible rfl)
              simp only [Act.put, List.setIfInBounds_toArray, List.set_cons_zero, List.set_cons_succ]
              refine wpAnyH_done (by kernel_rfl) ?_ _
              go_wp2_with fail
              go_ret2
              exact ⟨by rw [HE2.out]; rfl, hHeld.2.2.2.2.2⟩
            · rw [hq] at CQ
              have HE2 : Hid (fstK (noP l o) (k + 1) (n - (k + 1)) = R) := Lib.hid (by rw [← fstK_no (by rw [hP.out, hq]; rfl) hlt]; exact hE.out)
              clear hq
              refine wp_region_held_drew (S := (fun w' => w'.cell? ⟨wr.heap.size, 0, none⟩ = some (.int .i64 t) ∧ w'.cell? ⟨wr.heap.size, 1, none⟩ = some (.int .i64 s) ∧ w'.cell? ⟨wr.heap.size, 2, none⟩ = some (.int .i64 y) ∧ w'.cell? ⟨gb, ob + k * 2, none⟩ = some (.int .i64 nn) ∧ w'.cell? ⟨gb, ob + k * 2 + 1, none⟩ = some (.string x) ∧ Kp w w')) (by kernel_rfl) ?_ (fun hHeld => ?_)
              · exact S0
              refine wpAnyH_take (i := 0) (oi := ⟨some 30, _, _, _, _, _⟩) (v := ?_) rfl (by kernel_rfl) (by kernel_rfl) (by kernel_rfl) (fun _ _ _ h => h) (Or.inl ⟨by rfl, ?_⟩) (by assumption) ?_
              rotate_left
              · intro w hSw; (try dsimp only at hSw); go_simp; (all_goals with_reducible rfl)
              simp only [Act.put, List.setIfInBounds_toArray, List.set_cons_zero, List.set_cons_succ]
              refine wpAnyH_take (i := 1) (oi := ⟨some 31, _, _, _, _, _⟩) (v := ?_) rfl (by kernel_rfl) (by kernel_rfl) (by kernel_rfl) (fun _ _ _ h => h) (Or.inl ⟨by rfl, ?_⟩) (by assumption) ?_
              rotate_left
              · intro w hSw; (try dsimp only at hSw); go_simp; (all_goals with_reducible rfl)
              simp only [Act.put, List.setIfInBounds_toArray, List.set_cons_zero, List.set_cons_succ]
              refine wpAnyH_take (i := 2) (oi := ⟨some 32, _, _, _, _, _⟩) (v := ?_) rfl (by kernel_rfl) (by kernel_rfl) (by kernel_rfl) (fun _ _ _ h => h) (Or.inl ⟨by rfl, ?_⟩) (by assumption) ?_
              rotate_left
              · intro w hSw; (try dsimp only at hSw); go_simp; (all_goals with_reducible rfl)
              simp only [Act.put, List.setIfInBounds_toArray, List.set_cons_zero, List.set_cons_succ]
              refine wpAnyH_take (i := 3) (oi := ⟨some 33, _, _, _, _, _⟩) (v := ?_) rfl (by kernel_rfl) (by kernel_rfl) (by kernel_rfl) (fun _ _ _ h => h) (Or.inl ⟨by rfl, ?_⟩) (by assumption) ?_
              rotate_left
              · intro w hSw; (try dsimp only at hSw); go_simp; (all_goals with_reducible rfl)
              simp only [Act.put, List.setIfInBounds_toArray, List.set_cons_zero, List.set_cons_succ]
              refine wpAnyH_take (i := 4) (oi := ⟨some 34, _, _, _, _, _⟩) (v := ?_) rfl (by kernel_rfl) (by kernel_rfl) (by kernel_rfl) (fun _ _ _ h => h) (Or.inl ⟨by rfl, ?_⟩) (by assumption) ?_
              rotate_left
              · intro w hSw; (try dsimp only at hSw); go_simp; (all_goals with_reducible rfl)
              simp only [Act.put, List.setIfInBounds_toArray, List.set_cons_zero, List.set_cons_succ]
              refine wpAnyH_ready (rs := [5]) (by kernel_rfl) (by simp) ?_
              refine AllReadyH.cons (o := ⟨some 35, _, _, _, _, _⟩) rfl (fun K hK => ?_) AllReadyH.nil
              go_simp
              refine (CQ.out _ (by first | exact Lib.Utf8Tabs_below HT.out hHeld.2.2.2.2.2 | exact Utf8Tabs_below HT.out hHeld.2.2.2.2.2)).mono ?_; rintro e1 w1 ⟨rfl, k1⟩; have s1 := keep6k k1 hHeld
              go_wp2_with fail
              refine hK.out _ _ ?_ (fun hHeld => ?_)
              · (try dsimp only); (first | assumption | exact s1)
              clear hK K
              try simp only [Act.put, List.setIfInBounds_toArray, List.set_cons_zero, List.set_cons_succ]
              refine wpAnyH_take (i := 6) (oi := ⟨some 36, _, _, _, _, _⟩) (v := ?_) rfl (by kernel_rfl) (by kernel_rfl) (by kernel_rfl) (fun _ _ _ h => h) (Or.inl ⟨by rfl, ?_⟩) (by assumption) ?_
              rotate_left
              · intro w hSw; (try dsimp only at hSw); go_simp; (all_goals with_reducible rfl)
              simp only [Act.put, List.setIfInBounds_toArray, List.set_cons_zero, List.set_cons_succ]
              refine wpAnyH_done (by kernel_rfl) ?_ _
              go_wp2_with fail
              go_roundw
              case rel => exact ⟨k + 1, by omega, by go_num, HE2, hHeld.2.2.2.2.2⟩
              case measure => simp [intOf]; omega
          · obtain rfl : k = n := by omega
            have HE2 : Hid (R = k) := Lib.hid (by rw [← hE.out]; exact fstK_end)
            go_wp2_with fail
            go_ret2
            exact ⟨by rw [HE2.out]; rfl, kr⟩
  · have hd : decide (n = m) = false := by simpa using hmn
    rw [hd, Bool.false_and]
    clear hd
    have hne : ((n : Int) != (m : Int)) = true := by simpa using fun e : (n : Int) = m => hmn (by omega)
    clear hmn
    go_enter Tryz.func12, Tryz.ntmps12
    go_wp2_with fail
    go_ret2
    exact ⟨rfl, Kp.refl w⟩

set_option maxRecDepth 100000 in
set_option maxHeartbeats 8000000 in
theorem firstBadOpeningS_any (v u : Value) (l : List Sea) (o : List Opn) (w : World) (h : RdSl w v l) (hu : RdOp w u o) (hl : l.length ≤ 1048576) (hol : o.length ≤ 1048576)  :
    Calls Tryz.prog 13 #[v, u] w fun e w' => e = .returned (ib (fboB l o) (fstK (noP l o) 0 l.length : Nat)) ∧ Kp w w' := by
  have CL := Lib.hid (eList_any v l w h hl)
  have RL := Lib.hid h
  have RO := Lib.hid hu
  obtain ⟨A, ca, rfl, ha⟩ := h
  obtain ⟨B, cb, rfl, hb⟩ := hu
  have HA := Lib.hid ha
  have HB := Lib.hid hb
  clear ha hb
  have hB : fboB l o = (decide (l.length = o.length) && (roundB seaB l && roundB opnB o)) := rfl
  rw [hB]
  clear hB
  have HO : roundB opnB o = true → ∀ (k : Nat) p, o[k]? = some p → p.s.size ≤ 150 := fun h k p hp => opnB_size (n := p.n) (roundB_at h hp)
  obtain ⟨n, hn⟩ : ∃ n, l.length = n := ⟨_, rfl⟩
  obtain ⟨m, hm⟩ : ∃ m, o.length = m := ⟨_, rfl⟩
  have HN := Lib.hid hn
  have HM := Lib.hid hm
  rw [hn] at HA hl ⊢
  rw [hm] at HB hol ⊢
  rw [hn] at RL CL
  rw [hm] at RO
  obtain ⟨R, hR⟩ : ∃ R, fstK (noP l o) 0 n = R := ⟨_, rfl⟩
  rw [hR]
  have HR := Lib.hid hR
  clear hR hn hm
  cases hok : roundB seaB l
  · rw [hok] at CL
    rw [Bool.false_and, Bool.and_false]
    clear hok
    go_enter Tryz.func13, Tryz.ntmps13
    go_wp2_with fail
    refine CL.out.mono ?_
    rintro e1 w1 ⟨rfl, k1⟩
    go_wp2_with fail
    go_ret2
    exact ⟨rfl, k1⟩
  · rw [hok] at CL
    have hn4 : n ≤ 4 := by rw [← HN.out]; exact roundB_len hok
    rw [Bool.true_and]
    clear hok
    by_cases hmn : n = m
    · subst hmn
      have hd : decide (n = n) = true := by simp
      rw [hd, Bool.true_and]
      clear hd
      have hnn : ((n : Int) != (n : Int)) = false := by simp
      obtain ⟨F, hF⟩ : ∃ F, F = roundB opnB o := ⟨_, rfl⟩
      rw [← hF]
      rw [← hF] at HO
      have hF2 : Hid (F = o.all opnB) := Lib.hid (by rw [hF, roundB, HM.out]; simp [hn4])
      have HOh := Lib.hid HO
      clear hF HO
      go_enter Tryz.func13, Tryz.ntmps13
      go_wp2_with fail
      refine CL.out.mono ?_
      rintro e1 w1 ⟨rfl, k1⟩
      go_wp2_with fail
      go_loopw [22] (fun iv wr => ∃ k : Nat, k ≤ n ∧ iv = .int .i64 k ∧ Hid (∀ j x, j < k → o[j]? = some x → opnB x = true) ∧ Kp w wr) (fun iv _ => n - (intOf iv).toNat)
      case atStart => exact ⟨0, by omega, rfl, Lib.hid (fun j x hj => absurd hj (by omega)), k1⟩
      case round =>
        clear k1
        obtain ⟨k, hk, rfl, hP, kr⟩ := hrel
        by_cases hlt : k < n
        · have hlt' : (k : Int) < n := by omega
          obtain ⟨g, off, rfl, hc⟩ := HB.out (by omega)
          obtain ⟨x, hx⟩ : ∃ x, o[k]? = some x := ⟨o[k]'(by have := HM.out; omega), List.getElem?_eq_getElem _⟩
          have a9 := (hc k x hx).keep kr
          have HX := Lib.hid hx
          clear hc hx
          obtain ⟨nn, y⟩ := x
          obtain ⟨a0, a1⟩ := a9
          simp only at a0 a1
          have HC := Lib.hid (fun w => eOpening_any nn y w)
          cases hok : opnB ⟨nn, y⟩
          · have hf : Hid (F = false) := Lib.hid (by rw [hF2.out, allB_no HX.out hok])
            rw [hok] at HC
            clear hok
            go_wp2_with fail
            refine (HC.out _).mono ?_
            rintro e2 w2 ⟨rfl, k2⟩
            go_wp2_with fail
            go_ret2
            exact ⟨by rw [hf.out]; rfl, (kr.alloc (.cells #[.int .i64 nn, .string y] 25)).trans k2⟩
          · have HP2 : Hid (∀ j x, j < k + 1 → o[j]? = some x → opnB x = true) := Lib.hid (fun j y hj hy => by
              by_cases e : j = k
              · subst e
                rw [HX.out] at hy
                obtain rfl := Option.some.inj hy
                exact hok
              · exact hP.out j y (by omega) hy)
            rw [hok] at HC
            clear hok
            go_wp2_with fail
            refine (HC.out _).mono ?_
            rintro e2 w2 ⟨rfl, k2⟩
            go_wp2_with fail
            go_roundw
            case rel => exact ⟨k + 1, by omega, by go_num, HP2, (kr.alloc (.cells #[.int .i64 nn, .string y] 25)).trans k2⟩
            case measure => simp [intOf]; omega
        · obtain rfl : k = n := by omega
          have hf : F = true := by rw [hF2.out]; exact allB_yes (fun j x hj hx => hP.out j x (by have := HM.out; omega) hx)
          have HO2 := Lib.hid (HOh.out hf)
          clear HOh
          subst hf
          have HO := HO2
          clear HO2
          have KL := kr
          clear kr hP hF2
          generalize k = n at *
          go_wp2_with fail
          go_loopw [32] (fun iv wr => ∃ k : Nat, k ≤ n ∧ iv = .int .i64 k ∧ Hid (fstK (noP l o) k (n - k) = R) ∧ Kp w wr) (fun iv _ => n - (intOf iv).toNat)
          case atStart => exact ⟨0, by omega, rfl, HR, KL⟩
          case round =>
            clear HR KL
            obtain ⟨k, hk, rfl, hE, kr⟩ := hrel
            by_cases hlt : k < n
            · have hlt' : (k : Int) < n := by omega
              obtain ⟨e, he⟩ : ∃ e, l[k]? = some e := ⟨l[k]'(by have := HN.out; omega), List.getElem?_eq_getElem _⟩
              obtain ⟨p, hp⟩ : ∃ p, o[k]? = some p := ⟨o[k]'(by have := HM.out; omega), List.getElem?_eq_getElem _⟩
              have hP := Lib.hid (noP_at he hp)
              have hxs := HO.out k p hp
              obtain ⟨ga, oa, rfl, hca⟩ := HA.out (by omega)
              obtain ⟨gb, ob, rfl, hcb⟩ := HB.out (by omega)
              have a9 := (hca k e he).keep kr
              have b9 := (hcb k p hp).keep kr
              obtain ⟨t, s, y⟩ := e
              obtain ⟨nn, x⟩ := p
              obtain ⟨a0, a1, a2⟩ := a9
              obtain ⟨b0, b1⟩ := b9
              simp only at a0 a1 a2 b0 b1 hxs
              clear hca hcb he hp
              have CQ := Lib.hid (fun w => eOpens_any t s y nn x w hxs)
              have kb : Kp wr (wr.alloc (.cells #[.int .i64 t, .int .i64 s, .int .i64 y] 29)) := (Kp.refl wr).alloc _
              have S0 : (fun w' : World => w'.cell? ⟨wr.heap.size, 0, none⟩ = some (.int .i64 t) ∧ w'.cell? ⟨wr.heap.size, 1, none⟩ = some (.int .i64 s) ∧ w'.cell? ⟨wr.heap.size, 2, none⟩ = some (.int .i64 y) ∧ w'.cell? ⟨gb, ob + k * 2, none⟩ = some (.int .i64 nn) ∧ w'.cell? ⟨gb, ob + k * 2 + 1, none⟩ = some (.string x) ∧ Kp w w') (wr.alloc (.cells #[.int .i64 t, .int .i64 s, .int .i64 y] 29)).drew := ⟨by simp [go_sem], by simp [go_sem], by simp [go_sem], kb.cell b0, kb.cell b1, (kr.trans kb).drew⟩
              go_upto_region 12 with fail
              clear a0 a1 a2 b0 b1
              cases hq : opnsB ⟨t, s, y⟩ ⟨nn, x⟩
              · rw [hq] at CQ
                have HE2 : Hid (R = k) := Lib.hid (by rw [← hE.out]; exact fstK_yes (by rw [hP.out, hq]; rfl) hlt)
                clear hq
                refine wp_region_held_drew (S := (fun w' => w'.cell? ⟨wr.heap.size, 0, none⟩ = some (.int .i64 t) ∧ w'.cell? ⟨wr.heap.size, 1, none⟩ = some (.int .i64 s) ∧ w'.cell? ⟨wr.heap.size, 2, none⟩ = some (.int .i64 y) ∧ w'.cell? ⟨gb, ob + k * 2, none⟩ = some (.int .i64 nn) ∧ w'.cell? ⟨gb, ob + k * 2 + 1, none⟩ = some (.string x) ∧ Kp w w')) (by kernel_rfl) ?_ (fun hHeld => ?_)
                · exact S0
                refine wpAnyH_take (i := 0) (oi := ⟨some 37, _, _, _, _, _⟩) (v := ?_) rfl (by kernel_rfl) (by kernel_rfl) (by kernel_rfl) (fun _ _ _ h => h) (Or.inl ⟨by rfl, ?_⟩) (by assumption) ?_
                rotate_left
                · intro w hSw; (try dsimp only at hSw); go_simp; (all_goals with_reducible rfl)
                simp only [Act.put, List.setIfInBounds_toArray, List.set_cons_zero, List.set_cons_succ]
                refine wpAnyH_take (i := 1) (oi := ⟨some 38, _, _, _, _, _⟩) (v := ?_) rfl (by kernel_rfl) (by kernel_rfl) (by kernel_rfl) (fun _ _ _ h => h) (Or.inl ⟨by rfl, ?_⟩) (by assumption) ?_
                rotate_left
                · intro w hSw; (try dsimp only at hSw); go_simp; (all_goals with_reducible rfl)
                simp only [Act.put, List.setIfInBounds_toArray, List.set_cons_zero, List.set_cons_succ]
                refine wpAnyH_take (i := 2) (oi := ⟨some 39, _, _, _, _, _⟩) (v := ?_) rfl (by kernel_rfl) (by kernel_rfl) (by kernel_rfl) (fun _ _ _ h => h) (Or.inl ⟨by rfl, ?_⟩) (by assumption) ?_
                rotate_left
                · intro w hSw; (try dsimp only at hSw); go_simp; (all_goals with_reducible rfl)
                simp only [Act.put, List.setIfInBounds_toArray, List.set_cons_zero, List.set_cons_succ]
                refine wpAnyH_take (i := 3) (oi := ⟨some 40, _, _, _, _, _⟩) (v := ?_) rfl (by kernel_rfl) (by kernel_rfl) (by kernel_rfl) (fun _ _ _ h => h) (Or.inl ⟨by rfl, ?_⟩) (by assumption) ?_
                rotate_left
                · intro w hSw; (try dsimp only at hSw); go_simp; (all_goals with_reducible rfl)
                simp only [Act.put, List.setIfInBounds_toArray, List.set_cons_zero, List.set_cons_succ]
                refine wpAnyH_take (i := 4) (oi := ⟨some 41, _, _, _, _, _⟩) (v := ?_) rfl (by kernel_rfl) (by kernel_rfl) (by kernel_rfl) (fun _ _ _ h => h) (Or.inl ⟨by rfl, ?_⟩) (by assumption) ?_
                rotate_left
                · intro w hSw; (try dsimp only at hSw); go_simp; (all_goals with_reducible rfl)
                simp only [Act.put, List.setIfInBounds_toArray, List.set_cons_zero, List.set_cons_succ]
                refine wpAnyH_ready (rs := [5]) (by kernel_rfl) (by simp) ?_
                refine AllReadyH.cons (o := ⟨some 42, _, _, _, _, _⟩) rfl (fun K hK => ?_) AllReadyH.nil
                go_simp
                refine (CQ.out _).mono ?_; rintro e1 w1 ⟨rfl, k1⟩; have s1 := keep6k k1 hHeld
                go_wp2_with fail
                refine hK.out _ _ ?_ (fun hHeld => ?_)
                · (try dsimp only); (first | assumption | exact s1)
                clear hK K
                try simp only [Act.put, List.setIfInBounds_toArray, List.set_cons_zero, List.set_cons_succ]
                refine wpAnyH_take (i := 6) (oi := ⟨some 43, _, _, _, _, _⟩) (v := ?_) rfl (by kernel_rfl) (by kernel_rfl) (by kernel_rfl) (fun _ _ _ h => h) (Or.inl ⟨by rfl, ?_⟩) (by assumption) ?_
                rotate_left
                · intro w hSw; (try dsimp only at hSw); go_simp; (all_goals with_reducible rfl)
                simp only [Act.put, List.setIfInBounds_toArray, List.set_cons_zero, List.set_cons_succ]
                refine wpAnyH_done (by kernel_rfl) ?_ _
                go_wp2_with fail
                go_ret2
                exact ⟨by rw [HE2.out]; rfl, hHeld.2.2.2.2.2⟩
              · rw [hq] at CQ
                have HE2 : Hid (fstK (noP l o) (k + 1) (n - (k + 1)) = R) := Lib.hid (by rw [← fstK_no (by rw [hP.out, hq]; rfl) hlt]; exact hE.out)
                clear hq
                refine wp_region_held_drew (S := (fun w' => w'.cell? ⟨wr.heap.size, 0, none⟩ = some (.int .i64 t) ∧ w'.cell? ⟨wr.heap.size, 1, none⟩ = some (.int .i64 s) ∧ w'.cell? ⟨wr.heap.size, 2, none⟩ = some (.int .i64 y) ∧ w'.cell? ⟨gb, ob + k * 2, none⟩ = some (.int .i64 nn) ∧ w'.cell? ⟨gb, ob + k * 2 + 1, none⟩ = some (.string x) ∧ Kp w w')) (by kernel_rfl) ?_ (fun hHeld => ?_)
                · exact S0
                refine wpAnyH_take (i := 0) (oi := ⟨some 37, _, _, _, _, _⟩) (v := ?_) rfl (by kernel_rfl) (by kernel_rfl) (by kernel_rfl) (fun _ _ _ h => h) (Or.inl ⟨by rfl, ?_⟩) (by assumption) ?_
                rotate_left
                · intro w hSw; (try dsimp only at hSw); go_simp; (all_goals with_reducible rfl)
                simp only [Act.put, List.setIfInBounds_toArray, List.set_cons_zero, List.set_cons_succ]
                refine wpAnyH_take (i := 1) (oi := ⟨some 38, _, _, _, _, _⟩) (v := ?_) rfl (by kernel_rfl) (by kernel_rfl) (by kernel_rfl) (fun _ _ _ h => h) (Or.inl ⟨by rfl, ?_⟩) (by assumption) ?_
                rotate_left
                · intro w hSw; (try dsimp only at hSw); go_simp; (all_goals with_reducible rfl)
                simp only [Act.put, List.setIfInBounds_toArray, List.set_cons_zero, List.set_cons_succ]
                refine wpAnyH_take (i := 2) (oi := ⟨some 39, _, _, _, _, _⟩) (v := ?_) rfl (by kernel_rfl) (by kernel_rfl) (by kernel_rfl) (fun _ _ _ h => h) (Or.inl ⟨by rfl, ?_⟩) (by assumption) ?_
                rotate_left
                · intro w hSw; (try dsimp only at hSw); go_simp; (all_goals with_reducible rfl)
                simp only [Act.put, List.setIfInBounds_toArray, List.set_cons_zero, List.set_cons_succ]
                refine wpAnyH_take (i := 3) (oi := ⟨some 40, _, _, _, _, _⟩) (v := ?_) rfl (by kernel_rfl) (by kernel_rfl) (by kernel_rfl) (fun _ _ _ h => h) (Or.inl ⟨by rfl, ?_⟩) (by assumption) ?_
                rotate_left
                · intro w hSw; (try dsimp only at hSw); go_simp; (all_goals with_reducible rfl)
                simp only [Act.put, List.setIfInBounds_toArray, List.set_cons_zero, List.set_cons_succ]
                refine wpAnyH_take (i := 4) (oi := ⟨some 41, _, _, _, _, _⟩) (v := ?_) rfl (by kernel_rfl) (by kernel_rfl) (by kernel_rfl) (fun _ _ _ h => h) (Or.inl ⟨by rfl, ?_⟩) (by assumption) ?_
                rotate_left
                · intro w hSw; (try dsimp only at hSw); go_simp; (all_goals with_reducible rfl)
                simp only [Act.put, List.setIfInBounds_toArray, List.set_cons_zero, List.set_cons_succ]
                refine wpAnyH_ready (rs := [5]) (by kernel_rfl) (by simp) ?_
                refine AllReadyH.cons (o := ⟨some 42, _, _, _, _, _⟩) rfl (fun K hK => ?_) AllReadyH.nil
                go_simp
                refine (CQ.out _).mono ?_; rintro e1 w1 ⟨rfl, k1⟩; have s1 := keep6k k1 hHeld
                go_wp2_with fail
                refine hK.out _ _ ?_ (fun hHeld => ?_)
                · (try dsimp only); (first | assumption | exact s1)
                clear hK K
                try simp only [Act.put, List.setIfInBounds_toArray, List.set_cons_zero, List.set_cons_succ]
                refine wpAnyH_take (i := 6) (oi := ⟨some 43, _, _, _, _, _⟩) (v := ?_) rfl (by kernel_rfl) (by kernel_rfl) (by kernel_rfl) (fun _ _ _ h => h) (Or.inl ⟨by rfl, ?_⟩) (by assumption) ?_
                rotate_left
                · intro w hSw; (try dsimp only at hSw); go_simp; (all_goals with_reducible rfl)
                simp only [Act.put, List.setIfInBounds_toArray, List.set_cons_zero, List.set_cons_succ]
                refine wpAnyH_done (by kernel_rfl) ?_ _
                go_wp2_with fail
                go_roundw
                case rel => exact ⟨k + 1, by omega, by go_num, HE2, hHeld.2.2.2.2.2⟩
                case measure => simp [intOf]; omega
            · obtain rfl : k = n := by omega
              have HE2 : Hid (R = k) := Lib.hid (by rw [← hE.out]; exact fstK_end)
              go_wp2_with fail
              go_ret2
              exact ⟨by rw [HE2.out]; rfl, kr⟩
    · have hd : decide (n = m) = false := by simpa using hmn
      rw [hd, Bool.false_and]
      clear hd
      have hne : ((m : Int) != (n : Int)) = true := by simpa using fun e : (m : Int) = n => hmn (by omega)
      clear hmn
      go_enter Tryz.func13, Tryz.ntmps13
      go_wp2_with fail
      refine CL.out.mono ?_
      rintro e1 w1 ⟨rfl, k1⟩
      go_wp2_with fail
      go_ret2
      exact ⟨rfl, k1⟩


end Go.Proofs.YtbohefollbmhkaaGreatDoor
