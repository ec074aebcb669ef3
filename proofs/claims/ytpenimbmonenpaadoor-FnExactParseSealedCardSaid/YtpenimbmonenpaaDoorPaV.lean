/-
  ParseSealed of the reference. Nothing that was there is changed.
-/
import Derived.Test.YtpenimbmonenpaaDoorPaT
import Derived.Deep.CutRange
namespace Go.Proofs.YtpenimbmonenpaaDoor
open Go.RowKit

/-- A seal in a box, the answer's box beside it. -/
def PsR (w : World) (a b c : Int) (G : Nat) (W : World) : Prop := Bx3 W G a b c ∧ Bx3 W w.heap.size 0 0 0 ∧ Kp w W
theorem fin4 {w W : World} {G : Nat} {a b c : Int} (B : Bx3 W G 0 0 0) (T : Bx3 W w.heap.size 0 0 0) (hne : w.heap.size ≠ G) (hG : w.heap.size ≤ G) (K : Kp w W) :
    PsR w a b c G (((W.setCell ⟨G, 0, none⟩ (.int .i64 a)).setCell ⟨G, 1, none⟩ (.int .i64 b)).setCell ⟨G, 2, none⟩ (.int .i64 c)) := by
  obtain ⟨⟨b0, b1, b2⟩, h0, h1, h2⟩ := B
  obtain ⟨⟨c0, c1, c2⟩, f0, f1, f2⟩ := T
  have hne2 : ¬ G = w.heap.size := fun e => hne e.symm
  exact ⟨⟨⟨by simp [go_sem, *], by simp [go_sem, *], by simp [go_sem, *]⟩, by simp [go_sem, *], by simp [go_sem, *], by simp [go_sem, *]⟩, ⟨⟨by simp [go_sem, *], by simp [go_sem, *], by simp [go_sem, *]⟩, by simp [go_sem, *], by simp [go_sem, *], by simp [go_sem, *]⟩,
    ((K.setCell hG _).setCell hG _).setCell hG _⟩
theorem OwnS.at4 {w : World} {base : Nat} {v : Value} {x a b c : ByteArray} (h : OwnS w base v [x, a, b, c]) : ∃ g cap, v = .slice (some ⟨g, 0, none⟩) 4 cap ∧ base ≤ g ∧ w.cell? ⟨g, 1, none⟩ = some (.string a) ∧ w.cell? ⟨g, 2, none⟩ = some (.string b) ∧ w.cell? ⟨g, 3, none⟩ = some (.string c) := by
  rcases h.2 with ⟨h1, h2⟩ | ⟨g, cap, cur, e1, h2, _, _, _, _, _⟩
  · simp at h2
  · exact ⟨g, cap, e1, h2, by subst e1; exact World.ownsRow.cellAt h 1 (by simp), by subst e1; exact World.ownsRow.cellAt h 2 (by simp), by subst e1; exact World.ownsRow.cellAt h 3 (by simp)⟩

set_option maxRecDepth 100000 in
set_option maxHeartbeats 16000000 in
theorem parseSealedS_any (s : ByteArray) (x : List UInt8) (r : List (List UInt8)) (w : World) (hs : s.size ≤ 1048576) (he : spl 32 s.data.toList = x :: r) :
    Calls Tryd.prog 8 #[.string s] w fun e w' => e = .returned (prV (psR s (x :: r))) ∧ Kp w w' := by
  have K0 : Kp w (w.alloc (.cells #[.int .i64 0, .int .i64 0, .int .i64 0] 26)) := (Kp.refl w).alloc _
  have T0 : Bx3 (w.alloc (.cells #[.int .i64 0, .int .i64 0, .int .i64 0] 26)) w.heap.size 0 0 0 := Bx3.new w 0 0 0 26
  have CL := Lib.hid (l1Split_any s (w.alloc (.cells #[.int .i64 0, .int .i64 0, .int .i64 0] 26)) hs)
  rw [he] at CL
  have HWS : Hid (∀ y ∈ x :: r, y.length ≤ s.size) := Lib.hid (fun y hy => by
    have hjoin : s.data.toList = Lib.join (x :: r) [32] := by
      have := splA_join 32 s.data.toList []
      rw [show splA 32 [] s.data.toList = x :: r from he] at this
      rw [this]
      rfl
    rw [← len_byte s, hjoin]
    exact mem_join_le hy)
  clear he
  by_cases h4 : ∃ a b c, r = [a, b, c]
  · obtain ⟨a, b, c, rfl⟩ := h4
    have ha := HWS.out a (by simp)
    have hb := HWS.out b (by simp)
    have hc := HWS.out c (by simp)
    have eT : ∀ l : List UInt8, (tx l).data.toList = l := fun l => by simp [tx]
    have eS : ∀ l : List UInt8, (tx l).size = l.length := fun l => by simp [tx, ByteArray.size]
    have C1 := Lib.hid (fun w => l1Read_any (tx a) w (by rw [eS]; omega))
    have C2 := Lib.hid (fun w => l1Read_any (tx b) w (by rw [eS]; omega))
    have C3 := Lib.hid (fun w => eDigits_any (tx c) w (by rw [eS]; omega))
    rw [eT] at C1 C2 C3
    have hz := eS c
    simp only [List.map_cons, List.map_nil] at CL
    by_cases h19 : c.length ≤ 19
    · have hR : psR s [x, a, b, c] = psC s (rdP a, rdP b, edv c) := by rw [psR, if_pos h19]
      rw [hR]
      have hq19 : ¬ (19 : Int) < ((tx c).size : Int) := by rw [hz]; omega
      obtain ⟨qa, hqa⟩ : ∃ q, tx a = q := ⟨_, rfl⟩
      obtain ⟨qb, hqb⟩ : ∃ q, tx b = q := ⟨_, rfl⟩
      obtain ⟨qc, hqc⟩ : ∃ q, tx c = q := ⟨_, rfl⟩
      rw [hqa] at C1 CL
      rw [hqb] at C2 CL
      rw [hqc] at C3 CL hq19
      generalize rdP a = ra at *
      generalize rdP b = rb at *
      generalize edv c = rc at *
      clear eT eS hz hqa hqb hqc ha hb hc HWS h19 hR
      have PHI : ∀ (Bo : Bool) (X : ByteArray) (R : Option (Int × Int × Int)), True := fun _ _ _ => trivial
      clear PHI
      cases hB : seaB ⟨ra, rb, rc⟩
      · have hq : psC s (ra, rb, rc) = none := by rw [psC, if_neg (by simp [hB])]
        rw [hq]
        have CG := Lib.hid (fun w => eGood_any ra rb rc w)
        rw [hB] at CG
        clear hB hq
        go_enter Tryd.func8, Tryd.ntmps8
        go_wp2_with fail
        refine CL.out.mono ?_
        rintro e1 w1 ⟨v1, rfl, o1, k1⟩
        obtain ⟨g, cap, rfl, hg, a0, a1, a2⟩ := OwnS.at4 o1
        have T1 := T0.keep k1
        have K1 := K0.trans k1
        have zg : w.heap.size < w1.heap.size := by have := k1.size; simp at this; omega
        have gz : ¬ g = w.heap.size := by simp at hg; omega
        have gz2 : ¬ w.heap.size = g := by simp at hg; omega
        have gl := cell_lt a0
        clear o1 T0 k1 K0 CL
        go_upto_region 4 with fail
        go_cut [5] from 19 to 32 (fun s5 wx => ∃ G : Nat, s5 = .pointer (some ⟨G, 0, none⟩) ∧ PsR w ra rb rc G wx)
        case first =>
          refine wp_region_held_drew (S := (fun w' => w'.cell? ⟨g, 1, none⟩ = some (.string qa) ∧ w'.cell? ⟨g, 2, none⟩ = some (.string qb) ∧ w'.cell? ⟨g, 3, none⟩ = some (.string qc))) (by kernel_rfl) ?_ (fun hHeld => ?_)
          · exact ⟨a0, a1, a2⟩
          have TD := T1.drew
          have KD := K1.drew
          have SD : w1.drew.cell? ⟨g, 1, none⟩ = some (.string qa) ∧ w1.drew.cell? ⟨g, 2, none⟩ = some (.string qb) ∧ w1.drew.cell? ⟨g, 3, none⟩ = some (.string qc) := hHeld
          have zD : w.heap.size < w1.drew.heap.size := zg
          have glD : g < w1.drew.heap.size := gl
          clear hHeld
          generalize w1.drew = WD at *
          have hHeld := SD
          refine wpAnyH_take (i := 0) (oi := ⟨some 19, _, _, _, _, _⟩) (v := ?_) rfl (by kernel_rfl) (by kernel_rfl) (by kernel_rfl) (fun _ _ _ h => h) (Or.inl ⟨by rfl, ?_⟩) (by assumption) ?_
          rotate_left
          · intro w hSw; (try dsimp only at hSw); go_simp; (all_goals with_reducible rfl)
          simp only [Act.put, List.setIfInBounds_toArray, List.set_cons_zero, List.set_cons_succ]
          refine wpAnyH_take (i := 1) (oi := ⟨some 20, _, _, _, _, _⟩) (v := ?_) rfl (by kernel_rfl) (by kernel_rfl) (by kernel_rfl) (fun _ _ _ h => h) (Or.inl ⟨by rfl, ?_⟩) (by assumption) ?_
          rotate_left
          · intro w hSw; (try dsimp only at hSw); go_simp; (all_goals with_reducible rfl)
          simp only [Act.put, List.setIfInBounds_toArray, List.set_cons_zero, List.set_cons_succ]
          refine wpAnyH_take (i := 2) (oi := ⟨some 21, _, _, _, _, _⟩) (v := ?_) rfl (by kernel_rfl) (by kernel_rfl) (by kernel_rfl) (fun _ _ _ h => h) (Or.inl ⟨by rfl, ?_⟩) (by assumption) ?_
          rotate_left
          · intro w hSw; (try dsimp only at hSw); go_simp; (all_goals with_reducible rfl)
          simp only [Act.put, List.setIfInBounds_toArray, List.set_cons_zero, List.set_cons_succ]
          refine wpAnyH_take (i := 4) (oi := ⟨some 23, _, _, _, _, _⟩) (v := ?_) rfl (by kernel_rfl) (by kernel_rfl) (by kernel_rfl) (fun _ _ _ h => h) (Or.inl ⟨by rfl, ?_⟩) (by assumption) ?_
          rotate_left
          · intro w hSw; (try dsimp only at hSw); go_simp; (all_goals with_reducible rfl)
          simp only [Act.put, List.setIfInBounds_toArray, List.set_cons_zero, List.set_cons_succ]
          refine wpAnyH_take (i := 5) (oi := ⟨some 24, _, _, _, _, _⟩) (v := ?_) rfl (by kernel_rfl) (by kernel_rfl) (by kernel_rfl) (fun _ _ _ h => h) (Or.inl ⟨by rfl, ?_⟩) (by assumption) ?_
          rotate_left
          · intro w hSw; (try dsimp only at hSw); go_simp; (all_goals with_reducible rfl)
          simp only [Act.put, List.setIfInBounds_toArray, List.set_cons_zero, List.set_cons_succ]
          refine wpAnyH_take (i := 6) (oi := ⟨some 25, _, _, _, _, _⟩) (v := ?_) rfl (by kernel_rfl) (by kernel_rfl) (by kernel_rfl) (fun _ _ _ h => h) (Or.inl ⟨by rfl, ?_⟩) (by assumption) ?_
          rotate_left
          · intro w hSw; (try dsimp only at hSw); go_simp; (all_goals with_reducible rfl)
          simp only [Act.put, List.setIfInBounds_toArray, List.set_cons_zero, List.set_cons_succ]
          refine wpAnyH_take (i := 8) (oi := ⟨some 27, _, _, _, _, _⟩) (v := ?_) rfl (by kernel_rfl) (by kernel_rfl) (by kernel_rfl) (fun _ _ _ h => h) (Or.inl ⟨by rfl, ?_⟩) (by assumption) ?_
          rotate_left
          · intro w hSw; (try dsimp only at hSw); go_simp; (all_goals with_reducible rfl)
          simp only [Act.put, List.setIfInBounds_toArray, List.set_cons_zero, List.set_cons_succ]
          refine wpAnyH_take (i := 9) (oi := ⟨some 28, _, _, _, _, _⟩) (v := ?_) rfl (by kernel_rfl) (by kernel_rfl) (by kernel_rfl) (fun _ _ _ h => h) (Or.inl ⟨by rfl, ?_⟩) (by assumption) ?_
          rotate_left
          · intro w hSw; (try dsimp only at hSw); go_simp; (all_goals with_reducible rfl)
          simp only [Act.put, List.setIfInBounds_toArray, List.set_cons_zero, List.set_cons_succ]
          refine wpAnyH_take (i := 10) (oi := ⟨some 29, _, _, _, _, _⟩) (v := ?_) rfl (by kernel_rfl) (by kernel_rfl) (by kernel_rfl) (fun _ _ _ h => h) (Or.inl ⟨by rfl, ?_⟩) (by assumption) ?_
          rotate_left
          · intro w hSw; (try dsimp only at hSw); go_simp; (all_goals with_reducible rfl)
          simp only [Act.put, List.setIfInBounds_toArray, List.set_cons_zero, List.set_cons_succ]
          have gw0 : w.heap.size ≠ WD.heap.size := by omega
          have ge1 : ¬ WD.heap.size = g := by omega
          have ge2 : ¬ g = WD.heap.size := by omega
          refine wpAnyH_ready (rs := [3, 13]) (by kernel_rfl) (by simp) ?_
          refine (AllReadyH.cons (o := ⟨some 22, _, _, _, _, _⟩) rfl (fun K hK => ?_) (AllReadyH.cons (o := ⟨some 5, _, _, _, _, _⟩) rfl (fun K hK => ?_) AllReadyH.nil))
          · go_simp
            refine (C1.out _).mono ?_
            rintro _ _ ⟨rfl, rfl⟩
            go_wp2_with fail
            refine hK.out _ _ ?_ (fun hHeld => ?_)
            · (try dsimp only); (exact hHeld)
            clear hK K
            try simp only [Act.put, List.setIfInBounds_toArray, List.set_cons_zero, List.set_cons_succ]
            refine wpAnyH_ready (rs := [7, 13]) (by kernel_rfl) (by simp) ?_
            refine (AllReadyH.cons (o := ⟨some 26, _, _, _, _, _⟩) rfl (fun K hK => ?_) (AllReadyH.cons (o := ⟨some 5, _, _, _, _, _⟩) rfl (fun K hK => ?_) AllReadyH.nil))
            · go_simp
              refine (C2.out _).mono ?_
              rintro _ _ ⟨rfl, rfl⟩
              go_wp2_with fail
              refine hK.out _ _ ?_ (fun hHeld => ?_)
              · (try dsimp only); (exact hHeld)
              clear hK K
              try simp only [Act.put, List.setIfInBounds_toArray, List.set_cons_zero, List.set_cons_succ]
              refine wpAnyH_ready (rs := [11, 13]) (by kernel_rfl) (by simp) ?_
              refine (AllReadyH.cons (o := ⟨some 30, _, _, _, _, _⟩) rfl (fun K hK => ?_) (AllReadyH.cons (o := ⟨some 5, _, _, _, _, _⟩) rfl (fun K hK => ?_) AllReadyH.nil))
              · go_simp
                refine (C3.out _).mono ?_
                rintro _ _ ⟨rfl, rfl⟩
                go_wp2_with fail
                refine hK.out _ _ ?_ (fun hHeld => ?_)
                · (try dsimp only); (exact hHeld)
                clear hK K
                try simp only [Act.put, List.setIfInBounds_toArray, List.set_cons_zero, List.set_cons_succ]
                refine wpAnyH_take (i := 12) (oi := ⟨some 31, _, _, _, _, _⟩) (v := ?_) rfl (by kernel_rfl) (by kernel_rfl) (by kernel_rfl) (fun _ _ _ h => h) (Or.inl ⟨by rfl, ?_⟩) (by assumption) ?_
                rotate_left
                · intro w hSw; (try dsimp only at hSw); go_simp; (all_goals with_reducible rfl)
                simp only [Act.put, List.setIfInBounds_toArray, List.set_cons_zero, List.set_cons_succ]
                refine wpAnyH_ready (rs := [13]) (by kernel_rfl) (by simp) ?_
                refine (AllReadyH.cons (o := ⟨some 5, _, _, _, _, _⟩) rfl (fun K hK => ?_) AllReadyH.nil)
                go_simp
                go_wp2_with fail
                have kz : Kp WD (WD.alloc (.cells #[.int .i64 0, .int .i64 0, .int .i64 0] 26)) := (Kp.refl WD).alloc _
                have B4 : Bx3 (WD.alloc (.cells #[.int .i64 0, .int .i64 0, .int .i64 0] 26)) WD.heap.size 0 0 0 := Bx3.new WD 0 0 0 26
                have T4 := TD.keep kz
                have K4 := KD.trans kz
                have H4 : (WD.alloc (.cells #[.int .i64 0, .int .i64 0, .int .i64 0] 26)).cell? ⟨g, 1, none⟩ = some (.string qa) ∧ (WD.alloc (.cells #[.int .i64 0, .int .i64 0, .int .i64 0] 26)).cell? ⟨g, 2, none⟩ = some (.string qb) ∧ (WD.alloc (.cells #[.int .i64 0, .int .i64 0, .int .i64 0] 26)).cell? ⟨g, 3, none⟩ = some (.string qc) := ⟨kz.cell hHeld.1, kz.cell hHeld.2.1, kz.cell hHeld.2.2⟩
                generalize WD.alloc (.cells #[.int .i64 0, .int .i64 0, .int .i64 0] 26) = w4 at *
                refine hK.out _ _ ?_ (fun hHeld => ?_)
                · (try dsimp only); (exact H4)
                clear hK K
                try simp only [Act.put, List.setIfInBounds_toArray, List.set_cons_zero, List.set_cons_succ]
                obtain ⟨s0, s1, s2⟩ := hHeld
                have hHeld : w4.cell? ⟨g, 1, none⟩ = some (.string qa) ∧ w4.cell? ⟨g, 2, none⟩ = some (.string qb) ∧ w4.cell? ⟨g, 3, none⟩ = some (.string qc) := ⟨s0, s1, s2⟩
                obtain ⟨⟨b0, b1, b2⟩, h0, h1, h2⟩ := id B4
                refine wpAnyH_ready (rs := [14]) (by kernel_rfl) (by simp) ?_
                refine (AllReadyH.cons (o := ⟨none, _, _, _, _, _⟩) rfl (fun K hK => ?_) AllReadyH.nil)
                go_simp
                go_wp2_with fail
                refine hK.out _ _ ?_ (fun hHeld => ?_)
                · (try dsimp only); (exact ⟨by simp [go_sem, *], by simp [go_sem, *], by simp [go_sem, *]⟩)
                clear hK K
                try simp only [Act.put, List.setIfInBounds_toArray, List.set_cons_zero, List.set_cons_succ]
                refine wpAnyH_done (by kernel_rfl) ?_ _
                go_wp2_with fail
                go_meet
                exact ⟨_, rfl, fin4 B4 T4 gw0 (by omega) K4⟩
              · go_simp
                go_wp2_with fail
                have kz : Kp WD (WD.alloc (.cells #[.int .i64 0, .int .i64 0, .int .i64 0] 26)) := (Kp.refl WD).alloc _
                have B4 : Bx3 (WD.alloc (.cells #[.int .i64 0, .int .i64 0, .int .i64 0] 26)) WD.heap.size 0 0 0 := Bx3.new WD 0 0 0 26
                have T4 := TD.keep kz
                have K4 := KD.trans kz
                have H4 : (WD.alloc (.cells #[.int .i64 0, .int .i64 0, .int .i64 0] 26)).cell? ⟨g, 1, none⟩ = some (.string qa) ∧ (WD.alloc (.cells #[.int .i64 0, .int .i64 0, .int .i64 0] 26)).cell? ⟨g, 2, none⟩ = some (.string qb) ∧ (WD.alloc (.cells #[.int .i64 0, .int .i64 0, .int .i64 0] 26)).cell? ⟨g, 3, none⟩ = some (.string qc) := ⟨kz.cell hHeld.1, kz.cell hHeld.2.1, kz.cell hHeld.2.2⟩
                generalize WD.alloc (.cells #[.int .i64 0, .int .i64 0, .int .i64 0] 26) = w4 at *
                refine hK.out _ _ ?_ (fun hHeld => ?_)
                · (try dsimp only); (exact H4)
                clear hK K
                try simp only [Act.put, List.setIfInBounds_toArray, List.set_cons_zero, List.set_cons_succ]
                refine wpAnyH_ready (rs := [11]) (by kernel_rfl) (by simp) ?_
                refine (AllReadyH.cons (o := ⟨some 30, _, _, _, _, _⟩) rfl (fun K hK => ?_) AllReadyH.nil)
                go_simp
                refine (C3.out _).mono ?_
                rintro _ _ ⟨rfl, rfl⟩
                go_wp2_with fail
                refine hK.out _ _ ?_ (fun hHeld => ?_)
                · (try dsimp only); (exact hHeld)
                clear hK K
                try simp only [Act.put, List.setIfInBounds_toArray, List.set_cons_zero, List.set_cons_succ]
                refine wpAnyH_take (i := 12) (oi := ⟨some 31, _, _, _, _, _⟩) (v := ?_) rfl (by kernel_rfl) (by kernel_rfl) (by kernel_rfl) (fun _ _ _ h => h) (Or.inl ⟨by rfl, ?_⟩) (by assumption) ?_
                rotate_left
                · intro w hSw; (try dsimp only at hSw); go_simp; (all_goals with_reducible rfl)
                simp only [Act.put, List.setIfInBounds_toArray, List.set_cons_zero, List.set_cons_succ]
                obtain ⟨s0, s1, s2⟩ := hHeld
                have hHeld : w4.cell? ⟨g, 1, none⟩ = some (.string qa) ∧ w4.cell? ⟨g, 2, none⟩ = some (.string qb) ∧ w4.cell? ⟨g, 3, none⟩ = some (.string qc) := ⟨s0, s1, s2⟩
                obtain ⟨⟨b0, b1, b2⟩, h0, h1, h2⟩ := id B4
                refine wpAnyH_ready (rs := [14]) (by kernel_rfl) (by simp) ?_
                refine (AllReadyH.cons (o := ⟨none, _, _, _, _, _⟩) rfl (fun K hK => ?_) AllReadyH.nil)
                go_simp
                go_wp2_with fail
                refine hK.out _ _ ?_ (fun hHeld => ?_)
                · (try dsimp only); (exact ⟨by simp [go_sem, *], by simp [go_sem, *], by simp [go_sem, *]⟩)
                clear hK K
                try simp only [Act.put, List.setIfInBounds_toArray, List.set_cons_zero, List.set_cons_succ]
                refine wpAnyH_done (by kernel_rfl) ?_ _
                go_wp2_with fail
                go_meet
                exact ⟨_, rfl, fin4 B4 T4 gw0 (by omega) K4⟩
            · go_simp
              go_wp2_with fail
              have kz : Kp WD (WD.alloc (.cells #[.int .i64 0, .int .i64 0, .int .i64 0] 26)) := (Kp.refl WD).alloc _
              have B4 : Bx3 (WD.alloc (.cells #[.int .i64 0, .int .i64 0, .int .i64 0] 26)) WD.heap.size 0 0 0 := Bx3.new WD 0 0 0 26
              have T4 := TD.keep kz
              have K4 := KD.trans kz
              have H4 : (WD.alloc (.cells #[.int .i64 0, .int .i64 0, .int .i64 0] 26)).cell? ⟨g, 1, none⟩ = some (.string qa) ∧ (WD.alloc (.cells #[.int .i64 0, .int .i64 0, .int .i64 0] 26)).cell? ⟨g, 2, none⟩ = some (.string qb) ∧ (WD.alloc (.cells #[.int .i64 0, .int .i64 0, .int .i64 0] 26)).cell? ⟨g, 3, none⟩ = some (.string qc) := ⟨kz.cell hHeld.1, kz.cell hHeld.2.1, kz.cell hHeld.2.2⟩
              generalize WD.alloc (.cells #[.int .i64 0, .int .i64 0, .int .i64 0] 26) = w4 at *
              refine hK.out _ _ ?_ (fun hHeld => ?_)
              · (try dsimp only); (exact H4)
              clear hK K
              try simp only [Act.put, List.setIfInBounds_toArray, List.set_cons_zero, List.set_cons_succ]
              refine wpAnyH_ready (rs := [7]) (by kernel_rfl) (by simp) ?_
              refine (AllReadyH.cons (o := ⟨some 26, _, _, _, _, _⟩) rfl (fun K hK => ?_) AllReadyH.nil)
              go_simp
              refine (C2.out _).mono ?_
              rintro _ _ ⟨rfl, rfl⟩
              go_wp2_with fail
              refine hK.out _ _ ?_ (fun hHeld => ?_)
              · (try dsimp only); (exact hHeld)
              clear hK K
              try simp only [Act.put, List.setIfInBounds_toArray, List.set_cons_zero, List.set_cons_succ]
              refine wpAnyH_ready (rs := [11]) (by kernel_rfl) (by simp) ?_
              refine (AllReadyH.cons (o := ⟨some 30, _, _, _, _, _⟩) rfl (fun K hK => ?_) AllReadyH.nil)
              go_simp
              refine (C3.out _).mono ?_
              rintro _ _ ⟨rfl, rfl⟩
              go_wp2_with fail
              refine hK.out _ _ ?_ (fun hHeld => ?_)
              · (try dsimp only); (exact hHeld)
              clear hK K
              try simp only [Act.put, List.setIfInBounds_toArray, List.set_cons_zero, List.set_cons_succ]
              refine wpAnyH_take (i := 12) (oi := ⟨some 31, _, _, _, _, _⟩) (v := ?_) rfl (by kernel_rfl) (by kernel_rfl) (by kernel_rfl) (fun _ _ _ h => h) (Or.inl ⟨by rfl, ?_⟩) (by assumption) ?_
              rotate_left
              · intro w hSw; (try dsimp only at hSw); go_simp; (all_goals with_reducible rfl)
              simp only [Act.put, List.setIfInBounds_toArray, List.set_cons_zero, List.set_cons_succ]
              obtain ⟨s0, s1, s2⟩ := hHeld
              have hHeld : w4.cell? ⟨g, 1, none⟩ = some (.string qa) ∧ w4.cell? ⟨g, 2, none⟩ = some (.string qb) ∧ w4.cell? ⟨g, 3, none⟩ = some (.string qc) := ⟨s0, s1, s2⟩
              obtain ⟨⟨b0, b1, b2⟩, h0, h1, h2⟩ := id B4
              refine wpAnyH_ready (rs := [14]) (by kernel_rfl) (by simp) ?_
              refine (AllReadyH.cons (o := ⟨none, _, _, _, _, _⟩) rfl (fun K hK => ?_) AllReadyH.nil)
              go_simp
              go_wp2_with fail
              refine hK.out _ _ ?_ (fun hHeld => ?_)
              · (try dsimp only); (exact ⟨by simp [go_sem, *], by simp [go_sem, *], by simp [go_sem, *]⟩)
              clear hK K
              try simp only [Act.put, List.setIfInBounds_toArray, List.set_cons_zero, List.set_cons_succ]
              refine wpAnyH_done (by kernel_rfl) ?_ _
              go_wp2_with fail
              go_meet
              exact ⟨_, rfl, fin4 B4 T4 gw0 (by omega) K4⟩
          · go_simp
            go_wp2_with fail
            have kz : Kp WD (WD.alloc (.cells #[.int .i64 0, .int .i64 0, .int .i64 0] 26)) := (Kp.refl WD).alloc _
            have B4 : Bx3 (WD.alloc (.cells #[.int .i64 0, .int .i64 0, .int .i64 0] 26)) WD.heap.size 0 0 0 := Bx3.new WD 0 0 0 26
            have T4 := TD.keep kz
            have K4 := KD.trans kz
            have H4 : (WD.alloc (.cells #[.int .i64 0, .int .i64 0, .int .i64 0] 26)).cell? ⟨g, 1, none⟩ = some (.string qa) ∧ (WD.alloc (.cells #[.int .i64 0, .int .i64 0, .int .i64 0] 26)).cell? ⟨g, 2, none⟩ = some (.string qb) ∧ (WD.alloc (.cells #[.int .i64 0, .int .i64 0, .int .i64 0] 26)).cell? ⟨g, 3, none⟩ = some (.string qc) := ⟨kz.cell hHeld.1, kz.cell hHeld.2.1, kz.cell hHeld.2.2⟩
            generalize WD.alloc (.cells #[.int .i64 0, .int .i64 0, .int .i64 0] 26) = w4 at *
            refine hK.out _ _ ?_ (fun hHeld => ?_)
            · (try dsimp only); (exact H4)
            clear hK K
            try simp only [Act.put, List.setIfInBounds_toArray, List.set_cons_zero, List.set_cons_succ]
            refine wpAnyH_ready (rs := [3]) (by kernel_rfl) (by simp) ?_
            refine (AllReadyH.cons (o := ⟨some 22, _, _, _, _, _⟩) rfl (fun K hK => ?_) AllReadyH.nil)
            go_simp
            refine (C1.out _).mono ?_
            rintro _ _ ⟨rfl, rfl⟩
            go_wp2_with fail
            refine hK.out _ _ ?_ (fun hHeld => ?_)
            · (try dsimp only); (exact hHeld)
            clear hK K
            try simp only [Act.put, List.setIfInBounds_toArray, List.set_cons_zero, List.set_cons_succ]
            refine wpAnyH_ready (rs := [7]) (by kernel_rfl) (by simp) ?_
            refine (AllReadyH.cons (o := ⟨some 26, _, _, _, _, _⟩) rfl (fun K hK => ?_) AllReadyH.nil)
            go_simp
            refine (C2.out _).mono ?_
            rintro _ _ ⟨rfl, rfl⟩
            go_wp2_with fail
            refine hK.out _ _ ?_ (fun hHeld => ?_)
            · (try dsimp only); (exact hHeld)
            clear hK K
            try simp only [Act.put, List.setIfInBounds_toArray, List.set_cons_zero, List.set_cons_succ]
            refine wpAnyH_ready (rs := [11]) (by kernel_rfl) (by simp) ?_
            refine (AllReadyH.cons (o := ⟨some 30, _, _, _, _, _⟩) rfl (fun K hK => ?_) AllReadyH.nil)
            go_simp
            refine (C3.out _).mono ?_
            rintro _ _ ⟨rfl, rfl⟩
            go_wp2_with fail
            refine hK.out _ _ ?_ (fun hHeld => ?_)
            · (try dsimp only); (exact hHeld)
            clear hK K
            try simp only [Act.put, List.setIfInBounds_toArray, List.set_cons_zero, List.set_cons_succ]
            refine wpAnyH_take (i := 12) (oi := ⟨some 31, _, _, _, _, _⟩) (v := ?_) rfl (by kernel_rfl) (by kernel_rfl) (by kernel_rfl) (fun _ _ _ h => h) (Or.inl ⟨by rfl, ?_⟩) (by assumption) ?_
            rotate_left
            · intro w hSw; (try dsimp only at hSw); go_simp; (all_goals with_reducible rfl)
            simp only [Act.put, List.setIfInBounds_toArray, List.set_cons_zero, List.set_cons_succ]
            obtain ⟨s0, s1, s2⟩ := hHeld
            have hHeld : w4.cell? ⟨g, 1, none⟩ = some (.string qa) ∧ w4.cell? ⟨g, 2, none⟩ = some (.string qb) ∧ w4.cell? ⟨g, 3, none⟩ = some (.string qc) := ⟨s0, s1, s2⟩
            obtain ⟨⟨b0, b1, b2⟩, h0, h1, h2⟩ := id B4
            refine wpAnyH_ready (rs := [14]) (by kernel_rfl) (by simp) ?_
            refine (AllReadyH.cons (o := ⟨none, _, _, _, _, _⟩) rfl (fun K hK => ?_) AllReadyH.nil)
            go_simp
            go_wp2_with fail
            refine hK.out _ _ ?_ (fun hHeld => ?_)
            · (try dsimp only); (exact ⟨by simp [go_sem, *], by simp [go_sem, *], by simp [go_sem, *]⟩)
            clear hK K
            try simp only [Act.put, List.setIfInBounds_toArray, List.set_cons_zero, List.set_cons_succ]
            refine wpAnyH_done (by kernel_rfl) ?_ _
            go_wp2_with fail
            go_meet
            exact ⟨_, rfl, fin4 B4 T4 gw0 (by omega) K4⟩
        case rest =>
          rename_i s5 w5 hcut
          obtain ⟨G, rfl, B5, T5, K5⟩ := hcut
          clear T1 K1 a0 a1 a2
          obtain ⟨r0, r1, r2⟩ := B5.1
          go_wp2_with fail
          refine (CG.out _).mono ?_
          rintro e6 w6 ⟨rfl, k6⟩
          have T6 := T5.keep k6
          have K6 := K5.trans k6
          obtain ⟨⟨c0, c1, c2⟩, f0, f1, f2⟩ := T6
          go_wp2_with fail
          exact bodyPost_ret (v := .tuple #[slx 0 0 0, .bool false]) (by simp [results, Tryd.results8, go_sem, *]) rfl ⟨rfl, ((K6.setCell (by simp) _).setCell (by simp) _).setCell (by simp) _⟩
      · by_cases hX : txt (sealTx ⟨ra, rb, rc⟩) = s
        · have hq : psC s (ra, rb, rc) = some (ra, rb, rc) := by rw [psC, if_pos ⟨hB, hX⟩]
          rw [hq]
          have CG := Lib.hid (fun w => eGood_any ra rb rc w)
          have CT := Lib.hid (fun w => eText_any ra rb rc w hB)
          rw [hB] at CG
          rw [hX] at CT
          have hX2 : (s.toList != s.toList) = false := by simp
          clear hB hq hX
          go_enter Tryd.func8, Tryd.ntmps8
          go_wp2_with fail
          refine CL.out.mono ?_
          rintro e1 w1 ⟨v1, rfl, o1, k1⟩
          obtain ⟨g, cap, rfl, hg, a0, a1, a2⟩ := OwnS.at4 o1
          have T1 := T0.keep k1
          have K1 := K0.trans k1
          have zg : w.heap.size < w1.heap.size := by have := k1.size; simp at this; omega
          have gz : ¬ g = w.heap.size := by simp at hg; omega
          have gz2 : ¬ w.heap.size = g := by simp at hg; omega
          have gl := cell_lt a0
          clear o1 T0 k1 K0 CL
          go_upto_region 4 with fail
          go_cut [5] from 19 to 32 (fun s5 wx => ∃ G : Nat, s5 = .pointer (some ⟨G, 0, none⟩) ∧ PsR w ra rb rc G wx)
          case first =>
            refine wp_region_held_drew (S := (fun w' => w'.cell? ⟨g, 1, none⟩ = some (.string qa) ∧ w'.cell? ⟨g, 2, none⟩ = some (.string qb) ∧ w'.cell? ⟨g, 3, none⟩ = some (.string qc))) (by kernel_rfl) ?_ (fun hHeld => ?_)
            · exact ⟨a0, a1, a2⟩
            have TD := T1.drew
            have KD := K1.drew
            have SD : w1.drew.cell? ⟨g, 1, none⟩ = some (.string qa) ∧ w1.drew.cell? ⟨g, 2, none⟩ = some (.string qb) ∧ w1.drew.cell? ⟨g, 3, none⟩ = some (.string qc) := hHeld
            have zD : w.heap.size < w1.drew.heap.size := zg
            have glD : g < w1.drew.heap.size := gl
            clear hHeld
            generalize w1.drew = WD at *
            have hHeld := SD
            refine wpAnyH_take (i := 0) (oi := ⟨some 19, _, _, _, _, _⟩) (v := ?_) rfl (by kernel_rfl) (by kernel_rfl) (by kernel_rfl) (fun _ _ _ h => h) (Or.inl ⟨by rfl, ?_⟩) (by assumption) ?_
            rotate_left
            · intro w hSw; (try dsimp only at hSw); go_simp; (all_goals with_reducible rfl)
            simp only [Act.put, List.setIfInBounds_toArray, List.set_cons_zero, List.set_cons_succ]
            refine wpAnyH_take (i := 1) (oi := ⟨some 20, _, _, _, _, _⟩) (v := ?_) rfl (by kernel_rfl) (by kernel_rfl) (by kernel_rfl) (fun _ _ _ h => h) (Or.inl ⟨by rfl, ?_⟩) (by assumption) ?_
            rotate_left
            · intro w hSw; (try dsimp only at hSw); go_simp; (all_goals with_reducible rfl)
            simp only [Act.put, List.setIfInBounds_toArray, List.set_cons_zero, List.set_cons_succ]
            refine wpAnyH_take (i := 2) (oi := ⟨some 21, _, _, _, _, _⟩) (v := ?_) rfl (by kernel_rfl) (by kernel_rfl) (by kernel_rfl) (fun _ _ _ h => h) (Or.inl ⟨by rfl, ?_⟩) (by assumption) ?_
            rotate_left
            · intro w hSw; (try dsimp only at hSw); go_simp; (all_goals with_reducible rfl)
            simp only [Act.put, List.setIfInBounds_toArray, List.set_cons_zero, List.set_cons_succ]
            refine wpAnyH_take (i := 4) (oi := ⟨some 23, _, _, _, _, _⟩) (v := ?_) rfl (by kernel_rfl) (by kernel_rfl) (by kernel_rfl) (fun _ _ _ h => h) (Or.inl ⟨by rfl, ?_⟩) (by assumption) ?_
            rotate_left
            · intro w hSw; (try dsimp only at hSw); go_simp; (all_goals with_reducible rfl)
            simp only [Act.put, List.setIfInBounds_toArray, List.set_cons_zero, List.set_cons_succ]
            refine wpAnyH_take (i := 5) (oi := ⟨some 24, _, _, _, _, _⟩) (v := ?_) rfl (by kernel_rfl) (by kernel_rfl) (by kernel_rfl) (fun _ _ _ h => h) (Or.inl ⟨by rfl, ?_⟩) (by assumption) ?_
            rotate_left
            · intro w hSw; (try dsimp only at hSw); go_simp; (all_goals with_reducible rfl)
            simp only [Act.put, List.setIfInBounds_toArray, List.set_cons_zero, List.set_cons_succ]
            refine wpAnyH_take (i := 6) (oi := ⟨some 25, _, _, _, _, _⟩) (v := ?_) rfl (by kernel_rfl) (by kernel_rfl) (by kernel_rfl) (fun _ _ _ h => h) (Or.inl ⟨by rfl, ?_⟩) (by assumption) ?_
            rotate_left
            · intro w hSw; (try dsimp only at hSw); go_simp; (all_goals with_reducible rfl)
            simp only [Act.put, List.setIfInBounds_toArray, List.set_cons_zero, List.set_cons_succ]
            refine wpAnyH_take (i := 8) (oi := ⟨some 27, _, _, _, _, _⟩) (v := ?_) rfl (by kernel_rfl) (by kernel_rfl) (by kernel_rfl) (fun _ _ _ h => h) (Or.inl ⟨by rfl, ?_⟩) (by assumption) ?_
            rotate_left
            · intro w hSw; (try dsimp only at hSw); go_simp; (all_goals with_reducible rfl)
            simp only [Act.put, List.setIfInBounds_toArray, List.set_cons_zero, List.set_cons_succ]
            refine wpAnyH_take (i := 9) (oi := ⟨some 28, _, _, _, _, _⟩) (v := ?_) rfl (by kernel_rfl) (by kernel_rfl) (by kernel_rfl) (fun _ _ _ h => h) (Or.inl ⟨by rfl, ?_⟩) (by assumption) ?_
            rotate_left
            · intro w hSw; (try dsimp only at hSw); go_simp; (all_goals with_reducible rfl)
            simp only [Act.put, List.setIfInBounds_toArray, List.set_cons_zero, List.set_cons_succ]
            refine wpAnyH_take (i := 10) (oi := ⟨some 29, _, _, _, _, _⟩) (v := ?_) rfl (by kernel_rfl) (by kernel_rfl) (by kernel_rfl) (fun _ _ _ h => h) (Or.inl ⟨by rfl, ?_⟩) (by assumption) ?_
            rotate_left
            · intro w hSw; (try dsimp only at hSw); go_simp; (all_goals with_reducible rfl)
            simp only [Act.put, List.setIfInBounds_toArray, List.set_cons_zero, List.set_cons_succ]
            have gw0 : w.heap.size ≠ WD.heap.size := by omega
            have ge1 : ¬ WD.heap.size = g := by omega
            have ge2 : ¬ g = WD.heap.size := by omega
            refine wpAnyH_ready (rs := [3, 13]) (by kernel_rfl) (by simp) ?_
            refine (AllReadyH.cons (o := ⟨some 22, _, _, _, _, _⟩) rfl (fun K hK => ?_) (AllReadyH.cons (o := ⟨some 5, _, _, _, _, _⟩) rfl (fun K hK => ?_) AllReadyH.nil))
            · go_simp
              refine (C1.out _).mono ?_
              rintro _ _ ⟨rfl, rfl⟩
              go_wp2_with fail
              refine hK.out _ _ ?_ (fun hHeld => ?_)
              · (try dsimp only); (exact hHeld)
              clear hK K
              try simp only [Act.put, List.setIfInBounds_toArray, List.set_cons_zero, List.set_cons_succ]
              refine wpAnyH_ready (rs := [7, 13]) (by kernel_rfl) (by simp) ?_
              refine (AllReadyH.cons (o := ⟨some 26, _, _, _, _, _⟩) rfl (fun K hK => ?_) (AllReadyH.cons (o := ⟨some 5, _, _, _, _, _⟩) rfl (fun K hK => ?_) AllReadyH.nil))
              · go_simp
                refine (C2.out _).mono ?_
                rintro _ _ ⟨rfl, rfl⟩
                go_wp2_with fail
                refine hK.out _ _ ?_ (fun hHeld => ?_)
                · (try dsimp only); (exact hHeld)
                clear hK K
                try simp only [Act.put, List.setIfInBounds_toArray, List.set_cons_zero, List.set_cons_succ]
                refine wpAnyH_ready (rs := [11, 13]) (by kernel_rfl) (by simp) ?_
                refine (AllReadyH.cons (o := ⟨some 30, _, _, _, _, _⟩) rfl (fun K hK => ?_) (AllReadyH.cons (o := ⟨some 5, _, _, _, _, _⟩) rfl (fun K hK => ?_) AllReadyH.nil))
                · go_simp
                  refine (C3.out _).mono ?_
                  rintro _ _ ⟨rfl, rfl⟩
                  go_wp2_with fail
                  refine hK.out _ _ ?_ (fun hHeld => ?_)
                  · (try dsimp only); (exact hHeld)
                  clear hK K
                  try simp only [Act.put, List.setIfInBounds_toArray, List.set_cons_zero, List.set_cons_succ]
                  refine wpAnyH_take (i := 12) (oi := ⟨some 31, _, _, _, _, _⟩) (v := ?_) rfl (by kernel_rfl) (by kernel_rfl) (by kernel_rfl) (fun _ _ _ h => h) (Or.inl ⟨by rfl, ?_⟩) (by assumption) ?_
                  rotate_left
                  · intro w hSw; (try dsimp only at hSw); go_simp; (all_goals with_reducible rfl)
                  simp only [Act.put, List.setIfInBounds_toArray, List.set_cons_zero, List.set_cons_succ]
                  refine wpAnyH_ready (rs := [13]) (by kernel_rfl) (by simp) ?_
                  refine (AllReadyH.cons (o := ⟨some 5, _, _, _, _, _⟩) rfl (fun K hK => ?_) AllReadyH.nil)
                  go_simp
                  go_wp2_with fail
                  have kz : Kp WD (WD.alloc (.cells #[.int .i64 0, .int .i64 0, .int .i64 0] 26)) := (Kp.refl WD).alloc _
                  have B4 : Bx3 (WD.alloc (.cells #[.int .i64 0, .int .i64 0, .int .i64 0] 26)) WD.heap.size 0 0 0 := Bx3.new WD 0 0 0 26
                  have T4 := TD.keep kz
                  have K4 := KD.trans kz
                  have H4 : (WD.alloc (.cells #[.int .i64 0, .int .i64 0, .int .i64 0] 26)).cell? ⟨g, 1, none⟩ = some (.string qa) ∧ (WD.alloc (.cells #[.int .i64 0, .int .i64 0, .int .i64 0] 26)).cell? ⟨g, 2, none⟩ = some (.string qb) ∧ (WD.alloc (.cells #[.int .i64 0, .int .i64 0, .int .i64 0] 26)).cell? ⟨g, 3, none⟩ = some (.string qc) := ⟨kz.cell hHeld.1, kz.cell hHeld.2.1, kz.cell hHeld.2.2⟩
                  generalize WD.alloc (.cells #[.int .i64 0, .int .i64 0, .int .i64 0] 26) = w4 at *
                  refine hK.out _ _ ?_ (fun hHeld => ?_)
                  · (try dsimp only); (exact H4)
                  clear hK K
                  try simp only [Act.put, List.setIfInBounds_toArray, List.set_cons_zero, List.set_cons_succ]
                  obtain ⟨s0, s1, s2⟩ := hHeld
                  have hHeld : w4.cell? ⟨g, 1, none⟩ = some (.string qa) ∧ w4.cell? ⟨g, 2, none⟩ = some (.string qb) ∧ w4.cell? ⟨g, 3, none⟩ = some (.string qc) := ⟨s0, s1, s2⟩
                  obtain ⟨⟨b0, b1, b2⟩, h0, h1, h2⟩ := id B4
                  refine wpAnyH_ready (rs := [14]) (by kernel_rfl) (by simp) ?_
                  refine (AllReadyH.cons (o := ⟨none, _, _, _, _, _⟩) rfl (fun K hK => ?_) AllReadyH.nil)
                  go_simp
                  go_wp2_with fail
                  refine hK.out _ _ ?_ (fun hHeld => ?_)
                  · (try dsimp only); (exact ⟨by simp [go_sem, *], by simp [go_sem, *], by simp [go_sem, *]⟩)
                  clear hK K
                  try simp only [Act.put, List.setIfInBounds_toArray, List.set_cons_zero, List.set_cons_succ]
                  refine wpAnyH_done (by kernel_rfl) ?_ _
                  go_wp2_with fail
                  go_meet
                  exact ⟨_, rfl, fin4 B4 T4 gw0 (by omega) K4⟩
                · go_simp
                  go_wp2_with fail
                  have kz : Kp WD (WD.alloc (.cells #[.int .i64 0, .int .i64 0, .int .i64 0] 26)) := (Kp.refl WD).alloc _
                  have B4 : Bx3 (WD.alloc (.cells #[.int .i64 0, .int .i64 0, .int .i64 0] 26)) WD.heap.size 0 0 0 := Bx3.new WD 0 0 0 26
                  have T4 := TD.keep kz
                  have K4 := KD.trans kz
                  have H4 : (WD.alloc (.cells #[.int .i64 0, .int .i64 0, .int .i64 0] 26)).cell? ⟨g, 1, none⟩ = some (.string qa) ∧ (WD.alloc (.cells #[.int .i64 0, .int .i64 0, .int .i64 0] 26)).cell? ⟨g, 2, none⟩ = some (.string qb) ∧ (WD.alloc (.cells #[.int .i64 0, .int .i64 0, .int .i64 0] 26)).cell? ⟨g, 3, none⟩ = some (.string qc) := ⟨kz.cell hHeld.1, kz.cell hHeld.2.1, kz.cell hHeld.2.2⟩
                  generalize WD.alloc (.cells #[.int .i64 0, .int .i64 0, .int .i64 0] 26) = w4 at *
                  refine hK.out _ _ ?_ (fun hHeld => ?_)
                  · (try dsimp only); (exact H4)
                  clear hK K
                  try simp only [Act.put, List.setIfInBounds_toArray, List.set_cons_zero, List.set_cons_succ]
                  refine wpAnyH_ready (rs := [11]) (by kernel_rfl) (by simp) ?_
                  refine (AllReadyH.cons (o := ⟨some 30, _, _, _, _, _⟩) rfl (fun K hK => ?_) AllReadyH.nil)
                  go_simp
                  refine (C3.out _).mono ?_
                  rintro _ _ ⟨rfl, rfl⟩
                  go_wp2_with fail
                  refine hK.out _ _ ?_ (fun hHeld => ?_)
                  · (try dsimp only); (exact hHeld)
                  clear hK K
                  try simp only [Act.put, List.setIfInBounds_toArray, List.set_cons_zero, List.set_cons_succ]
                  refine wpAnyH_take (i := 12) (oi := ⟨some 31, _, _, _, _, _⟩) (v := ?_) rfl (by kernel_rfl) (by kernel_rfl) (by kernel_rfl) (fun _ _ _ h => h) (Or.inl ⟨by rfl, ?_⟩) (by assumption) ?_
                  rotate_left
                  · intro w hSw; (try dsimp only at hSw); go_simp; (all_goals with_reducible rfl)
                  simp only [Act.put, List.setIfInBounds_toArray, List.set_cons_zero, List.set_cons_succ]
                  obtain ⟨s0, s1, s2⟩ := hHeld
                  have hHeld : w4.cell? ⟨g, 1, none⟩ = some (.string qa) ∧ w4.cell? ⟨g, 2, none⟩ = some (.string qb) ∧ w4.cell? ⟨g, 3, none⟩ = some (.string qc) := ⟨s0, s1, s2⟩
                  obtain ⟨⟨b0, b1, b2⟩, h0, h1, h2⟩ := id B4
                  refine wpAnyH_ready (rs := [14]) (by kernel_rfl) (by simp) ?_
                  refine (AllReadyH.cons (o := ⟨none, _, _, _, _, _⟩) rfl (fun K hK => ?_) AllReadyH.nil)
                  go_simp
                  go_wp2_with fail
                  refine hK.out _ _ ?_ (fun hHeld => ?_)
                  · (try dsimp only); (exact ⟨by simp [go_sem, *], by simp [go_sem, *], by simp [go_sem, *]⟩)
                  clear hK K
                  try simp only [Act.put, List.setIfInBounds_toArray, List.set_cons_zero, List.set_cons_succ]
                  refine wpAnyH_done (by kernel_rfl) ?_ _
                  go_wp2_with fail
                  go_meet
                  exact ⟨_, rfl, fin4 B4 T4 gw0 (by omega) K4⟩
              · go_simp
                go_wp2_with fail
                have kz : Kp WD (WD.alloc (.cells #[.int .i64 0, .int .i64 0, .int .i64 0] 26)) := (Kp.refl WD).alloc _
                have B4 : Bx3 (WD.alloc (.cells #[.int .i64 0, .int .i64 0, .int .i64 0] 26)) WD.heap.size 0 0 0 := Bx3.new WD 0 0 0 26
                have T4 := TD.keep kz
                have K4 := KD.trans kz
                have H4 : (WD.alloc (.cells #[.int .i64 0, .int .i64 0, .int .i64 0] 26)).cell? ⟨g, 1, none⟩ = some (.string qa) ∧ (WD.alloc (.cells #[.int .i64 0, .int .i64 0, .int .i64 0] 26)).cell? ⟨g, 2, none⟩ = some (.string qb) ∧ (WD.alloc (.cells #[.int .i64 0, .int .i64 0, .int .i64 0] 26)).cell? ⟨g, 3, none⟩ = some (.string qc) := ⟨kz.cell hHeld.1, kz.cell hHeld.2.1, kz.cell hHeld.2.2⟩
                generalize WD.alloc (.cells #[.int .i64 0, .int .i64 0, .int .i64 0] 26) = w4 at *
                refine hK.out _ _ ?_ (fun hHeld => ?_)
                · (try dsimp only); (exact H4)
                clear hK K
                try simp only [Act.put, List.setIfInBounds_toArray, List.set_cons_zero, List.set_cons_succ]
                refine wpAnyH_ready (rs := [7]) (by kernel_rfl) (by simp) ?_
                refine (AllReadyH.cons (o := ⟨some 26, _, _, _, _, _⟩) rfl (fun K hK => ?_) AllReadyH.nil)
                go_simp
                refine (C2.out _).mono ?_
                rintro _ _ ⟨rfl, rfl⟩
                go_wp2_with fail
                refine hK.out _ _ ?_ (fun hHeld => ?_)
                · (try dsimp only); (exact hHeld)
                clear hK K
                try simp only [Act.put, List.setIfInBounds_toArray, List.set_cons_zero, List.set_cons_succ]
                refine wpAnyH_ready (rs := [11]) (by kernel_rfl) (by simp) ?_
                refine (AllReadyH.cons (o := ⟨some 30, _, _, _, _, _⟩) rfl (fun K hK => ?_) AllReadyH.nil)
                go_simp
                refine (C3.out _).mono ?_
                rintro _ _ ⟨rfl, rfl⟩
                go_wp2_with fail
                refine hK.out _ _ ?_ (fun hHeld => ?_)
                · (try dsimp only); (exact hHeld)
                clear hK K
                try simp only [Act.put, List.setIfInBounds_toArray, List.set_cons_zero, List.set_cons_succ]
                refine wpAnyH_take (i := 12) (oi := ⟨some 31, _, _, _, _, _⟩) (v := ?_) rfl (by kernel_rfl) (by kernel_rfl) (by kernel_rfl) (fun _ _ _ h => h) (Or.inl ⟨by rfl, ?_⟩) (by assumption) ?_
                rotate_left
                · intro w hSw; (try dsimp only at hSw); go_simp; (all_goals with_reducible rfl)
                simp only [Act.put, List.setIfInBounds_toArray, List.set_cons_zero, List.set_cons_succ]
                obtain ⟨s0, s1, s2⟩ := hHeld
                have hHeld : w4.cell? ⟨g, 1, none⟩ = some (.string qa) ∧ w4.cell? ⟨g, 2, none⟩ = some (.string qb) ∧ w4.cell? ⟨g, 3, none⟩ = some (.string qc) := ⟨s0, s1, s2⟩
                obtain ⟨⟨b0, b1, b2⟩, h0, h1, h2⟩ := id B4
                refine wpAnyH_ready (rs := [14]) (by kernel_rfl) (by simp) ?_
                refine (AllReadyH.cons (o := ⟨none, _, _, _, _, _⟩) rfl (fun K hK => ?_) AllReadyH.nil)
                go_simp
                go_wp2_with fail
                refine hK.out _ _ ?_ (fun hHeld => ?_)
                · (try dsimp only); (exact ⟨by simp [go_sem, *], by simp [go_sem, *], by simp [go_sem, *]⟩)
                clear hK K
                try simp only [Act.put, List.setIfInBounds_toArray, List.set_cons_zero, List.set_cons_succ]
                refine wpAnyH_done (by kernel_rfl) ?_ _
                go_wp2_with fail
                go_meet
                exact ⟨_, rfl, fin4 B4 T4 gw0 (by omega) K4⟩
            · go_simp
              go_wp2_with fail
              have kz : Kp WD (WD.alloc (.cells #[.int .i64 0, .int .i64 0, .int .i64 0] 26)) := (Kp.refl WD).alloc _
              have B4 : Bx3 (WD.alloc (.cells #[.int .i64 0, .int .i64 0, .int .i64 0] 26)) WD.heap.size 0 0 0 := Bx3.new WD 0 0 0 26
              have T4 := TD.keep kz
              have K4 := KD.trans kz
              have H4 : (WD.alloc (.cells #[.int .i64 0, .int .i64 0, .int .i64 0] 26)).cell? ⟨g, 1, none⟩ = some (.string qa) ∧ (WD.alloc (.cells #[.int .i64 0, .int .i64 0, .int .i64 0] 26)).cell? ⟨g, 2, none⟩ = some (.string qb) ∧ (WD.alloc (.cells #[.int .i64 0, .int .i64 0, .int .i64 0] 26)).cell? ⟨g, 3, none⟩ = some (.string qc) := ⟨kz.cell hHeld.1, kz.cell hHeld.2.1, kz.cell hHeld.2.2⟩
              generalize WD.alloc (.cells #[.int .i64 0, .int .i64 0, .int .i64 0] 26) = w4 at *
              refine hK.out _ _ ?_ (fun hHeld => ?_)
              · (try dsimp only); (exact H4)
              clear hK K
              try simp only [Act.put, List.setIfInBounds_toArray, List.set_cons_zero, List.set_cons_succ]
              refine wpAnyH_ready (rs := [3]) (by kernel_rfl) (by simp) ?_
              refine (AllReadyH.cons (o := ⟨some 22, _, _, _, _, _⟩) rfl (fun K hK => ?_) AllReadyH.nil)
              go_simp
              refine (C1.out _).mono ?_
              rintro _ _ ⟨rfl, rfl⟩
              go_wp2_with fail
              refine hK.out _ _ ?_ (fun hHeld => ?_)
              · (try dsimp only); (exact hHeld)
              clear hK K
              try simp only [Act.put, List.setIfInBounds_toArray, List.set_cons_zero, List.set_cons_succ]
              refine wpAnyH_ready (rs := [7]) (by kernel_rfl) (by simp) ?_
              refine (AllReadyH.cons (o := ⟨some 26, _, _, _, _, _⟩) rfl (fun K hK => ?_) AllReadyH.nil)
              go_simp
              refine (C2.out _).mono ?_
              rintro _ _ ⟨rfl, rfl⟩
              go_wp2_with fail
              refine hK.out _ _ ?_ (fun hHeld => ?_)
              · (try dsimp only); (exact hHeld)
              clear hK K
              try simp only [Act.put, List.setIfInBounds_toArray, List.set_cons_zero, List.set_cons_succ]
              refine wpAnyH_ready (rs := [11]) (by kernel_rfl) (by simp) ?_
              refine (AllReadyH.cons (o := ⟨some 30, _, _, _, _, _⟩) rfl (fun K hK => ?_) AllReadyH.nil)
              go_simp
              refine (C3.out _).mono ?_
              rintro _ _ ⟨rfl, rfl⟩
              go_wp2_with fail
              refine hK.out _ _ ?_ (fun hHeld => ?_)
              · (try dsimp only); (exact hHeld)
              clear hK K
              try simp only [Act.put, List.setIfInBounds_toArray, List.set_cons_zero, List.set_cons_succ]
              refine wpAnyH_take (i := 12) (oi := ⟨some 31, _, _, _, _, _⟩) (v := ?_) rfl (by kernel_rfl) (by kernel_rfl) (by kernel_rfl) (fun _ _ _ h => h) (Or.inl ⟨by rfl, ?_⟩) (by assumption) ?_
              rotate_left
              · intro w hSw; (try dsimp only at hSw); go_simp; (all_goals with_reducible rfl)
              simp only [Act.put, List.setIfInBounds_toArray, List.set_cons_zero, List.set_cons_succ]
              obtain ⟨s0, s1, s2⟩ := hHeld
              have hHeld : w4.cell? ⟨g, 1, none⟩ = some (.string qa) ∧ w4.cell? ⟨g, 2, none⟩ = some (.string qb) ∧ w4.cell? ⟨g, 3, none⟩ = some (.string qc) := ⟨s0, s1, s2⟩
              obtain ⟨⟨b0, b1, b2⟩, h0, h1, h2⟩ := id B4
              refine wpAnyH_ready (rs := [14]) (by kernel_rfl) (by simp) ?_
              refine (AllReadyH.cons (o := ⟨none, _, _, _, _, _⟩) rfl (fun K hK => ?_) AllReadyH.nil)
              go_simp
              go_wp2_with fail
              refine hK.out _ _ ?_ (fun hHeld => ?_)
              · (try dsimp only); (exact ⟨by simp [go_sem, *], by simp [go_sem, *], by simp [go_sem, *]⟩)
              clear hK K
              try simp only [Act.put, List.setIfInBounds_toArray, List.set_cons_zero, List.set_cons_succ]
              refine wpAnyH_done (by kernel_rfl) ?_ _
              go_wp2_with fail
              go_meet
              exact ⟨_, rfl, fin4 B4 T4 gw0 (by omega) K4⟩
          case rest =>
            rename_i s5 w5 hcut
            obtain ⟨G, rfl, B5, T5, K5⟩ := hcut
            clear T1 K1 a0 a1 a2
            obtain ⟨r0, r1, r2⟩ := B5.1
            go_wp2_with fail
            refine (CG.out _).mono ?_
            rintro e6 w6 ⟨rfl, k6⟩
            obtain ⟨u0, u1, u2⟩ := (B5.keep k6).1
            go_wp2_with fail
            refine (CT.out _).mono ?_
            rintro e7 w7 ⟨rfl, k7⟩
            have T6 := (T5.keep k6).keep k7
            have B6 := (B5.keep k6).keep k7
            have K6 := (K5.trans k6).trans k7
            obtain ⟨⟨c0, c1, c2⟩, f0, f1, f2⟩ := T6
            obtain ⟨⟨y0, y1, y2⟩, -⟩ := B6
            go_wp2_with fail
            exact bodyPost_ret (v := .tuple #[slx ra rb rc, .bool true]) (by simp [results, Tryd.results8, go_sem, *]) rfl ⟨rfl, ((K6.setCell (by simp) _).setCell (by simp) _).setCell (by simp) _⟩
        · have hq : psC s (ra, rb, rc) = none := by rw [psC, if_neg (fun h => hX h.2)]
          rw [hq]
          have CG := Lib.hid (fun w => eGood_any ra rb rc w)
          have CT := Lib.hid (fun w => eText_any ra rb rc w hB)
          rw [hB] at CG
          have hX2 := txt_ne hX
          have hX3 : (txt (sealTx ⟨ra, rb, rc⟩)).toList ≠ s.toList := by simpa using hX2
          have hX4 : ((txt (sealTx ⟨ra, rb, rc⟩)).toList == s.toList) = false := by simpa using hX3
          generalize txt (sealTx ⟨ra, rb, rc⟩) = X at *
          clear hB hq hX
          go_enter Tryd.func8, Tryd.ntmps8
          go_wp2_with fail
          refine CL.out.mono ?_
          rintro e1 w1 ⟨v1, rfl, o1, k1⟩
          obtain ⟨g, cap, rfl, hg, a0, a1, a2⟩ := OwnS.at4 o1
          have T1 := T0.keep k1
          have K1 := K0.trans k1
          have zg : w.heap.size < w1.heap.size := by have := k1.size; simp at this; omega
          have gz : ¬ g = w.heap.size := by simp at hg; omega
          have gz2 : ¬ w.heap.size = g := by simp at hg; omega
          have gl := cell_lt a0
          clear o1 T0 k1 K0 CL
          go_upto_region 4 with fail
          go_cut [5] from 19 to 32 (fun s5 wx => ∃ G : Nat, s5 = .pointer (some ⟨G, 0, none⟩) ∧ PsR w ra rb rc G wx)
          case first =>
            refine wp_region_held_drew (S := (fun w' => w'.cell? ⟨g, 1, none⟩ = some (.string qa) ∧ w'.cell? ⟨g, 2, none⟩ = some (.string qb) ∧ w'.cell? ⟨g, 3, none⟩ = some (.string qc))) (by kernel_rfl) ?_ (fun hHeld => ?_)
            · exact ⟨a0, a1, a2⟩
            have TD := T1.drew
            have KD := K1.drew
            have SD : w1.drew.cell? ⟨g, 1, none⟩ = some (.string qa) ∧ w1.drew.cell? ⟨g, 2, none⟩ = some (.string qb) ∧ w1.drew.cell? ⟨g, 3, none⟩ = some (.string qc) := hHeld
            have zD : w.heap.size < w1.drew.heap.size := zg
            have glD : g < w1.drew.heap.size := gl
            clear hHeld
            generalize w1.drew = WD at *
            have hHeld := SD
            refine wpAnyH_take (i := 0) (oi := ⟨some 19, _, _, _, _, _⟩) (v := ?_) rfl (by kernel_rfl) (by kernel_rfl) (by kernel_rfl) (fun _ _ _ h => h) (Or.inl ⟨by rfl, ?_⟩) (by assumption) ?_
            rotate_left
            · intro w hSw; (try dsimp only at hSw); go_simp; (all_goals with_reducible rfl)
            simp only [Act.put, List.setIfInBounds_toArray, List.set_cons_zero, List.set_cons_succ]
            refine wpAnyH_take (i := 1) (oi := ⟨some 20, _, _, _, _, _⟩) (v := ?_) rfl (by kernel_rfl) (by kernel_rfl) (by kernel_rfl) (fun _ _ _ h => h) (Or.inl ⟨by rfl, ?_⟩) (by assumption) ?_
            rotate_left
            · intro w hSw; (try dsimp only at hSw); go_simp; (all_goals with_reducible rfl)
            simp only [Act.put, List.setIfInBounds_toArray, List.set_cons_zero, List.set_cons_succ]
            refine wpAnyH_take (i := 2) (oi := ⟨some 21, _, _, _, _, _⟩) (v := ?_) rfl (by kernel_rfl) (by kernel_rfl) (by kernel_rfl) (fun _ _ _ h => h) (Or.inl ⟨by rfl, ?_⟩) (by assumption) ?_
            rotate_left
            · intro w hSw; (try dsimp only at hSw); go_simp; (all_goals with_reducible rfl)
            simp only [Act.put, List.setIfInBounds_toArray, List.set_cons_zero, List.set_cons_succ]
            refine wpAnyH_take (i := 4) (oi := ⟨some 23, _, _, _, _, _⟩) (v := ?_) rfl (by kernel_rfl) (by kernel_rfl) (by kernel_rfl) (fun _ _ _ h => h) (Or.inl ⟨by rfl, ?_⟩) (by assumption) ?_
            rotate_left
            · intro w hSw; (try dsimp only at hSw); go_simp; (all_goals with_reducible rfl)
            simp only [Act.put, List.setIfInBounds_toArray, List.set_cons_zero, List.set_cons_succ]
            refine wpAnyH_take (i := 5) (oi := ⟨some 24, _, _, _, _, _⟩) (v := ?_) rfl (by kernel_rfl) (by kernel_rfl) (by kernel_rfl) (fun _ _ _ h => h) (Or.inl ⟨by rfl, ?_⟩) (by assumption) ?_
            rotate_left
            · intro w hSw; (try dsimp only at hSw); go_simp; (all_goals with_reducible rfl)
            simp only [Act.put, List.setIfInBounds_toArray, List.set_cons_zero, List.set_cons_succ]
            refine wpAnyH_take (i := 6) (oi := ⟨some 25, _, _, _, _, _⟩) (v := ?_) rfl (by kernel_rfl) (by kernel_rfl) (by kernel_rfl) (fun _ _ _ h => h) (Or.inl ⟨by rfl, ?_⟩) (by assumption) ?_
            rotate_left
            · intro w hSw; (try dsimp only at hSw); go_simp; (all_goals with_reducible rfl)
            simp only [Act.put, List.setIfInBounds_toArray, List.set_cons_zero, List.set_cons_succ]
            refine wpAnyH_take (i := 8) (oi := ⟨some 27, _, _, _, _, _⟩) (v := ?_) rfl (by kernel_rfl) (by kernel_rfl) (by kernel_rfl) (fun _ _ _ h => h) (Or.inl ⟨by rfl, ?_⟩) (by assumption) ?_
            rotate_left
            · intro w hSw; (try dsimp only at hSw); go_simp; (all_goals with_reducible rfl)
            simp only [Act.put, List.setIfInBounds_toArray, List.set_cons_zero, List.set_cons_succ]
            refine wpAnyH_take (i := 9) (oi := ⟨some 28, _, _, _, _, _⟩) (v := ?_) rfl (by kernel_rfl) (by kernel_rfl) (by kernel_rfl) (fun _ _ _ h => h) (Or.inl ⟨by rfl, ?_⟩) (by assumption) ?_
            rotate_left
            · intro w hSw; (try dsimp only at hSw); go_simp; (all_goals with_reducible rfl)
            simp only [Act.put, List.setIfInBounds_toArray, List.set_cons_zero, List.set_cons_succ]
            refine wpAnyH_take (i := 10) (oi := ⟨some 29, _, _, _, _, _⟩) (v := ?_) rfl (by kernel_rfl) (by kernel_rfl) (by kernel_rfl) (fun _ _ _ h => h) (Or.inl ⟨by rfl, ?_⟩) (by assumption) ?_
            rotate_left
            · intro w hSw; (try dsimp only at hSw); go_simp; (all_goals with_reducible rfl)
            simp only [Act.put, List.setIfInBounds_toArray, List.set_cons_zero, List.set_cons_succ]
            have gw0 : w.heap.size ≠ WD.heap.size := by omega
            have ge1 : ¬ WD.heap.size = g := by omega
            have ge2 : ¬ g = WD.heap.size := by omega
            refine wpAnyH_ready (rs := [3, 13]) (by kernel_rfl) (by simp) ?_
            refine (AllReadyH.cons (o := ⟨some 22, _, _, _, _, _⟩) rfl (fun K hK => ?_) (AllReadyH.cons (o := ⟨some 5, _, _, _, _, _⟩) rfl (fun K hK => ?_) AllReadyH.nil))
            · go_simp
              refine (C1.out _).mono ?_
              rintro _ _ ⟨rfl, rfl⟩
              go_wp2_with fail
              refine hK.out _ _ ?_ (fun hHeld => ?_)
              · (try dsimp only); (exact hHeld)
              clear hK K
              try simp only [Act.put, List.setIfInBounds_toArray, List.set_cons_zero, List.set_cons_succ]
              refine wpAnyH_ready (rs := [7, 13]) (by kernel_rfl) (by simp) ?_
              refine (AllReadyH.cons (o := ⟨some 26, _, _, _, _, _⟩) rfl (fun K hK => ?_) (AllReadyH.cons (o := ⟨some 5, _, _, _, _, _⟩) rfl (fun K hK => ?_) AllReadyH.nil))
              · go_simp
                refine (C2.out _).mono ?_
                rintro _ _ ⟨rfl, rfl⟩
                go_wp2_with fail
                refine hK.out _ _ ?_ (fun hHeld => ?_)
                · (try dsimp only); (exact hHeld)
                clear hK K
                try simp only [Act.put, List.setIfInBounds_toArray, List.set_cons_zero, List.set_cons_succ]
                refine wpAnyH_ready (rs := [11, 13]) (by kernel_rfl) (by simp) ?_
                refine (AllReadyH.cons (o := ⟨some 30, _, _, _, _, _⟩) rfl (fun K hK => ?_) (AllReadyH.cons (o := ⟨some 5, _, _, _, _, _⟩) rfl (fun K hK => ?_) AllReadyH.nil))
                · go_simp
                  refine (C3.out _).mono ?_
                  rintro _ _ ⟨rfl, rfl⟩
                  go_wp2_with fail
                  refine hK.out _ _ ?_ (fun hHeld => ?_)
                  · (try dsimp only); (exact hHeld)
                  clear hK K
                  try simp only [Act.put, List.setIfInBounds_toArray, List.set_cons_zero, List.set_cons_succ]
                  refine wpAnyH_take (i := 12) (oi := ⟨some 31, _, _, _, _, _⟩) (v := ?_) rfl (by kernel_rfl) (by kernel_rfl) (by kernel_rfl) (fun _ _ _ h => h) (Or.inl ⟨by rfl, ?_⟩) (by assumption) ?_
                  rotate_left
                  · intro w hSw; (try dsimp only at hSw); go_simp; (all_goals with_reducible rfl)
                  simp only [Act.put, List.setIfInBounds_toArray, List.set_cons_zero, List.set_cons_succ]
                  refine wpAnyH_ready (rs := [13]) (by kernel_rfl) (by simp) ?_
                  refine (AllReadyH.cons (o := ⟨some 5, _, _, _, _, _⟩) rfl (fun K hK => ?_) AllReadyH.nil)
                  go_simp
                  go_wp2_with fail
                  have kz : Kp WD (WD.alloc (.cells #[.int .i64 0, .int .i64 0, .int .i64 0] 26)) := (Kp.refl WD).alloc _
                  have B4 : Bx3 (WD.alloc (.cells #[.int .i64 0, .int .i64 0, .int .i64 0] 26)) WD.heap.size 0 0 0 := Bx3.new WD 0 0 0 26
                  have T4 := TD.keep kz
                  have K4 := KD.trans kz
                  have H4 : (WD.alloc (.cells #[.int .i64 0, .int .i64 0, .int .i64 0] 26)).cell? ⟨g, 1, none⟩ = some (.string qa) ∧ (WD.alloc (.cells #[.int .i64 0, .int .i64 0, .int .i64 0] 26)).cell? ⟨g, 2, none⟩ = some (.string qb) ∧ (WD.alloc (.cells #[.int .i64 0, .int .i64 0, .int .i64 0] 26)).cell? ⟨g, 3, none⟩ = some (.string qc) := ⟨kz.cell hHeld.1, kz.cell hHeld.2.1, kz.cell hHeld.2.2⟩
                  generalize WD.alloc (.cells #[.int .i64 0, .int .i64 0, .int .i64 0] 26) = w4 at *
                  refine hK.out _ _ ?_ (fun hHeld => ?_)
                  · (try dsimp only); (exact H4)
                  clear hK K
                  try simp only [Act.put, List.setIfInBounds_toArray, List.set_cons_zero, List.set_cons_succ]
                  obtain ⟨s0, s1, s2⟩ := hHeld
                  have hHeld : w4.cell? ⟨g, 1, none⟩ = some (.string qa) ∧ w4.cell? ⟨g, 2, none⟩ = some (.string qb) ∧ w4.cell? ⟨g, 3, none⟩ = some (.string qc) := ⟨s0, s1, s2⟩
                  obtain ⟨⟨b0, b1, b2⟩, h0, h1, h2⟩ := id B4
                  refine wpAnyH_ready (rs := [14]) (by kernel_rfl) (by simp) ?_
                  refine (AllReadyH.cons (o := ⟨none, _, _, _, _, _⟩) rfl (fun K hK => ?_) AllReadyH.nil)
                  go_simp
                  go_wp2_with fail
                  refine hK.out _ _ ?_ (fun hHeld => ?_)
                  · (try dsimp only); (exact ⟨by simp [go_sem, *], by simp [go_sem, *], by simp [go_sem, *]⟩)
                  clear hK K
                  try simp only [Act.put, List.setIfInBounds_toArray, List.set_cons_zero, List.set_cons_succ]
                  refine wpAnyH_done (by kernel_rfl) ?_ _
                  go_wp2_with fail
                  go_meet
                  exact ⟨_, rfl, fin4 B4 T4 gw0 (by omega) K4⟩
                · go_simp
                  go_wp2_with fail
                  have kz : Kp WD (WD.alloc (.cells #[.int .i64 0, .int .i64 0, .int .i64 0] 26)) := (Kp.refl WD).alloc _
                  have B4 : Bx3 (WD.alloc (.cells #[.int .i64 0, .int .i64 0, .int .i64 0] 26)) WD.heap.size 0 0 0 := Bx3.new WD 0 0 0 26
                  have T4 := TD.keep kz
                  have K4 := KD.trans kz
                  have H4 : (WD.alloc (.cells #[.int .i64 0, .int .i64 0, .int .i64 0] 26)).cell? ⟨g, 1, none⟩ = some (.string qa) ∧ (WD.alloc (.cells #[.int .i64 0, .int .i64 0, .int .i64 0] 26)).cell? ⟨g, 2, none⟩ = some (.string qb) ∧ (WD.alloc (.cells #[.int .i64 0, .int .i64 0, .int .i64 0] 26)).cell? ⟨g, 3, none⟩ = some (.string qc) := ⟨kz.cell hHeld.1, kz.cell hHeld.2.1, kz.cell hHeld.2.2⟩
                  generalize WD.alloc (.cells #[.int .i64 0, .int .i64 0, .int .i64 0] 26) = w4 at *
                  refine hK.out _ _ ?_ (fun hHeld => ?_)
                  · (try dsimp only); (exact H4)
                  clear hK K
                  try simp only [Act.put, List.setIfInBounds_toArray, List.set_cons_zero, List.set_cons_succ]
                  refine wpAnyH_ready (rs := [11]) (by kernel_rfl) (by simp) ?_
                  refine (AllReadyH.cons (o := ⟨some 30, _, _, _, _, _⟩) rfl (fun K hK => ?_) AllReadyH.nil)
                  go_simp
                  refine (C3.out _).mono ?_
                  rintro _ _ ⟨rfl, rfl⟩
                  go_wp2_with fail
                  refine hK.out _ _ ?_ (fun hHeld => ?_)
                  · (try dsimp only); (exact hHeld)
                  clear hK K
                  try simp only [Act.put, List.setIfInBounds_toArray, List.set_cons_zero, List.set_cons_succ]
                  refine wpAnyH_take (i := 12) (oi := ⟨some 31, _, _, _, _, _⟩) (v := ?_) rfl (by kernel_rfl) (by kernel_rfl) (by kernel_rfl) (fun _ _ _ h => h) (Or.inl ⟨by rfl, ?_⟩) (by assumption) ?_
                  rotate_left
                  · intro w hSw; (try dsimp only at hSw); go_simp; (all_goals with_reducible rfl)
                  simp only [Act.put, List.setIfInBounds_toArray, List.set_cons_zero, List.set_cons_succ]
                  obtain ⟨s0, s1, s2⟩ := hHeld
                  have hHeld : w4.cell? ⟨g, 1, none⟩ = some (.string qa) ∧ w4.cell? ⟨g, 2, none⟩ = some (.string qb) ∧ w4.cell? ⟨g, 3, none⟩ = some (.string qc) := ⟨s0, s1, s2⟩
                  obtain ⟨⟨b0, b1, b2⟩, h0, h1, h2⟩ := id B4
                  refine wpAnyH_ready (rs := [14]) (by kernel_rfl) (by simp) ?_
                  refine (AllReadyH.cons (o := ⟨none, _, _, _, _, _⟩) rfl (fun K hK => ?_) AllReadyH.nil)
                  go_simp
                  go_wp2_with fail
                  refine hK.out _ _ ?_ (fun hHeld => ?_)
                  · (try dsimp only); (exact ⟨by simp [go_sem, *], by simp [go_sem, *], by simp [go_sem, *]⟩)
                  clear hK K
                  try simp only [Act.put, List.setIfInBounds_toArray, List.set_cons_zero, List.set_cons_succ]
                  refine wpAnyH_done (by kernel_rfl) ?_ _
                  go_wp2_with fail
                  go_meet
                  exact ⟨_, rfl, fin4 B4 T4 gw0 (by omega) K4⟩
              · go_simp
                go_wp2_with fail
                have kz : Kp WD (WD.alloc (.cells #[.int .i64 0, .int .i64 0, .int .i64 0] 26)) := (Kp.refl WD).alloc _
                have B4 : Bx3 (WD.alloc (.cells #[.int .i64 0, .int .i64 0, .int .i64 0] 26)) WD.heap.size 0 0 0 := Bx3.new WD 0 0 0 26
                have T4 := TD.keep kz
                have K4 := KD.trans kz
                have H4 : (WD.alloc (.cells #[.int .i64 0, .int .i64 0, .int .i64 0] 26)).cell? ⟨g, 1, none⟩ = some (.string qa) ∧ (WD.alloc (.cells #[.int .i64 0, .int .i64 0, .int .i64 0] 26)).cell? ⟨g, 2, none⟩ = some (.string qb) ∧ (WD.alloc (.cells #[.int .i64 0, .int .i64 0, .int .i64 0] 26)).cell? ⟨g, 3, none⟩ = some (.string qc) := ⟨kz.cell hHeld.1, kz.cell hHeld.2.1, kz.cell hHeld.2.2⟩
                generalize WD.alloc (.cells #[.int .i64 0, .int .i64 0, .int .i64 0] 26) = w4 at *
                refine hK.out _ _ ?_ (fun hHeld => ?_)
                · (try dsimp only); (exact H4)
                clear hK K
                try simp only [Act.put, List.setIfInBounds_toArray, List.set_cons_zero, List.set_cons_succ]
                refine wpAnyH_ready (rs := [7]) (by kernel_rfl) (by simp) ?_
                refine (AllReadyH.cons (o := ⟨some 26, _, _, _, _, _⟩) rfl (fun K hK => ?_) AllReadyH.nil)
                go_simp
                refine (C2.out _).mono ?_
                rintro _ _ ⟨rfl, rfl⟩
                go_wp2_with fail
                refine hK.out _ _ ?_ (fun hHeld => ?_)
                · (try dsimp only); (exact hHeld)
                clear hK K
                try simp only [Act.put, List.setIfInBounds_toArray, List.set_cons_zero, List.set_cons_succ]
                refine wpAnyH_ready (rs := [11]) (by kernel_rfl) (by simp) ?_
                refine (AllReadyH.cons (o := ⟨some 30, _, _, _, _, _⟩) rfl (fun K hK => ?_) AllReadyH.nil)
                go_simp
                refine (C3.out _).mono ?_
                rintro _ _ ⟨rfl, rfl⟩
                go_wp2_with fail
                refine hK.out _ _ ?_ (fun hHeld => ?_)
                · (try dsimp only); (exact hHeld)
                clear hK K
                try simp only [Act.put, List.setIfInBounds_toArray, List.set_cons_zero, List.set_cons_succ]
                refine wpAnyH_take (i := 12) (oi := ⟨some 31, _, _, _, _, _⟩) (v := ?_) rfl (by kernel_rfl) (by kernel_rfl) (by kernel_rfl) (fun _ _ _ h => h) (Or.inl ⟨by rfl, ?_⟩) (by assumption) ?_
                rotate_left
                · intro w hSw; (try dsimp only at hSw); go_simp; (all_goals with_reducible rfl)
                simp only [Act.put, List.setIfInBounds_toArray, List.set_cons_zero, List.set_cons_succ]
                obtain ⟨s0, s1, s2⟩ := hHeld
                have hHeld : w4.cell? ⟨g, 1, none⟩ = some (.string qa) ∧ w4.cell? ⟨g, 2, none⟩ = some (.string qb) ∧ w4.cell? ⟨g, 3, none⟩ = some (.string qc) := ⟨s0, s1, s2⟩
                obtain ⟨⟨b0, b1, b2⟩, h0, h1, h2⟩ := id B4
                refine wpAnyH_ready (rs := [14]) (by kernel_rfl) (by simp) ?_
                refine (AllReadyH.cons (o := ⟨none, _, _, _, _, _⟩) rfl (fun K hK => ?_) AllReadyH.nil)
                go_simp
                go_wp2_with fail
                refine hK.out _ _ ?_ (fun hHeld => ?_)
                · (try dsimp only); (exact ⟨by simp [go_sem, *], by simp [go_sem, *], by simp [go_sem, *]⟩)
                clear hK K
                try simp only [Act.put, List.setIfInBounds_toArray, List.set_cons_zero, List.set_cons_succ]
                refine wpAnyH_done (by kernel_rfl) ?_ _
                go_wp2_with fail
                go_meet
                exact ⟨_, rfl, fin4 B4 T4 gw0 (by omega) K4⟩
            · go_simp
              go_wp2_with fail
              have kz : Kp WD (WD.alloc (.cells #[.int .i64 0, .int .i64 0, .int .i64 0] 26)) := (Kp.refl WD).alloc _
              have B4 : Bx3 (WD.alloc (.cells #[.int .i64 0, .int .i64 0, .int .i64 0] 26)) WD.heap.size 0 0 0 := Bx3.new WD 0 0 0 26
              have T4 := TD.keep kz
              have K4 := KD.trans kz
              have H4 : (WD.alloc (.cells #[.int .i64 0, .int .i64 0, .int .i64 0] 26)).cell? ⟨g, 1, none⟩ = some (.string qa) ∧ (WD.alloc (.cells #[.int .i64 0, .int .i64 0, .int .i64 0] 26)).cell? ⟨g, 2, none⟩ = some (.string qb) ∧ (WD.alloc (.cells #[.int .i64 0, .int .i64 0, .int .i64 0] 26)).cell? ⟨g, 3, none⟩ = some (.string qc) := ⟨kz.cell hHeld.1, kz.cell hHeld.2.1, kz.cell hHeld.2.2⟩
              generalize WD.alloc (.cells #[.int .i64 0, .int .i64 0, .int .i64 0] 26) = w4 at *
              refine hK.out _ _ ?_ (fun hHeld => ?_)
              · (try dsimp only); (exact H4)
              clear hK K
              try simp only [Act.put, List.setIfInBounds_toArray, List.set_cons_zero, List.set_cons_succ]
              refine wpAnyH_ready (rs := [3]) (by kernel_rfl) (by simp) ?_
              refine (AllReadyH.cons (o := ⟨some 22, _, _, _, _, _⟩) rfl (fun K hK => ?_) AllReadyH.nil)
              go_simp
              refine (C1.out _).mono ?_
              rintro _ _ ⟨rfl, rfl⟩
              go_wp2_with fail
              refine hK.out _ _ ?_ (fun hHeld => ?_)
              · (try dsimp only); (exact hHeld)
              clear hK K
              try simp only [Act.put, List.setIfInBounds_toArray, List.set_cons_zero, List.set_cons_succ]
              refine wpAnyH_ready (rs := [7]) (by kernel_rfl) (by simp) ?_
              refine (AllReadyH.cons (o := ⟨some 26, _, _, _, _, _⟩) rfl (fun K hK => ?_) AllReadyH.nil)
              go_simp
              refine (C2.out _).mono ?_
              rintro _ _ ⟨rfl, rfl⟩
              go_wp2_with fail
              refine hK.out _ _ ?_ (fun hHeld => ?_)
              · (try dsimp only); (exact hHeld)
              clear hK K
              try simp only [Act.put, List.setIfInBounds_toArray, List.set_cons_zero, List.set_cons_succ]
              refine wpAnyH_ready (rs := [11]) (by kernel_rfl) (by simp) ?_
              refine (AllReadyH.cons (o := ⟨some 30, _, _, _, _, _⟩) rfl (fun K hK => ?_) AllReadyH.nil)
              go_simp
              refine (C3.out _).mono ?_
              rintro _ _ ⟨rfl, rfl⟩
              go_wp2_with fail
              refine hK.out _ _ ?_ (fun hHeld => ?_)
              · (try dsimp only); (exact hHeld)
              clear hK K
              try simp only [Act.put, List.setIfInBounds_toArray, List.set_cons_zero, List.set_cons_succ]
              refine wpAnyH_take (i := 12) (oi := ⟨some 31, _, _, _, _, _⟩) (v := ?_) rfl (by kernel_rfl) (by kernel_rfl) (by kernel_rfl) (fun _ _ _ h => h) (Or.inl ⟨by rfl, ?_⟩) (by assumption) ?_
              rotate_left
              · intro w hSw; (try dsimp only at hSw); go_simp; (all_goals with_reducible rfl)
              simp only [Act.put, List.setIfInBounds_toArray, List.set_cons_zero, List.set_cons_succ]
              obtain ⟨s0, s1, s2⟩ := hHeld
              have hHeld : w4.cell? ⟨g, 1, none⟩ = some (.string qa) ∧ w4.cell? ⟨g, 2, none⟩ = some (.string qb) ∧ w4.cell? ⟨g, 3, none⟩ = some (.string qc) := ⟨s0, s1, s2⟩
              obtain ⟨⟨b0, b1, b2⟩, h0, h1, h2⟩ := id B4
              refine wpAnyH_ready (rs := [14]) (by kernel_rfl) (by simp) ?_
              refine (AllReadyH.cons (o := ⟨none, _, _, _, _, _⟩) rfl (fun K hK => ?_) AllReadyH.nil)
              go_simp
              go_wp2_with fail
              refine hK.out _ _ ?_ (fun hHeld => ?_)
              · (try dsimp only); (exact ⟨by simp [go_sem, *], by simp [go_sem, *], by simp [go_sem, *]⟩)
              clear hK K
              try simp only [Act.put, List.setIfInBounds_toArray, List.set_cons_zero, List.set_cons_succ]
              refine wpAnyH_done (by kernel_rfl) ?_ _
              go_wp2_with fail
              go_meet
              exact ⟨_, rfl, fin4 B4 T4 gw0 (by omega) K4⟩
          case rest =>
            rename_i s5 w5 hcut
            obtain ⟨G, rfl, B5, T5, K5⟩ := hcut
            clear T1 K1 a0 a1 a2
            obtain ⟨r0, r1, r2⟩ := B5.1
            go_wp2_with fail
            refine (CG.out _).mono ?_
            rintro e6 w6 ⟨rfl, k6⟩
            obtain ⟨u0, u1, u2⟩ := (B5.keep k6).1
            go_wp2_with fail
            refine (CT.out _).mono ?_
            rintro e7 w7 ⟨rfl, k7⟩
            have T6 := (T5.keep k6).keep k7
            have B6 := (B5.keep k6).keep k7
            have K6 := (K5.trans k6).trans k7
            obtain ⟨⟨c0, c1, c2⟩, f0, f1, f2⟩ := T6
            obtain ⟨⟨y0, y1, y2⟩, -⟩ := B6
            go_wp2_with fail
            exact bodyPost_ret (v := .tuple #[slx 0 0 0, .bool false]) (by simp [results, Tryd.results8, go_sem, *]) rfl ⟨rfl, ((K6.setCell (by simp) _).setCell (by simp) _).setCell (by simp) _⟩
    · have hR : psR s [x, a, b, c] = none := by rw [psR, if_neg h19]
      rw [hR]
      have hq19 : (19 : Int) < ((tx c).size : Int) := by rw [hz]; omega
      generalize tx a = qa at *
      generalize tx b = qb at *
      generalize tx c = qc at *
      clear eT eS hz ha hb hc HWS h19 hR C1 C2 C3
      go_enter Tryd.func8, Tryd.ntmps8
      go_wp2_with fail
      refine CL.out.mono ?_
      rintro e1 w1 ⟨v1, rfl, o1, k1⟩
      obtain ⟨g, cap, rfl, hg, a0, a1, a2⟩ := OwnS.at4 o1
      obtain ⟨⟨c0, c1, c2⟩, f0, f1, f2⟩ := T0.keep k1
      have K1 := K0.trans k1
      clear o1 T0 k1
      go_wp2_with fail
      exact bodyPost_ret (v := .tuple #[slx 0 0 0, .bool false]) (by simp [results, Tryd.results8, go_sem, *]) rfl ⟨rfl, ((K1.setCell (by simp) _).setCell (by simp) _).setCell (by simp) _⟩
  · have hR : psR s (x :: r) = none := by
      unfold psR
      split
      · rename_i e
        obtain ⟨-, rfl⟩ := List.cons.inj e
        exact absurd ⟨_, _, _, rfl⟩ h4
      · rfl
    rw [hR]
    have hn : (((x :: r).map tx).length : Int) ≠ 4 := fun e => h4 (by
      match r, e with
      | [a, b, c], _ => exact ⟨a, b, c, rfl⟩
      | [], e => simp at e
      | [_], e => simp at e
      | [_, _], e => simp at e
      | _ :: _ :: _ :: _ :: l, e => simp at e; omega)
    clear hR h4 HWS
    generalize (x :: r).map tx = ws at *
    have hn2 : ((ws.length : Int) != 4) = true := by simpa using hn
    go_enter Tryd.func8, Tryd.ntmps8
    go_wp2_with fail
    refine CL.out.mono ?_
    rintro e1 w1 ⟨v1, rfl, o1, k1⟩
    obtain ⟨A, cc, hv, -⟩ := o1.rd
    subst hv
    obtain ⟨⟨c0, c1, c2⟩, f0, f1, f2⟩ := T0.keep k1
    have K1 := K0.trans k1
    clear o1 T0 k1
    generalize ws.length = n at *
    go_wp2_with fail
    exact bodyPost_ret (v := .tuple #[slx 0 0 0, .bool false]) (by simp [results, Tryd.results8, go_sem, *]) rfl ⟨rfl, ((K1.setCell (by simp) _).setCell (by simp) _).setCell (by simp) _⟩


end Go.Proofs.YtpenimbmonenpaaDoor
