/-
  The reference's mirrored list of edges, put one by one into a rising list, in memory of its own. Nothing that was there is changed.
-/
import Derived.Test.YtcdfbcmfpeceeaaDoorMirI
import Derived.Test.YtcdfbcmfpeceeaaDoorPut
import Derived.Test.YtcdfbcmfpeceeaaDoorListI
import Derived.Test.YtcdfbcmfpeceeaaDoorMapT
namespace Go.Proofs.YtcdfbcmfpeceeaaDoor
open Go.RowKit

theorem fold_le : ∀ (l acc : List Int), (l.foldl putI acc).length ≤ acc.length + l.length
  | [], _ => by simp
  | x :: l, acc => by
    have h1 := fold_le l (putI acc x)
    have h2 := putI_le acc x
    simp only [List.foldl_cons, List.length_cons]
    omega
theorem fold_more {l : List Int} {q : Nat} {z : Int} (f : Int → Int) (h : l[q]? = some z) : ((l.take (q + 1)).map f).foldl putI [] = putI (((l.take q).map f).foldl putI []) (f z) := by
  rw [List.take_add_one, h]
  simp [List.foldl_append]

set_option maxRecDepth 100000 in
set_option maxHeartbeats 4000000 in
theorem mMirrorEdges_any (W H : Int) (t r d t2 r2 d2 v : Value) (l : List Int) (w : World) (a : 1 ≤ W) (b : W ≤ 10) (c : 1 ≤ H) (e : H ≤ 10) (hr : RdI w v l) (hl : l.length ≤ 1048576) (hok : edgesOk W H l = true) :
    Calls Tryd.prog 110 #[mp W H t r d, mp H W t2 r2 d2, v] w fun e' w' => ∃ v', e' = .returned v' ∧ OwnI w' (w.heap.size + 2) v' ((l.map (mirE W H)).mergeSort fun x y => decide (x ≤ y)) ∧ Kp w w' := by
  rw [← mir_list a b hok]
  unfold putAll
  obtain ⟨Av, cv, rfl, hcv⟩ := hr
  have KA : Kp w ((w.alloc (.cells #[.int .i64 W, .int .i64 H, t, r, d] 44)).alloc (.cells #[.int .i64 H, .int .i64 W, t2, r2, d2] 44)) := ((Kp.refl w).alloc _).alloc _
  have s0 : ((w.alloc (.cells #[.int .i64 W, .int .i64 H, t, r, d] 44)).alloc (.cells #[.int .i64 H, .int .i64 W, t2, r2, d2] 44)).cell? ⟨w.heap.size, 0, none⟩ = some (.int .i64 W) ∧ ((w.alloc (.cells #[.int .i64 W, .int .i64 H, t, r, d] 44)).alloc (.cells #[.int .i64 H, .int .i64 W, t2, r2, d2] 44)).cell? ⟨w.heap.size, 1, none⟩ = some (.int .i64 H) ∧ ((w.alloc (.cells #[.int .i64 W, .int .i64 H, t, r, d] 44)).alloc (.cells #[.int .i64 H, .int .i64 W, t2, r2, d2] 44)).cell? ⟨w.heap.size, 2, none⟩ = some (t) ∧ ((w.alloc (.cells #[.int .i64 W, .int .i64 H, t, r, d] 44)).alloc (.cells #[.int .i64 H, .int .i64 W, t2, r2, d2] 44)).cell? ⟨w.heap.size, 3, none⟩ = some (r) ∧ ((w.alloc (.cells #[.int .i64 W, .int .i64 H, t, r, d] 44)).alloc (.cells #[.int .i64 H, .int .i64 W, t2, r2, d2] 44)).cell? ⟨w.heap.size, 4, none⟩ = some (d) ∧ ((w.alloc (.cells #[.int .i64 W, .int .i64 H, t, r, d] 44)).alloc (.cells #[.int .i64 H, .int .i64 W, t2, r2, d2] 44)).cell? ⟨w.heap.size + 1, 0, none⟩ = some (.int .i64 H) ∧ ((w.alloc (.cells #[.int .i64 W, .int .i64 H, t, r, d] 44)).alloc (.cells #[.int .i64 H, .int .i64 W, t2, r2, d2] 44)).cell? ⟨w.heap.size + 1, 1, none⟩ = some (.int .i64 W) ∧ ((w.alloc (.cells #[.int .i64 W, .int .i64 H, t, r, d] 44)).alloc (.cells #[.int .i64 H, .int .i64 W, t2, r2, d2] 44)).cell? ⟨w.heap.size + 1, 2, none⟩ = some (t2) ∧ ((w.alloc (.cells #[.int .i64 W, .int .i64 H, t, r, d] 44)).alloc (.cells #[.int .i64 H, .int .i64 W, t2, r2, d2] 44)).cell? ⟨w.heap.size + 1, 3, none⟩ = some (r2) ∧ ((w.alloc (.cells #[.int .i64 W, .int .i64 H, t, r, d] 44)).alloc (.cells #[.int .i64 H, .int .i64 W, t2, r2, d2] 44)).cell? ⟨w.heap.size + 1, 4, none⟩ = some (d2) ∧ Kp w ((w.alloc (.cells #[.int .i64 W, .int .i64 H, t, r, d] 44)).alloc (.cells #[.int .i64 H, .int .i64 W, t2, r2, d2] 44)) := ⟨by simp [go_sem], by simp [go_sem], by simp [go_sem], by simp [go_sem], by simp [go_sem], by simp [go_sem], by simp [go_sem], by simp [go_sem], by simp [go_sem], by simp [go_sem], KA⟩
  have hA := area_bd a b c e
  have hall : ∀ x ∈ l, edgeB W H x = true := by
    rw [edgesOk_eq, Bool.and_eq_true, List.all_eq_true] at hok
    exact hok.1
  have HE : Hid (∀ (q : Nat) (x : Int), l[q]? = some x → ∃ z : Nat, x = z ∧ (0 ≤ (z : Int) / 3 ∧ (z : Int) / 3 < W * H) ∧ (z : Int) ≤ 1000 ∧ nbB H W (mirI W H ((z : Int) / 3)) (5 - (z : Int) % 3) = true) := Lib.hid fun q x hx => by
    have hx1 := hall x (List.mem_of_getElem? hx)
    obtain ⟨h0, _, _, _, h4⟩ := edge_parts a b hx1
    have h5 := inB_true (edgeB_true hx1)
    refine ⟨x.toNat, by omega, ?_, by omega, ?_⟩
    · have : ((x.toNat : Nat) : Int) = x := by omega
      rw [this]
      omega
    · have : ((x.toNat : Nat) : Int) = x := by omega
      rw [this]
      exact h4
  obtain ⟨n, hn⟩ : ∃ n, l.length = n := ⟨_, rfl⟩
  have HN := Lib.hid hn
  rw [hn] at hcv hl ⊢
  have HV := Lib.hid hcv
  clear hok hall hcv hn KA
  go_enter Tryd.func110, Tryd.ntmps110
  go_wp2_with fail
  have ez : ((w.alloc (.cells #[.int .i64 W, .int .i64 H, t, r, d] 44)).alloc (.cells #[.int .i64 H, .int .i64 W, t2, r2, d2] 44)).heap.size = w.heap.size + 2 := by simp
  clear ez
  go_loopw [7, 9, 12] (fun v _ sq wx => ∃ q : Nat, q ≤ n ∧ sq = .int .i64 q ∧ OwnI wx (w.heap.size + 2) v (((l.take q).map (mirE W H)).foldl putI []) ∧ wx.cell? ⟨w.heap.size, 0, none⟩ = some (.int .i64 W) ∧ wx.cell? ⟨w.heap.size, 1, none⟩ = some (.int .i64 H) ∧ wx.cell? ⟨w.heap.size, 2, none⟩ = some (t) ∧ wx.cell? ⟨w.heap.size, 3, none⟩ = some (r) ∧ wx.cell? ⟨w.heap.size, 4, none⟩ = some (d) ∧ wx.cell? ⟨w.heap.size + 1, 0, none⟩ = some (.int .i64 H) ∧ wx.cell? ⟨w.heap.size + 1, 1, none⟩ = some (.int .i64 W) ∧ wx.cell? ⟨w.heap.size + 1, 2, none⟩ = some (t2) ∧ wx.cell? ⟨w.heap.size + 1, 3, none⟩ = some (r2) ∧ wx.cell? ⟨w.heap.size + 1, 4, none⟩ = some (d2) ∧ Kp w wx) (fun _ _ sq _ => n - (intOf sq).toNat)
  case atStart => exact ⟨0, by omega, rfl, by simpa using OwnI.nil _ _, s0⟩
  case round =>
    clear s0
    obtain ⟨q, hq, rfl, hoR, sr⟩ := hrel
    by_cases hlt : q < n
    · have hlt' : (q : Int) < n := by omega
      obtain ⟨g, off, rfl, hc⟩ := HV.out (by omega)
      obtain ⟨x, hx⟩ : ∃ x, l[q]? = some x := ⟨l[q]'(by have := HN.out; omega), List.getElem?_eq_getElem _⟩
      have kr : Kp w wr := sr.2.2.2.2.2.2.2.2.2.2
      have a0 := kr.cell (hc q x hx)
      obtain ⟨z, rfl, hz3, hzk, hnb⟩ := HE.out q x hx
      have HO := Lib.hid hoR
      have hln : Hid ((((l.take q).map (mirE W H)).foldl putI []).length ≤ 1048576) := Lib.hid (by
        have := fold_le ((l.take q).map (mirE W H)) []
        rw [List.length_map, List.length_take] at this
        simp only [List.length_nil] at this
        omega)
      have s1 : wr.drew.cell? ⟨w.heap.size, 0, none⟩ = some (.int .i64 W) ∧ wr.drew.cell? ⟨w.heap.size, 1, none⟩ = some (.int .i64 H) ∧ wr.drew.cell? ⟨w.heap.size, 2, none⟩ = some (t) ∧ wr.drew.cell? ⟨w.heap.size, 3, none⟩ = some (r) ∧ wr.drew.cell? ⟨w.heap.size, 4, none⟩ = some (d) ∧ wr.drew.cell? ⟨w.heap.size + 1, 0, none⟩ = some (.int .i64 H) ∧ wr.drew.cell? ⟨w.heap.size + 1, 1, none⟩ = some (.int .i64 W) ∧ wr.drew.cell? ⟨w.heap.size + 1, 2, none⟩ = some (t2) ∧ wr.drew.cell? ⟨w.heap.size + 1, 3, none⟩ = some (r2) ∧ wr.drew.cell? ⟨w.heap.size + 1, 4, none⟩ = some (d2) ∧ Kp w wr.drew := ⟨sr.1, sr.2.1, sr.2.2.1, sr.2.2.2.1, sr.2.2.2.2.1, sr.2.2.2.2.2.1, sr.2.2.2.2.2.2.1, sr.2.2.2.2.2.2.2.1, sr.2.2.2.2.2.2.2.2.1, sr.2.2.2.2.2.2.2.2.2.1, sr.2.2.2.2.2.2.2.2.2.2.drew⟩
      have hm0 : mirE W H (z : Int) = edgI H (mirI W H ((z : Int) / 3)) (5 - (z : Int) % 3) := rfl
      obtain ⟨me, hme⟩ : ∃ y, y = mirI W H ((z : Int) / 3) := ⟨_, rfl⟩
      rw [← hme] at hnb hm0
      have C1 : Hid (∀ w, Calls Tryd.prog 109 #[mp W H t r d, .int .i64 ((z : Int) / 3)] w fun e w' => e = .returned (.int .i64 me) ∧ Kp w w') := Lib.hid fun w => by
        rw [hme]
        exact mMirrorIndex_any W H t r d _ w a b c e hz3.1 hz3.2
      obtain ⟨E, hE⟩ : ∃ y, y = mirE W H (z : Int) := ⟨_, rfl⟩
      have HS : Hid (((l.take (q + 1)).map (mirE W H)).foldl putI [] = putI (((l.take q).map (mirE W H)).foldl putI []) E) := Lib.hid (by rw [hE]; exact fold_more (mirE W H) hx)
      have C2 : Hid (∀ w, Calls Tryd.prog 139 #[mp H W t2 r2 d2, .int .i64 me, .int .i64 (5 - (z : Int) % 3)] w fun e w' => e = .returned (.int .i64 E) ∧ Kp w w') := Lib.hid fun w => by
        have := mEdge_any H W t2 r2 d2 me (5 - (z : Int) % 3) w c e a b hnb
        rw [← hm0, ← hE] at this
        exact this
      obtain ⟨NL, hNL⟩ : ∃ y, y = ((l.take q).map (mirE W H)).foldl putI [] := ⟨_, rfl⟩
      rw [← hNL] at HS HO hln
      have hz30 : 0 ≤ (z : Int) % 3 := by omega
      have hz32 : (z : Int) % 3 ≤ 2 := by omega
      have hwr : IntKind.i64.wrap (5 - (z : Int) % 3) = 5 - (z : Int) % 3 := by simp [IntKind.wrap, IntKind.bits, IntKind.signed]; omega
      have hwq : IntKind.i64.wrap ((z : Int) / 3) = (z : Int) / 3 := by simp [IntKind.wrap, IntKind.bits, IntKind.signed]; omega
      have htm : (z : Int).tmod 3 = (z : Int) % 3 := Int.tmod_eq_emod_of_nonneg (by omega)
      clear hc hx hoR hme hnb hm0 hE hNL
      go_wp2_with fail
      refine wp_region_held_drew (S := (fun w' => w'.cell? ⟨w.heap.size, 0, none⟩ = some (.int .i64 W) ∧ w'.cell? ⟨w.heap.size, 1, none⟩ = some (.int .i64 H) ∧ w'.cell? ⟨w.heap.size, 2, none⟩ = some (t) ∧ w'.cell? ⟨w.heap.size, 3, none⟩ = some (r) ∧ w'.cell? ⟨w.heap.size, 4, none⟩ = some (d) ∧ w'.cell? ⟨w.heap.size + 1, 0, none⟩ = some (.int .i64 H) ∧ w'.cell? ⟨w.heap.size + 1, 1, none⟩ = some (.int .i64 W) ∧ w'.cell? ⟨w.heap.size + 1, 2, none⟩ = some (t2) ∧ w'.cell? ⟨w.heap.size + 1, 3, none⟩ = some (r2) ∧ w'.cell? ⟨w.heap.size + 1, 4, none⟩ = some (d2) ∧ Kp w w')) (by kernel_rfl) ?_ (fun hHeld => ?_)
      · exact s1
      refine wpAnyH_take (i := 0) (oi := ⟨some 16, _, _, _, _, _⟩) (v := ?_) rfl (by kernel_rfl) (by kernel_rfl) (by kernel_rfl) (fun _ _ _ h => h) (Or.inl ⟨by rfl, ?_⟩) (by assumption) ?_
      rotate_left
      · intro w hSw; (try dsimp only at hSw); go_simp; (all_goals with_reducible rfl)
      simp only [Act.put, List.setIfInBounds_toArray, List.set_cons_zero, List.set_cons_succ]
      refine wpAnyH_take (i := 1) (oi := ⟨some 17, _, _, _, _, _⟩) (v := ?_) rfl (by kernel_rfl) (by kernel_rfl) (by kernel_rfl) (fun _ _ _ h => h) (Or.inl ⟨by rfl, ?_⟩) (by assumption) ?_
      rotate_left
      · intro w hSw; (try dsimp only at hSw); go_simp; (all_goals with_reducible rfl)
      simp only [Act.put, List.setIfInBounds_toArray, List.set_cons_zero, List.set_cons_succ]
      refine wpAnyH_take (i := 2) (oi := ⟨some 18, _, _, _, _, _⟩) (v := ?_) rfl (by kernel_rfl) (by kernel_rfl) (by kernel_rfl) (fun _ _ _ h => h) (Or.inl ⟨by rfl, ?_⟩) (by assumption) ?_
      rotate_left
      · intro w hSw; (try dsimp only at hSw); go_simp; (all_goals with_reducible rfl)
      simp only [Act.put, List.setIfInBounds_toArray, List.set_cons_zero, List.set_cons_succ]
      refine wpAnyH_take (i := 3) (oi := ⟨some 19, _, _, _, _, _⟩) (v := ?_) rfl (by kernel_rfl) (by kernel_rfl) (by kernel_rfl) (fun _ _ _ h => h) (Or.inl ⟨by rfl, ?_⟩) (by assumption) ?_
      rotate_left
      · intro w hSw; (try dsimp only at hSw); go_simp; (all_goals with_reducible rfl)
      simp only [Act.put, List.setIfInBounds_toArray, List.set_cons_zero, List.set_cons_succ]
      refine wpAnyH_take (i := 4) (oi := ⟨some 20, _, _, _, _, _⟩) (v := ?_) rfl (by kernel_rfl) (by kernel_rfl) (by kernel_rfl) (fun _ _ _ h => h) (Or.inl ⟨by rfl, ?_⟩) (by assumption) ?_
      rotate_left
      · intro w hSw; (try dsimp only at hSw); go_simp; (all_goals with_reducible rfl)
      simp only [Act.put, List.setIfInBounds_toArray, List.set_cons_zero, List.set_cons_succ]
      refine wpAnyH_take (i := 6) (oi := ⟨some 22, _, _, _, _, _⟩) (v := ?_) rfl (by kernel_rfl) (by kernel_rfl) (by kernel_rfl) (fun _ _ _ h => h) (Or.inl ⟨by rfl, ?_⟩) (by assumption) ?_
      rotate_left
      · intro w hSw; (try dsimp only at hSw); go_simp; (all_goals with_reducible rfl)
      simp only [Act.put, List.setIfInBounds_toArray, List.set_cons_zero, List.set_cons_succ]
      refine wpAnyH_take (i := 7) (oi := ⟨some 23, _, _, _, _, _⟩) (v := ?_) rfl (by kernel_rfl) (by kernel_rfl) (by kernel_rfl) (fun _ _ _ h => h) (Or.inl ⟨by rfl, ?_⟩) (by assumption) ?_
      rotate_left
      · intro w hSw; (try dsimp only at hSw); go_simp; (all_goals with_reducible rfl)
      simp only [Act.put, List.setIfInBounds_toArray, List.set_cons_zero, List.set_cons_succ]
      refine wpAnyH_take (i := 8) (oi := ⟨some 24, _, _, _, _, _⟩) (v := ?_) rfl (by kernel_rfl) (by kernel_rfl) (by kernel_rfl) (fun _ _ _ h => h) (Or.inl ⟨by rfl, ?_⟩) (by assumption) ?_
      rotate_left
      · intro w hSw; (try dsimp only at hSw); go_simp; (all_goals with_reducible rfl)
      simp only [Act.put, List.setIfInBounds_toArray, List.set_cons_zero, List.set_cons_succ]
      refine wpAnyH_ready (rs := [5]) (by kernel_rfl) (by simp) ?_
      refine AllReadyH.cons (o := ⟨some 21, _, _, _, _, _⟩) rfl (fun K hK => ?_) AllReadyH.nil
      go_simp
      refine (C1.out _).mono ?_; rintro e1 w1 ⟨rfl, k1⟩; have s1b : w1.cell? ⟨w.heap.size, 0, none⟩ = some (.int .i64 W) ∧ w1.cell? ⟨w.heap.size, 1, none⟩ = some (.int .i64 H) ∧ w1.cell? ⟨w.heap.size, 2, none⟩ = some (t) ∧ w1.cell? ⟨w.heap.size, 3, none⟩ = some (r) ∧ w1.cell? ⟨w.heap.size, 4, none⟩ = some (d) ∧ w1.cell? ⟨w.heap.size + 1, 0, none⟩ = some (.int .i64 H) ∧ w1.cell? ⟨w.heap.size + 1, 1, none⟩ = some (.int .i64 W) ∧ w1.cell? ⟨w.heap.size + 1, 2, none⟩ = some (t2) ∧ w1.cell? ⟨w.heap.size + 1, 3, none⟩ = some (r2) ∧ w1.cell? ⟨w.heap.size + 1, 4, none⟩ = some (d2) ∧ Kp w w1 := ⟨k1.cell s1.1, k1.cell s1.2.1, k1.cell s1.2.2.1, k1.cell s1.2.2.2.1, k1.cell s1.2.2.2.2.1, k1.cell s1.2.2.2.2.2.1, k1.cell s1.2.2.2.2.2.2.1, k1.cell s1.2.2.2.2.2.2.2.1, k1.cell s1.2.2.2.2.2.2.2.2.1, k1.cell s1.2.2.2.2.2.2.2.2.2.1, s1.2.2.2.2.2.2.2.2.2.2.trans k1⟩; have k01 := Lib.hid ((Kp.refl wr).drew.trans k1)
      go_wp2_with fail
      refine hK.out _ _ ?_ (fun hHeld => ?_)
      · (try dsimp only); (first | assumption | exact s3 | exact s2 | exact s1b | exact s1)
      clear hK K
      try simp only [Act.put, List.setIfInBounds_toArray, List.set_cons_zero, List.set_cons_succ]
      refine wpAnyH_ready (rs := [9]) (by kernel_rfl) (by simp) ?_
      refine AllReadyH.cons (o := ⟨some 25, _, _, _, _, _⟩) rfl (fun K hK => ?_) AllReadyH.nil
      go_simp
      refine (C2.out _).mono ?_; rintro e2 w2 ⟨rfl, k2⟩; have s2 : w2.cell? ⟨w.heap.size, 0, none⟩ = some (.int .i64 W) ∧ w2.cell? ⟨w.heap.size, 1, none⟩ = some (.int .i64 H) ∧ w2.cell? ⟨w.heap.size, 2, none⟩ = some (t) ∧ w2.cell? ⟨w.heap.size, 3, none⟩ = some (r) ∧ w2.cell? ⟨w.heap.size, 4, none⟩ = some (d) ∧ w2.cell? ⟨w.heap.size + 1, 0, none⟩ = some (.int .i64 H) ∧ w2.cell? ⟨w.heap.size + 1, 1, none⟩ = some (.int .i64 W) ∧ w2.cell? ⟨w.heap.size + 1, 2, none⟩ = some (t2) ∧ w2.cell? ⟨w.heap.size + 1, 3, none⟩ = some (r2) ∧ w2.cell? ⟨w.heap.size + 1, 4, none⟩ = some (d2) ∧ Kp w w2 := ⟨k2.cell s1b.1, k2.cell s1b.2.1, k2.cell s1b.2.2.1, k2.cell s1b.2.2.2.1, k2.cell s1b.2.2.2.2.1, k2.cell s1b.2.2.2.2.2.1, k2.cell s1b.2.2.2.2.2.2.1, k2.cell s1b.2.2.2.2.2.2.2.1, k2.cell s1b.2.2.2.2.2.2.2.2.1, k2.cell s1b.2.2.2.2.2.2.2.2.2.1, s1b.2.2.2.2.2.2.2.2.2.2.trans k2⟩; have k02 := Lib.hid (k01.out.trans k2)
      go_wp2_with fail
      refine hK.out _ _ ?_ (fun hHeld => ?_)
      · (try dsimp only); (first | assumption | exact s3 | exact s2 | exact s1b | exact s1)
      clear hK K
      try simp only [Act.put, List.setIfInBounds_toArray, List.set_cons_zero, List.set_cons_succ]
      refine wpAnyH_ready (rs := [10]) (by kernel_rfl) (by simp) ?_
      refine AllReadyH.cons (o := ⟨some 26, _, _, _, _, _⟩) rfl (fun K hK => ?_) AllReadyH.nil
      go_simp
      refine (l1Put_any _ NL E (w.heap.size + 2) _ (HO.out.keep k02.out) (by have := cell_lt s2.2.2.2.2.2.1; omega) hln.out).mono ?_; rintro e3 w3 ⟨v3, rfl, o3, k3⟩; have O3 := Lib.hid o3; have s3 : w3.cell? ⟨w.heap.size, 0, none⟩ = some (.int .i64 W) ∧ w3.cell? ⟨w.heap.size, 1, none⟩ = some (.int .i64 H) ∧ w3.cell? ⟨w.heap.size, 2, none⟩ = some (t) ∧ w3.cell? ⟨w.heap.size, 3, none⟩ = some (r) ∧ w3.cell? ⟨w.heap.size, 4, none⟩ = some (d) ∧ w3.cell? ⟨w.heap.size + 1, 0, none⟩ = some (.int .i64 H) ∧ w3.cell? ⟨w.heap.size + 1, 1, none⟩ = some (.int .i64 W) ∧ w3.cell? ⟨w.heap.size + 1, 2, none⟩ = some (t2) ∧ w3.cell? ⟨w.heap.size + 1, 3, none⟩ = some (r2) ∧ w3.cell? ⟨w.heap.size + 1, 4, none⟩ = some (d2) ∧ Kp w w3 := ⟨k3.cell s2.1, k3.cell s2.2.1, k3.cell s2.2.2.1, k3.cell s2.2.2.2.1, k3.cell s2.2.2.2.2.1, k3.cell s2.2.2.2.2.2.1, k3.cell s2.2.2.2.2.2.2.1, k3.cell s2.2.2.2.2.2.2.2.1, k3.cell s2.2.2.2.2.2.2.2.2.1, k3.cell s2.2.2.2.2.2.2.2.2.2.1, s2.2.2.2.2.2.2.2.2.2.2.trans k3⟩
      go_wp2_with fail
      refine hK.out _ _ ?_ (fun hHeld => ?_)
      · (try dsimp only); (first | assumption | exact s3 | exact s2 | exact s1b | exact s1)
      clear hK K
      try simp only [Act.put, List.setIfInBounds_toArray, List.set_cons_zero, List.set_cons_succ]
      refine wpAnyH_take (i := 11) (oi := ⟨some 7, _, _, _, _, _⟩) (v := ?_) rfl (by kernel_rfl) (by kernel_rfl) (by kernel_rfl) (fun _ _ _ h => h) (Or.inl ⟨by rfl, ?_⟩) (by assumption) ?_
      rotate_left
      · intro w hSw; (try dsimp only at hSw); go_simp; (all_goals with_reducible rfl)
      simp only [Act.put, List.setIfInBounds_toArray, List.set_cons_zero, List.set_cons_succ]
      refine wpAnyH_done (by kernel_rfl) ?_ _
      clear s1 s1b s2 k01 k02 sr kr HO
      go_wp2_with fail
      go_roundw
      case rel => exact ⟨q + 1, by omega, by go_num, by rw [HS.out]; exact O3.out, s3⟩
      case measure => simp [intOf]; omega
    · obtain rfl : q = n := by omega
      have et : l.take q = l := List.take_of_length_le (by have := HN.out; omega)
      rw [et] at hoR
      have HO := Lib.hid hoR
      have K3 : Kp w wr := sr.2.2.2.2.2.2.2.2.2.2
      clear hoR
      go_wp2_with fail
      go_ret
      exact ⟨_, rfl, HO.out, K3⟩

end Go.Proofs.YtcdfbcmfpeceeaaDoor
