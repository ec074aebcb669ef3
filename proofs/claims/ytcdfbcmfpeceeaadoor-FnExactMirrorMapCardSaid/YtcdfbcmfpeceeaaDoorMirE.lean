/-
  Mirrored lists of edges: the program's, sorted, and the reference's, put one by one: the same list, in memory of its own. Nothing that was there is changed. The table of directions holds what the program's text lays.
-/
import Derived.Test.YtcdfbcmfpeceeaaDoorSortI
import Derived.Test.YtcdfbcmfpeceeaaDoorMirI
import Derived.Test.YtcdfbcmfpeceeaaDoorPut
import Derived.Test.YtcdfbcmfpeceeaaDoorListI
import Derived.Test.YtcdfbcmfpeceeaaDoorMapT
namespace Go.Proofs.YtcdfbcmfpeceeaaDoor
open Go.RowKit

theorem mkInts0 (n : Nat) (hn : n ≤ 1048576) (w : World) :
    (Instr.makeSlice 40 (.int .i64 0) (.int .i64 (n : Int))).run Tryd.prog w = .ok (.slice (some ⟨w.heap.size, 0, none⟩) 0 n) (w.alloc (.cells (madeCells #[.int .i64 0] n) 3)) := by
  obtain ⟨i, hi, hz, hs, hb⟩ := info_parts infoInt
  have hr := run_make (P := Tryd.prog) w 40 3 i (.int .i64 0) Tryd.underlying40 hi hz .i64 .i64 0 (n : Int) (Int.le_refl _) (by omega) (by rw [hb]; omega) (by omega)
  rw [hs, Int.toNat_natCast, Nat.mul_one] at hr
  exact hr
theorem ownI_made (w : World) (n : Nat) (hn : n ≤ 1048576) : OwnI (w.alloc (.cells (madeCells #[.int .i64 0] n) 3)) w.heap.size (.slice (some ⟨w.heap.size, 0, none⟩) 0 n) [] := by
  unfold OwnI
  exact World.ownsRow_made w _ n (Nat.le_refl _) (by simp only [maxLen]; omega) (by rw [size_madeCells, Nat.mul_one])
theorem map_more {l : List Int} {q : Nat} {z : Int} (f : Int → Int) (h : l[q]? = some z) : (l.take (q + 1)).map f = (l.take q).map f ++ [f z] := by
  rw [List.take_add_one, h]
  simp

set_option maxRecDepth 100000 in
set_option maxHeartbeats 4000000 in
theorem mirrorEdges_any (W H : Int) (t r d t2 r2 d2 v : Value) (l : List Int) (w : World) (a : 1 ≤ W) (b : W ≤ 10) (c : 1 ≤ H) (e : H ≤ 10) (ht : Tab w) (hr : RdI w v l) (hl : l.length ≤ 1048576) (hok : edgesOk W H l = true) :
    Calls Tryd.prog 77 #[mp W H t r d, mp H W t2 r2 d2, v] w fun e' w' => ∃ v', e' = .returned v' ∧ OwnI w' (w.heap.size + 2) v' ((l.map (mirE W H)).mergeSort fun x y => decide (x ≤ y)) ∧ Kp w w' := by
  obtain ⟨Av, cv, rfl, hcv⟩ := hr
  have KA : Kp w ((w.alloc (.cells #[.int .i64 W, .int .i64 H, t, r, d] 44)).alloc (.cells #[.int .i64 H, .int .i64 W, t2, r2, d2] 44)) := ((Kp.refl w).alloc _).alloc _
  have s0 : ((w.alloc (.cells #[.int .i64 W, .int .i64 H, t, r, d] 44)).alloc (.cells #[.int .i64 H, .int .i64 W, t2, r2, d2] 44)).cell? ⟨w.heap.size, 0, none⟩ = some (.int .i64 W) ∧ ((w.alloc (.cells #[.int .i64 W, .int .i64 H, t, r, d] 44)).alloc (.cells #[.int .i64 H, .int .i64 W, t2, r2, d2] 44)).cell? ⟨w.heap.size, 1, none⟩ = some (.int .i64 H) ∧ ((w.alloc (.cells #[.int .i64 W, .int .i64 H, t, r, d] 44)).alloc (.cells #[.int .i64 H, .int .i64 W, t2, r2, d2] 44)).cell? ⟨w.heap.size, 2, none⟩ = some (t) ∧ ((w.alloc (.cells #[.int .i64 W, .int .i64 H, t, r, d] 44)).alloc (.cells #[.int .i64 H, .int .i64 W, t2, r2, d2] 44)).cell? ⟨w.heap.size, 3, none⟩ = some (r) ∧ ((w.alloc (.cells #[.int .i64 W, .int .i64 H, t, r, d] 44)).alloc (.cells #[.int .i64 H, .int .i64 W, t2, r2, d2] 44)).cell? ⟨w.heap.size, 4, none⟩ = some (d) ∧ ((w.alloc (.cells #[.int .i64 W, .int .i64 H, t, r, d] 44)).alloc (.cells #[.int .i64 H, .int .i64 W, t2, r2, d2] 44)).cell? ⟨w.heap.size + 1, 0, none⟩ = some (.int .i64 H) ∧ ((w.alloc (.cells #[.int .i64 W, .int .i64 H, t, r, d] 44)).alloc (.cells #[.int .i64 H, .int .i64 W, t2, r2, d2] 44)).cell? ⟨w.heap.size + 1, 1, none⟩ = some (.int .i64 W) ∧ ((w.alloc (.cells #[.int .i64 W, .int .i64 H, t, r, d] 44)).alloc (.cells #[.int .i64 H, .int .i64 W, t2, r2, d2] 44)).cell? ⟨w.heap.size + 1, 2, none⟩ = some (t2) ∧ ((w.alloc (.cells #[.int .i64 W, .int .i64 H, t, r, d] 44)).alloc (.cells #[.int .i64 H, .int .i64 W, t2, r2, d2] 44)).cell? ⟨w.heap.size + 1, 3, none⟩ = some (r2) ∧ ((w.alloc (.cells #[.int .i64 W, .int .i64 H, t, r, d] 44)).alloc (.cells #[.int .i64 H, .int .i64 W, t2, r2, d2] 44)).cell? ⟨w.heap.size + 1, 4, none⟩ = some (d2) ∧ Kp w ((w.alloc (.cells #[.int .i64 W, .int .i64 H, t, r, d] 44)).alloc (.cells #[.int .i64 H, .int .i64 W, t2, r2, d2] 44)) := ⟨by simp [go_sem], by simp [go_sem], by simp [go_sem], by simp [go_sem], by simp [go_sem], by simp [go_sem], by simp [go_sem], by simp [go_sem], by simp [go_sem], by simp [go_sem], KA⟩
  have HT := Lib.hid ht
  have hA := area_bd a b c e
  have hall : ∀ x ∈ l, edgeB W H x = true := by
    rw [edgesOk_eq, Bool.and_eq_true, List.all_eq_true] at hok
    exact hok.1
  have HE : Hid (∀ (q : Nat) (x : Int), l[q]? = some x → ∃ z : Nat, x = z ∧ (0 ≤ (z : Int) / 3 ∧ (z : Int) / 3 < W * H) ∧ (z : Int) ≤ 1000 ∧ nbB H W (mirI W H ((z : Int) / 3)) (5 - (z : Int) % 3) = true) := Lib.hid fun q x hx => by
    have hx1 := hall x (List.mem_of_getElem? hx)
    obtain ⟨h0, _, _, _, h4⟩ := edge_parts a b hx1
    have h5 := inB_true (edgeB_true hx1)
    refine ⟨x.toNat, by omega, ?_, by omega, ?_⟩
    · have : ((x.toNat : Nat) : Int) = x := by omega
      rw [this]
      omega
    · have : ((x.toNat : Nat) : Int) = x := by omega
      rw [this]
      exact h4
  obtain ⟨n, hn⟩ : ∃ n, l.length = n := ⟨_, rfl⟩
  have HN := Lib.hid hn
  rw [hn] at hcv hl ⊢
  have HV := Lib.hid hcv
  have hmk := fun w => mkInts0 n hl w
  obtain ⟨j0, hj0, hz0, hs0, hb0⟩ := info_parts infoInt
  clear ht hok hall hcv hn KA
  go_enter Tryd.func77, Tryd.ntmps77
  go_wp2_with fail
  have o1 := ownI_made ((w.alloc (.cells #[.int .i64 W, .int .i64 H, t, r, d] 44)).alloc (.cells #[.int .i64 H, .int .i64 W, t2, r2, d2] 44)) n hl
  have kz : Kp ((w.alloc (.cells #[.int .i64 W, .int .i64 H, t, r, d] 44)).alloc (.cells #[.int .i64 H, .int .i64 W, t2, r2, d2] 44)) (((w.alloc (.cells #[.int .i64 W, .int .i64 H, t, r, d] 44)).alloc (.cells #[.int .i64 H, .int .i64 W, t2, r2, d2] 44)).alloc (.cells (madeCells #[.int .i64 0] n) 3)) := (Kp.refl _).alloc _
  have sz : (((w.alloc (.cells #[.int .i64 W, .int .i64 H, t, r, d] 44)).alloc (.cells #[.int .i64 H, .int .i64 W, t2, r2, d2] 44)).alloc (.cells (madeCells #[.int .i64 0] n) 3)).cell? ⟨w.heap.size, 0, none⟩ = some (.int .i64 W) ∧ (((w.alloc (.cells #[.int .i64 W, .int .i64 H, t, r, d] 44)).alloc (.cells #[.int .i64 H, .int .i64 W, t2, r2, d2] 44)).alloc (.cells (madeCells #[.int .i64 0] n) 3)).cell? ⟨w.heap.size, 1, none⟩ = some (.int .i64 H) ∧ (((w.alloc (.cells #[.int .i64 W, .int .i64 H, t, r, d] 44)).alloc (.cells #[.int .i64 H, .int .i64 W, t2, r2, d2] 44)).alloc (.cells (madeCells #[.int .i64 0] n) 3)).cell? ⟨w.heap.size, 2, none⟩ = some (t) ∧ (((w.alloc (.cells #[.int .i64 W, .int .i64 H, t, r, d] 44)).alloc (.cells #[.int .i64 H, .int .i64 W, t2, r2, d2] 44)).alloc (.cells (madeCells #[.int .i64 0] n) 3)).cell? ⟨w.heap.size, 3, none⟩ = some (r) ∧ (((w.alloc (.cells #[.int .i64 W, .int .i64 H, t, r, d] 44)).alloc (.cells #[.int .i64 H, .int .i64 W, t2, r2, d2] 44)).alloc (.cells (madeCells #[.int .i64 0] n) 3)).cell? ⟨w.heap.size, 4, none⟩ = some (d) ∧ (((w.alloc (.cells #[.int .i64 W, .int .i64 H, t, r, d] 44)).alloc (.cells #[.int .i64 H, .int .i64 W, t2, r2, d2] 44)).alloc (.cells (madeCells #[.int .i64 0] n) 3)).cell? ⟨w.heap.size + 1, 0, none⟩ = some (.int .i64 H) ∧ (((w.alloc (.cells #[.int .i64 W, .int .i64 H, t, r, d] 44)).alloc (.cells #[.int .i64 H, .int .i64 W, t2, r2, d2] 44)).alloc (.cells (madeCells #[.int .i64 0] n) 3)).cell? ⟨w.heap.size + 1, 1, none⟩ = some (.int .i64 W) ∧ (((w.alloc (.cells #[.int .i64 W, .int .i64 H, t, r, d] 44)).alloc (.cells #[.int .i64 H, .int .i64 W, t2, r2, d2] 44)).alloc (.cells (madeCells #[.int .i64 0] n) 3)).cell? ⟨w.heap.size + 1, 2, none⟩ = some (t2) ∧ (((w.alloc (.cells #[.int .i64 W, .int .i64 H, t, r, d] 44)).alloc (.cells #[.int .i64 H, .int .i64 W, t2, r2, d2] 44)).alloc (.cells (madeCells #[.int .i64 0] n) 3)).cell? ⟨w.heap.size + 1, 3, none⟩ = some (r2) ∧ (((w.alloc (.cells #[.int .i64 W, .int .i64 H, t, r, d] 44)).alloc (.cells #[.int .i64 H, .int .i64 W, t2, r2, d2] 44)).alloc (.cells (madeCells #[.int .i64 0] n) 3)).cell? ⟨w.heap.size + 1, 4, none⟩ = some (d2) ∧ Kp w (((w.alloc (.cells #[.int .i64 W, .int .i64 H, t, r, d] 44)).alloc (.cells #[.int .i64 H, .int .i64 W, t2, r2, d2] 44)).alloc (.cells (madeCells #[.int .i64 0] n) 3)) := ⟨kz.cell s0.1, kz.cell s0.2.1, kz.cell s0.2.2.1, kz.cell s0.2.2.2.1, kz.cell s0.2.2.2.2.1, kz.cell s0.2.2.2.2.2.1, kz.cell s0.2.2.2.2.2.2.1, kz.cell s0.2.2.2.2.2.2.2.1, kz.cell s0.2.2.2.2.2.2.2.2.1, kz.cell s0.2.2.2.2.2.2.2.2.2.1, s0.2.2.2.2.2.2.2.2.2.2.trans kz⟩
  have ez : ((w.alloc (.cells #[.int .i64 W, .int .i64 H, t, r, d] 44)).alloc (.cells #[.int .i64 H, .int .i64 W, t2, r2, d2] 44)).heap.size = w.heap.size + 2 := by simp
  rw [ez] at o1
  clear hmk s0 kz ez
  go_loopw [7, 9, 10, 11, 12, 13, 19, 27] (fun v _ _ _ _ _ sq _ wx => ∃ q : Nat, q ≤ n ∧ sq = .int .i64 q ∧ OwnI wx (w.heap.size + 2) v ((l.take q).map (mirE W H)) ∧ wx.cell? ⟨w.heap.size, 0, none⟩ = some (.int .i64 W) ∧ wx.cell? ⟨w.heap.size, 1, none⟩ = some (.int .i64 H) ∧ wx.cell? ⟨w.heap.size, 2, none⟩ = some (t) ∧ wx.cell? ⟨w.heap.size, 3, none⟩ = some (r) ∧ wx.cell? ⟨w.heap.size, 4, none⟩ = some (d) ∧ wx.cell? ⟨w.heap.size + 1, 0, none⟩ = some (.int .i64 H) ∧ wx.cell? ⟨w.heap.size + 1, 1, none⟩ = some (.int .i64 W) ∧ wx.cell? ⟨w.heap.size + 1, 2, none⟩ = some (t2) ∧ wx.cell? ⟨w.heap.size + 1, 3, none⟩ = some (r2) ∧ wx.cell? ⟨w.heap.size + 1, 4, none⟩ = some (d2) ∧ Kp w wx) (fun _ _ _ _ _ _ sq _ _ => n - (intOf sq).toNat)
  case atStart => exact ⟨0, by omega, rfl, by simpa using o1, sz⟩
  case round =>
    clear o1 sz
    obtain ⟨q, hq, rfl, hoR, sr⟩ := hrel
    by_cases hlt : q < n
    · have hlt' : (q : Int) < n := by omega
      obtain ⟨g, off, rfl, hc⟩ := HV.out (by omega)
      obtain ⟨x, hx⟩ : ∃ x, l[q]? = some x := ⟨l[q]'(by have := HN.out; omega), List.getElem?_eq_getElem _⟩
      have kr : Kp w wr := sr.2.2.2.2.2.2.2.2.2.2
      have a0 := kr.cell (hc q x hx)
      obtain ⟨z, rfl, hz3, hzk, hnb⟩ := HE.out q x hx
      have HO := Lib.hid hoR
      have hln : Hid (((l.take q).map (mirE W H)).length ≤ n) := Lib.hid (by simp; omega)
      have s1 : wr.drew.cell? ⟨w.heap.size, 0, none⟩ = some (.int .i64 W) ∧ wr.drew.cell? ⟨w.heap.size, 1, none⟩ = some (.int .i64 H) ∧ wr.drew.cell? ⟨w.heap.size, 2, none⟩ = some (t) ∧ wr.drew.cell? ⟨w.heap.size, 3, none⟩ = some (r) ∧ wr.drew.cell? ⟨w.heap.size, 4, none⟩ = some (d) ∧ wr.drew.cell? ⟨w.heap.size + 1, 0, none⟩ = some (.int .i64 H) ∧ wr.drew.cell? ⟨w.heap.size + 1, 1, none⟩ = some (.int .i64 W) ∧ wr.drew.cell? ⟨w.heap.size + 1, 2, none⟩ = some (t2) ∧ wr.drew.cell? ⟨w.heap.size + 1, 3, none⟩ = some (r2) ∧ wr.drew.cell? ⟨w.heap.size + 1, 4, none⟩ = some (d2) ∧ Kp w wr.drew := ⟨sr.1, sr.2.1, sr.2.2.1, sr.2.2.2.1, sr.2.2.2.2.1, sr.2.2.2.2.2.1, sr.2.2.2.2.2.2.1, sr.2.2.2.2.2.2.2.1, sr.2.2.2.2.2.2.2.2.1, sr.2.2.2.2.2.2.2.2.2.1, sr.2.2.2.2.2.2.2.2.2.2.drew⟩
      have hm0 : mirE W H (z : Int) = edgI H (mirI W H ((z : Int) / 3)) (5 - (z : Int) % 3) := rfl
      obtain ⟨me, hme⟩ : ∃ y, y = mirI W H ((z : Int) / 3) := ⟨_, rfl⟩
      rw [← hme] at hnb hm0
      have C1 : Hid (∀ w, Calls Tryd.prog 76 #[mp W H t r d, .int .i64 ((z : Int) / 3)] w fun e w' => e = .returned (.int .i64 me) ∧ Kp w w') := Lib.hid fun w => by
        rw [hme]
        exact mirrorIndex_any W H t r d _ w a b c e hz3.1 hz3.2
      obtain ⟨E, hE⟩ : ∃ y, y = mirE W H (z : Int) := ⟨_, rfl⟩
      have HS : Hid ((l.take (q + 1)).map (mirE W H) = (l.take q).map (mirE W H) ++ [E]) := Lib.hid (by rw [hE]; exact map_more (mirE W H) hx)
      have C2 : Hid (∀ w, Tab w → Calls Tryd.prog 116 #[mp H W t2 r2 d2, .int .i64 me, .int .i64 (5 - (z : Int) % 3)] w fun e w' => e = .returned (.tuple #[.int .i64 E, .bool true]) ∧ Kp w w') := Lib.hid fun w ht => by
        have := edgeNumber_any H W t2 r2 d2 me (5 - (z : Int) % 3) w c e a b ht
        rw [hnb, ← hm0, ← hE] at this
        exact this
      obtain ⟨NL, hNL⟩ : ∃ y, y = (l.take q).map (mirE W H) := ⟨_, rfl⟩
      rw [← hNL] at HS HO hln
      have hz30 : 0 ≤ (z : Int) % 3 := by omega
      have hz32 : (z : Int) % 3 ≤ 2 := by omega
      have hwr : IntKind.i64.wrap (5 - (z : Int) % 3) = 5 - (z : Int) % 3 := by simp [IntKind.wrap, IntKind.bits, IntKind.signed]; omega
      clear hc hx hoR hme hnb hm0 hE hNL
      go_wp2_with fail
      refine wp_region_held_drew (S := (fun w' => w'.cell? ⟨w.heap.size, 0, none⟩ = some (.int .i64 W) ∧ w'.cell? ⟨w.heap.size, 1, none⟩ = some (.int .i64 H) ∧ w'.cell? ⟨w.heap.size, 2, none⟩ = some (t) ∧ w'.cell? ⟨w.heap.size, 3, none⟩ = some (r) ∧ w'.cell? ⟨w.heap.size, 4, none⟩ = some (d) ∧ w'.cell? ⟨w.heap.size + 1, 0, none⟩ = some (.int .i64 H) ∧ w'.cell? ⟨w.heap.size + 1, 1, none⟩ = some (.int .i64 W) ∧ w'.cell? ⟨w.heap.size + 1, 2, none⟩ = some (t2) ∧ w'.cell? ⟨w.heap.size + 1, 3, none⟩ = some (r2) ∧ w'.cell? ⟨w.heap.size + 1, 4, none⟩ = some (d2) ∧ Kp w w')) (by kernel_rfl) ?_ (fun hHeld => ?_)
      · exact s1
      refine wpAnyH_take (i := 0) (oi := ⟨some 28, _, _, _, _, _⟩) (v := ?_) rfl (by kernel_rfl) (by kernel_rfl) (by kernel_rfl) (fun _ _ _ h => h) (Or.inl ⟨by rfl, ?_⟩) (by assumption) ?_
      rotate_left
      · intro w hSw; (try dsimp only at hSw); go_simp; (all_goals with_reducible rfl)
      simp only [Act.put, List.setIfInBounds_toArray, List.set_cons_zero, List.set_cons_succ]
      refine wpAnyH_take (i := 1) (oi := ⟨some 29, _, _, _, _, _⟩) (v := ?_) rfl (by kernel_rfl) (by kernel_rfl) (by kernel_rfl) (fun _ _ _ h => h) (Or.inl ⟨by rfl, ?_⟩) (by assumption) ?_
      rotate_left
      · intro w hSw; (try dsimp only at hSw); go_simp; (all_goals with_reducible rfl)
      simp only [Act.put, List.setIfInBounds_toArray, List.set_cons_zero, List.set_cons_succ]
      refine wpAnyH_take (i := 2) (oi := ⟨some 30, _, _, _, _, _⟩) (v := ?_) rfl (by kernel_rfl) (by kernel_rfl) (by kernel_rfl) (fun _ _ _ h => h) (Or.inl ⟨by rfl, ?_⟩) (by assumption) ?_
      rotate_left
      · intro w hSw; (try dsimp only at hSw); go_simp; (all_goals with_reducible rfl)
      simp only [Act.put, List.setIfInBounds_toArray, List.set_cons_zero, List.set_cons_succ]
      refine wpAnyH_take (i := 4) (oi := ⟨some 32, _, _, _, _, _⟩) (v := ?_) rfl (by kernel_rfl) (by kernel_rfl) (by kernel_rfl) (fun _ _ _ h => h) (Or.inl ⟨by rfl, ?_⟩) (by assumption) ?_
      rotate_left
      · intro w hSw; (try dsimp only at hSw); go_simp; (all_goals with_reducible rfl)
      simp only [Act.put, List.setIfInBounds_toArray, List.set_cons_zero, List.set_cons_succ]
      refine wpAnyH_take (i := 5) (oi := ⟨some 33, _, _, _, _, _⟩) (v := ?_) rfl (by kernel_rfl) (by kernel_rfl) (by kernel_rfl) (fun _ _ _ h => h) (Or.inl ⟨by rfl, ?_⟩) (by assumption) ?_
      rotate_left
      · intro w hSw; (try dsimp only at hSw); go_simp; (all_goals with_reducible rfl)
      simp only [Act.put, List.setIfInBounds_toArray, List.set_cons_zero, List.set_cons_succ]
      refine wpAnyH_ready (rs := [3]) (by kernel_rfl) (by simp) ?_
      refine AllReadyH.cons (o := ⟨some 31, _, _, _, _, _⟩) rfl (fun K hK => ?_) AllReadyH.nil
      go_simp
      refine (C1.out _).mono ?_; rintro e1 w1 ⟨rfl, k1⟩; have s1b : w1.cell? ⟨w.heap.size, 0, none⟩ = some (.int .i64 W) ∧ w1.cell? ⟨w.heap.size, 1, none⟩ = some (.int .i64 H) ∧ w1.cell? ⟨w.heap.size, 2, none⟩ = some (t) ∧ w1.cell? ⟨w.heap.size, 3, none⟩ = some (r) ∧ w1.cell? ⟨w.heap.size, 4, none⟩ = some (d) ∧ w1.cell? ⟨w.heap.size + 1, 0, none⟩ = some (.int .i64 H) ∧ w1.cell? ⟨w.heap.size + 1, 1, none⟩ = some (.int .i64 W) ∧ w1.cell? ⟨w.heap.size + 1, 2, none⟩ = some (t2) ∧ w1.cell? ⟨w.heap.size + 1, 3, none⟩ = some (r2) ∧ w1.cell? ⟨w.heap.size + 1, 4, none⟩ = some (d2) ∧ Kp w w1 := ⟨k1.cell s1.1, k1.cell s1.2.1, k1.cell s1.2.2.1, k1.cell s1.2.2.2.1, k1.cell s1.2.2.2.2.1, k1.cell s1.2.2.2.2.2.1, k1.cell s1.2.2.2.2.2.2.1, k1.cell s1.2.2.2.2.2.2.2.1, k1.cell s1.2.2.2.2.2.2.2.2.1, k1.cell s1.2.2.2.2.2.2.2.2.2.1, s1.2.2.2.2.2.2.2.2.2.2.trans k1⟩; have k01 := Lib.hid ((Kp.refl wr).drew.trans k1)
      go_wp2_with fail
      refine hK.out _ _ ?_ (fun hHeld => ?_)
      · (try dsimp only); (first | assumption | exact s2 | exact s1b | exact s1)
      clear hK K
      try simp only [Act.put, List.setIfInBounds_toArray, List.set_cons_zero, List.set_cons_succ]
      refine wpAnyH_ready (rs := [6]) (by kernel_rfl) (by simp) ?_
      refine AllReadyH.cons (o := ⟨some 34, _, _, _, _, _⟩) rfl (fun K hK => ?_) AllReadyH.nil
      go_simp
      refine (C2.out _ (HT.out.keep s1b.2.2.2.2.2.2.2.2.2.2)).mono ?_; rintro e2 w2 ⟨rfl, k2⟩; have s2 : w2.cell? ⟨w.heap.size, 0, none⟩ = some (.int .i64 W) ∧ w2.cell? ⟨w.heap.size, 1, none⟩ = some (.int .i64 H) ∧ w2.cell? ⟨w.heap.size, 2, none⟩ = some (t) ∧ w2.cell? ⟨w.heap.size, 3, none⟩ = some (r) ∧ w2.cell? ⟨w.heap.size, 4, none⟩ = some (d) ∧ w2.cell? ⟨w.heap.size + 1, 0, none⟩ = some (.int .i64 H) ∧ w2.cell? ⟨w.heap.size + 1, 1, none⟩ = some (.int .i64 W) ∧ w2.cell? ⟨w.heap.size + 1, 2, none⟩ = some (t2) ∧ w2.cell? ⟨w.heap.size + 1, 3, none⟩ = some (r2) ∧ w2.cell? ⟨w.heap.size + 1, 4, none⟩ = some (d2) ∧ Kp w w2 := ⟨k2.cell s1b.1, k2.cell s1b.2.1, k2.cell s1b.2.2.1, k2.cell s1b.2.2.2.1, k2.cell s1b.2.2.2.2.1, k2.cell s1b.2.2.2.2.2.1, k2.cell s1b.2.2.2.2.2.2.1, k2.cell s1b.2.2.2.2.2.2.2.1, k2.cell s1b.2.2.2.2.2.2.2.2.1, k2.cell s1b.2.2.2.2.2.2.2.2.2.1, s1b.2.2.2.2.2.2.2.2.2.2.trans k2⟩; have k02 := Lib.hid (k01.out.trans k2)
      go_wp2_with fail
      refine hK.out _ _ ?_ (fun hHeld => ?_)
      · (try dsimp only); (first | assumption | exact s2 | exact s1b | exact s1)
      clear hK K
      try simp only [Act.put, List.setIfInBounds_toArray, List.set_cons_zero, List.set_cons_succ]
      refine wpAnyH_take (i := 7) (oi := ⟨some 27, _, _, _, _, _⟩) (v := ?_) rfl (by kernel_rfl) (by kernel_rfl) (by kernel_rfl) (fun _ _ _ h => h) (Or.inl ⟨by rfl, ?_⟩) (by assumption) ?_
      rotate_left
      · intro w hSw; (try dsimp only at hSw); go_simp; (all_goals with_reducible rfl)
      simp only [Act.put, List.setIfInBounds_toArray, List.set_cons_zero, List.set_cons_succ]
      refine wpAnyH_take (i := 8) (oi := ⟨some 35, _, _, _, _, _⟩) (v := ?_) rfl (by kernel_rfl) (by kernel_rfl) (by kernel_rfl) (fun _ _ _ h => h) (Or.inl ⟨by rfl, ?_⟩) (by assumption) ?_
      rotate_left
      · intro w hSw; (try dsimp only at hSw); go_simp; (all_goals with_reducible rfl)
      simp only [Act.put, List.setIfInBounds_toArray, List.set_cons_zero, List.set_cons_succ]
      refine wpAnyH_take (i := 9) (oi := ⟨some 36, _, _, _, _, _⟩) (v := ?_) rfl (by kernel_rfl) (by kernel_rfl) (by kernel_rfl) (fun _ _ _ h => h) (Or.inl ⟨by rfl, ?_⟩) (by assumption) ?_
      rotate_left
      · intro w hSw; (try dsimp only at hSw); go_simp; (all_goals with_reducible rfl)
      simp only [Act.put, List.setIfInBounds_toArray, List.set_cons_zero, List.set_cons_succ]
      refine wpAnyH_take (i := 10) (oi := ⟨some 12, _, _, _, _, _⟩) (v := ?_) rfl (by kernel_rfl) (by kernel_rfl) (by kernel_rfl) (fun _ _ _ h => h) (Or.inl ⟨by rfl, ?_⟩) (by assumption) ?_
      rotate_left
      · intro w hSw; (try dsimp only at hSw); go_simp; (all_goals with_reducible rfl)
      simp only [Act.put, List.setIfInBounds_toArray, List.set_cons_zero, List.set_cons_succ]
      refine wpAnyH_take (i := 11) (oi := ⟨some 13, _, _, _, _, _⟩) (v := ?_) rfl (by kernel_rfl) (by kernel_rfl) (by kernel_rfl) (fun _ _ _ h => h) (Or.inl ⟨by rfl, ?_⟩) (by assumption) ?_
      rotate_left
      · intro w hSw; (try dsimp only at hSw); go_simp; (all_goals with_reducible rfl)
      simp only [Act.put, List.setIfInBounds_toArray, List.set_cons_zero, List.set_cons_succ]
      refine wpAnyH_done (by kernel_rfl) ?_ _
      have HO2 := Lib.hid (HO.out.keep k02.out)
      have n0 := Lib.hid (HO2.out.not (g := w.heap.size) (by omega))
      have n1 := Lib.hid (HO2.out.not (g := w.heap.size + 1) (by omega))
      have hbz := cell_lt s2.2.2.2.2.2.1
      clear s1 s1b k01 k02 sr kr HO
      go_wp2_with (at_builtin; refine wpList_append_own_at _ rfl (.tmp 37) (.tmp 39) 40 rfl (w.heap.size + 2) 3 j0 (.int .i64 0) 1 8 Tryd.underlying40 hj0 hz0 hs0 hb0 rfl (by decide) _ (NL).length (cellsI (NL)) rfl (World.ownsRow.alloc HO2.out _) ⟨w2.heap.size, 0, none⟩ 1 1 [.int .i64 E] rfl rfl (one_cell _ _ _) (by simp [Value.oneCell']) (by have := hln.out; simp only [maxLen]; omega) (by have := hln.out; omega) (by simp; omega) ?_; intro v' w3 hown2 hgrow2 hnil2 hat2; clear hnil2 hat2; have s5 : w3.cell? ⟨w.heap.size, 0, none⟩ = some (.int .i64 W) ∧ w3.cell? ⟨w.heap.size, 1, none⟩ = some (.int .i64 H) ∧ w3.cell? ⟨w.heap.size, 2, none⟩ = some (t) ∧ w3.cell? ⟨w.heap.size, 3, none⟩ = some (r) ∧ w3.cell? ⟨w.heap.size, 4, none⟩ = some (d) ∧ w3.cell? ⟨w.heap.size + 1, 0, none⟩ = some (.int .i64 H) ∧ w3.cell? ⟨w.heap.size + 1, 1, none⟩ = some (.int .i64 W) ∧ w3.cell? ⟨w.heap.size + 1, 2, none⟩ = some (t2) ∧ w3.cell? ⟨w.heap.size + 1, 3, none⟩ = some (r2) ∧ w3.cell? ⟨w.heap.size + 1, 4, none⟩ = some (d2) ∧ Kp w w3 := ⟨hgrow2.cell (((Kp.refl w2).alloc (.cells #[.int .i64 E] 3)).cell s2.1) (fun e => n0.out e.symm), hgrow2.cell (((Kp.refl w2).alloc (.cells #[.int .i64 E] 3)).cell s2.2.1) (fun e => n0.out e.symm), hgrow2.cell (((Kp.refl w2).alloc (.cells #[.int .i64 E] 3)).cell s2.2.2.1) (fun e => n0.out e.symm), hgrow2.cell (((Kp.refl w2).alloc (.cells #[.int .i64 E] 3)).cell s2.2.2.2.1) (fun e => n0.out e.symm), hgrow2.cell (((Kp.refl w2).alloc (.cells #[.int .i64 E] 3)).cell s2.2.2.2.2.1) (fun e => n0.out e.symm), hgrow2.cell (((Kp.refl w2).alloc (.cells #[.int .i64 E] 3)).cell s2.2.2.2.2.2.1) (fun e => n1.out e.symm), hgrow2.cell (((Kp.refl w2).alloc (.cells #[.int .i64 E] 3)).cell s2.2.2.2.2.2.2.1) (fun e => n1.out e.symm), hgrow2.cell (((Kp.refl w2).alloc (.cells #[.int .i64 E] 3)).cell s2.2.2.2.2.2.2.2.1) (fun e => n1.out e.symm), hgrow2.cell (((Kp.refl w2).alloc (.cells #[.int .i64 E] 3)).cell s2.2.2.2.2.2.2.2.2.1) (fun e => n1.out e.symm), hgrow2.cell (((Kp.refl w2).alloc (.cells #[.int .i64 E] 3)).cell s2.2.2.2.2.2.2.2.2.2.1) (fun e => n1.out e.symm), (s2.2.2.2.2.2.2.2.2.2.2.alloc _).grown hgrow2 (fun k e => by have := (World.ownsRow.lt HO2.out k e).1; omega)⟩; have O3 := Lib.hid (OwnI.snoc (x := E) hown2); clear hown2 hgrow2)
      go_roundw
      case rel => exact ⟨q + 1, by omega, by go_num, by rw [HS.out]; exact O3.out, s5⟩
      case measure => simp [intOf]; omega
    · obtain rfl : q = n := by omega
      have et : l.take q = l := List.take_of_length_le (by have := HN.out; omega)
      rw [et] at hoR
      have HO := Lib.hid hoR
      have hlm : (l.map (mirE W H)).length ≤ 1048576 := by have := HN.out; simp; omega
      clear hoR
      go_wp2_with fail
      refine (sort_own _ (l.map (mirE W H)) (w.heap.size + 2) _ HO.out hlm).mono ?_
      rintro e3 w3 ⟨rfl, o3, g3⟩
      have K3 : Kp w w3 := sr.2.2.2.2.2.2.2.2.2.2.grown g3 (fun k e => by have := (World.ownsRow.lt HO.out k e).1; omega)
      have O3 := Lib.hid o3
      clear o3 g3
      go_wp2_with fail
      go_ret
      exact ⟨_, rfl, O3.out, K3⟩

end Go.Proofs.YtcdfbcmfpeceeaaDoor
