/-
  The hexes near a place of a map: the reference's list, and both functions at whatever arguments. Nothing that was there is changed. The table of directions holds what the program's text lays.
-/
import Derived.Test.YtpfnljhnjembpaaDoorNearOnF
namespace Go.Proofs.YtpfnljhnjembpaaDoor
open Go.RowKit

def NewPostI (l : List Int) (w : World) (e : Ending) (w' : World) : Prop := ∃ v, e = .returned v ∧ OwnI w' w.heap.size v l ∧ Kp w w'

set_option maxRecDepth 100000 in
set_option maxHeartbeats 4000000 in
theorem mNear_any (W H : Int) (t r d : Value) (i rad : Int) (w : World) (a : 1 ≤ W) (b : W ≤ 10) (c : 1 ≤ H) (e : H ≤ 10) (i0 : 0 ≤ i) (i1 : i < W * H) :
    Calls Tryd.prog 68 #[mp W H t r d, .int .i64 i, .int .i64 rad] w (NewPostI (nearF W (i % W) (i / W) rad (W * H).toNat) w) := by
  have hA := area_bd a b c e
  have hh := hex_bd a b i0 i1
  have s0 := new5 w (.int .i64 W) (.int .i64 H) t r d 27
  obtain ⟨N, hN⟩ : ∃ N : Nat, (N : Int) = W * H := ⟨(W * H).toNat, by omega⟩
  have hNn : (W * H).toNat = N := by omega
  rw [hNn]
  have CC : Hid (∀ w, Calls Tryd.prog 74 #[mp W H t r d] w fun e w' => e = .returned (.int .i64 N) ∧ Kp w w') := Lib.hid fun w => by
    rw [hN]
    exact mSize_any W H t r d w a b c e
  obtain ⟨j0, hj0, hz0, hs0, hb0⟩ := info_parts infoInt
  have hN1 : N ≤ 100 := by omega
  have hi1 : i ≤ 100 := by omega
  have hk : ∀ k : Nat, k < N → 0 ≤ (k : Int) % W ∧ (k : Int) % W < W ∧ 0 ≤ (k : Int) / W ∧ (k : Int) / W < H := fun k hk => hex_bd a b (by omega) (by omega)
  have HK := Lib.hid hk
  clear hN hNn hk hA i1
  go_enter Tryd.func68, Tryd.ntmps68
  go_wp2_with fail
  go_loopw [7, 8] (fun v s8 wx => ∃ k : Nat, k ≤ N ∧ s8 = .int .i64 k ∧ OwnI wx (w.heap.size + 1) v (nearF W (i % W) (i / W) rad k) ∧
    (wx.cell? ⟨w.heap.size, 0, none⟩ = some (.int .i64 W) ∧ wx.cell? ⟨w.heap.size, 1, none⟩ = some (.int .i64 H) ∧ wx.cell? ⟨w.heap.size, 2, none⟩ = some t ∧ wx.cell? ⟨w.heap.size, 3, none⟩ = some r ∧ wx.cell? ⟨w.heap.size, 4, none⟩ = some d ∧ Kp w wx)) (fun _ s8 _ => N - (intOf s8).toNat)
  case atStart => exact ⟨0, by omega, rfl, OwnI.nil _ _, s0⟩
  case round =>
    clear s0
    obtain ⟨k, hkN, rfl, hoR, sr⟩ := hrel
    by_cases hlt : k < N
    · have hlt' : (k : Int) < N := by omega
      have hkb := HK.out k hlt
      have HO := Lib.hid hoR
      clear hoR
      go_wp2_with fail
      refine (CC.out _).mono ?_
      rintro e2 wt ⟨rfl, kt⟩
      have st := keep5 kt sr
      have HO1 := Lib.hid (HO.out.keep kt)
      have Kt : Kp w wt := st.2.2.2.2.2
      have sd : wt.drew.cell? ⟨w.heap.size, 0, none⟩ = some (.int .i64 W) ∧ wt.drew.cell? ⟨w.heap.size, 1, none⟩ = some (.int .i64 H) ∧ wt.drew.cell? ⟨w.heap.size, 2, none⟩ = some t ∧ wt.drew.cell? ⟨w.heap.size, 3, none⟩ = some r ∧ wt.drew.cell? ⟨w.heap.size, 4, none⟩ = some d ∧ Kp wt wt.drew :=
        ⟨st.1, st.2.1, st.2.2.1, st.2.2.2.1, st.2.2.2.2.1, (Kp.refl wt).drew⟩
      have blt : w.heap.size < wt.heap.size := cell_lt st.1
      clear sr HO
      cases hnr : nrB W (i % W) (i / W) rad k
      · have HS : Hid (nearF W (i % W) (i / W) rad (k + 1) = nearF W (i % W) (i / W) rad k) := Lib.hid (by rw [nearF, hnr]; simp)
        have hd : decide (distH (i % W) (i / W) ((k : Int) % W) ((k : Int) / W) ≤ rad) = false := hnr
        clear hnr
        go_wp2_with fail
        go_region_held3 (fun w' => w'.cell? ⟨w.heap.size, 0, none⟩ = some (.int .i64 W) ∧ w'.cell? ⟨w.heap.size, 1, none⟩ = some (.int .i64 H) ∧ w'.cell? ⟨w.heap.size, 2, none⟩ = some t ∧ w'.cell? ⟨w.heap.size, 3, none⟩ = some r ∧ w'.cell? ⟨w.heap.size, 4, none⟩ = some d ∧ Kp wt w') (first | assumption | exact sd)
          (first
            | (go_at_call_of 54 i; refine (mHex_any _ _ _ _ _ _ _ a b i0 (by omega)).mono ?_; rintro e3 wa ⟨rfl, ka⟩; have sa := keep5 ka sd)
            | (go_at_call 54; refine (mHex_any _ _ _ _ _ _ _ a b (by omega) (by omega)).mono ?_; rintro e4 wb ⟨rfl, kb⟩; have sb := keep5 kb sa)
            | (go_at_call 82; refine (hDistance_any _ _ _ _ _ (by omega) (by omega) (by omega) (by omega) (by omega) (by omega) (by omega) (by omega)).mono ?_; rintro e5 wc ⟨rfl, kc⟩; have sc := keep5 kc sb))
        have Kc : Kp wt wc := sc.2.2.2.2.2
        clear sd sa sb
        go_wp2_with fail
        go_roundw
        case rel => exact ⟨k + 1, by omega, by go_num, by rw [HS.out]; exact HO1.out.keep Kc, ⟨sc.1, sc.2.1, sc.2.2.1, sc.2.2.2.1, sc.2.2.2.2.1, Kt.trans Kc⟩⟩
        case measure => simp [intOf]; omega
      · have HS : Hid (nearF W (i % W) (i / W) rad (k + 1) = nearF W (i % W) (i / W) rad k ++ [(k : Int)]) := Lib.hid (by rw [nearF, hnr]; simp)
        have hd : distH (i % W) (i / W) ((k : Int) % W) ((k : Int) / W) ≤ rad := of_decide_eq_true hnr
        have hln := Lib.hid (nearF_len W (i % W) (i / W) rad k)
        clear hnr
        go_wp2_with fail
        go_region_held3 (fun w' => w'.cell? ⟨w.heap.size, 0, none⟩ = some (.int .i64 W) ∧ w'.cell? ⟨w.heap.size, 1, none⟩ = some (.int .i64 H) ∧ w'.cell? ⟨w.heap.size, 2, none⟩ = some t ∧ w'.cell? ⟨w.heap.size, 3, none⟩ = some r ∧ w'.cell? ⟨w.heap.size, 4, none⟩ = some d ∧ Kp wt w') (first | assumption | exact sd)
          (first
            | (go_at_call_of 54 i; refine (mHex_any _ _ _ _ _ _ _ a b i0 (by omega)).mono ?_; rintro e3 wa ⟨rfl, ka⟩; have sa := keep5 ka sd)
            | (go_at_call 54; refine (mHex_any _ _ _ _ _ _ _ a b (by omega) (by omega)).mono ?_; rintro e4 wb ⟨rfl, kb⟩; have sb := keep5 kb sa)
            | (go_at_call 82; refine (hDistance_any _ _ _ _ _ (by omega) (by omega) (by omega) (by omega) (by omega) (by omega) (by omega) (by omega)).mono ?_; rintro e5 wc ⟨rfl, kc⟩; have sc := keep5 kc sb))
        have Kc : Kp wt wc := sc.2.2.2.2.2
        have O1 := Lib.hid (HO1.out.keep Kc)
        have hcs := Kc.size
        have s3 : wc.cell? ⟨w.heap.size, 0, none⟩ = some (.int .i64 W) ∧ wc.cell? ⟨w.heap.size, 1, none⟩ = some (.int .i64 H) ∧ wc.cell? ⟨w.heap.size, 2, none⟩ = some t ∧ wc.cell? ⟨w.heap.size, 3, none⟩ = some r ∧ wc.cell? ⟨w.heap.size, 4, none⟩ = some d ∧ Kp w wc :=
          ⟨sc.1, sc.2.1, sc.2.2.1, sc.2.2.2.1, sc.2.2.2.2.1, Kt.trans Kc⟩
        have n1 := Lib.hid (O1.out.not (g := w.heap.size) (by omega))
        clear sd sa sb sc st
        go_wp2_with (at_builtin; refine wpList_append_own_at _ rfl (.tmp 24) (.tmp 26) 22 rfl (w.heap.size + 1) 3 j0 (.int .i64 0) 1 8 Tryd.underlying22 hj0 hz0 hs0 hb0 rfl (by decide) _ (nearF W (i % W) (i / W) rad k).length (cellsI (nearF W (i % W) (i / W) rad k)) rfl (World.ownsRow.alloc O1.out _) ⟨wc.heap.size, 0, none⟩ 1 1 [.int .i64 k] rfl rfl (one_cell _ _ _) (by simp [Value.oneCell']) (by have := hln.out; simp only [maxLen]; omega) (by have := hln.out; omega) (by simp; omega) ?_; intro v' w3 hown2 hgrow2 hnil2 hat2; clear hnil2 hat2; have s4 := keep5 ((Kp.refl wc).alloc (.cells #[.int .i64 k] 3)) s3; have s5 := grow5 hgrow2 (fun e => n1.out e.symm) (fun k e => by have := (World.ownsRow.lt O1.out k e).1; omega) s4; have O3 := Lib.hid (OwnI.snoc (x := k) hown2); clear hown2 hgrow2 s3 s4)
        go_roundw
        case rel => exact ⟨k + 1, by omega, by go_num, by rw [HS.out]; exact O3.out, s5⟩
        case measure => simp [intOf]; omega
    · obtain rfl : k = N := by omega
      have HO := Lib.hid hoR
      clear hoR
      go_wp2_with fail
      refine (CC.out _).mono ?_
      rintro e2 wt ⟨rfl, kt⟩
      have st := keep5 kt sr
      have HO1 := Lib.hid (HO.out.keep kt)
      clear sr HO
      go_wp2_with fail
      go_ret
      exact ⟨_, rfl, HO1.out.base (by omega), st.2.2.2.2.2⟩

def nearOk (W H : Int) (lt lr ld : List Int) (i rad : Int) : Bool := (mapOk W H lt lr ld && onI W H i) && (decide (0 ≤ rad) && decide (rad ≤ 20))

theorem specNearOn_any (W H : Int) (t r d : Value) (lt lr ld : List Int) (i rad : Int) (w : World) (hL : Lists w t r d lt lr ld) :
    Calls Tryd.prog 34 #[mp W H t r d, .int .i64 i, .int .i64 rad] w (ListPostI (nearOk W H lt lr ld i rad) (nearF W (i % W) (i / W) rad (W * H).toNat) w) := by
  have HL := Lib.hid hL
  clear hL
  have s0 := new5 w (.int .i64 W) (.int .i64 H) t r d 27
  cases hp : mapOk W H lt lr ld && onI W H i
  · have e0 : nearOk W H lt lr ld i rad = false := by simp only [nearOk, hp, Bool.false_and]
    rw [e0]
    have HP := Lib.hid hp
    clear hp e0
    go_enter Tryd.func34, Tryd.ntmps34
    go_wp2_with fail
    refine (mOn_any _ _ _ _ _ lt lr ld _ _ (HL.out.keep s0.2.2.2.2.2)).mono ?_
    rintro e1 w1 ⟨rfl, k1⟩
    rw [HP.out]
    go_wp2_with fail
    go_ret2
    exact ListPostI.no (s0.2.2.2.2.2.trans k1)
  · have hs : mapOk W H lt lr ld = true ∧ onI W H i = true := by simpa using hp
    have HP := Lib.hid hp
    obtain ⟨hm, ho⟩ := hs
    obtain ⟨a, b, c, e⟩ := mapOk_side hm
    obtain ⟨i0, i1⟩ := onI_true ho
    cases hr : decide (0 ≤ rad) && decide (rad ≤ 20)
    · have e0 : nearOk W H lt lr ld i rad = false := by simp only [nearOk, hr, Bool.and_false]
      rw [e0]
      have HR := Lib.hid hr
      clear hp e0 hm ho hr
      go_enter Tryd.func34, Tryd.ntmps34
      go_wp2_with fail
      refine (mOn_any _ _ _ _ _ lt lr ld _ _ (HL.out.keep s0.2.2.2.2.2)).mono ?_
      rintro e1 w1 ⟨rfl, k1⟩
      rw [HP.out]
      go_wp2_with fail
      refine (l1In_gen _ _ _ _).mono ?_
      rintro e2 w2 ⟨rfl, rfl⟩
      rw [HR.out]
      go_wp2_with fail
      go_ret2
      exact ListPostI.no (s0.2.2.2.2.2.trans k1)
    · have e0 : nearOk W H lt lr ld i rad = true := by simp only [nearOk, hp, hr, Bool.and_self]
      rw [e0]
      have HR := Lib.hid hr
      generalize hl : nearF W (i % W) (i / W) rad (W * H).toNat = L
      have HN : Hid (∀ w, Calls Tryd.prog 68 #[mp W H t r d, .int .i64 i, .int .i64 rad] w (NewPostI L w)) := Lib.hid fun w => by
        rw [← hl]
        exact mNear_any W H t r d i rad w a b c e i0 i1
      unfold NewPostI at HN
      clear hp e0 hm ho hl hr
      go_enter Tryd.func34, Tryd.ntmps34
      go_wp2_with fail
      refine (mOn_any _ _ _ _ _ lt lr ld _ _ (HL.out.keep s0.2.2.2.2.2)).mono ?_
      rintro e1 w1 ⟨rfl, k1⟩
      have s1 := keep5 k1 s0
      have hz : w.heap.size ≤ w1.heap.size := s1.2.2.2.2.2.size
      clear s0 k1
      rw [HP.out]
      go_wp2_with fail
      refine (l1In_gen _ _ _ _).mono ?_
      rintro e2 w2 ⟨rfl, rfl⟩
      rw [HR.out]
      go_wp2_with fail
      refine (HN.out _).mono ?_
      rintro e3 w3 ⟨v, rfl, o3, k3⟩
      go_wp2_with fail
      go_ret2
      exact ⟨_, rfl, o3.base hz, s1.2.2.2.2.2.trans k3⟩

theorem nearOn_any (W H : Int) (t r d : Value) (lt lr ld : List Int) (i rad : Int) (w : World) (ht : Tab w) (hL : Lists w t r d lt lr ld) :
    Calls Tryd.prog 35 #[mp W H t r d, .int .i64 i, .int .i64 rad] w (ListPostI (nearOk W H lt lr ld i rad) (nearF W (i % W) (i / W) rad (W * H).toNat) w) := by
  cases hp : mapOk W H lt lr ld && onI W H i
  · have e0 : nearOk W H lt lr ld i rad = false := by simp only [nearOk, hp, Bool.false_and]
    rw [e0]
    have s0 := new5 w (.int .i64 W) (.int .i64 H) t r d 27
    have HC : Hid (Calls Tryd.prog 22 #[mp W H t r d, .int .i64 i] (w.alloc (.cells #[.int .i64 W, .int .i64 H, t, r, d] 27)) fun e w' => e = .returned (.tuple #[hx 0 0, .bool false]) ∧ Kp (w.alloc (.cells #[.int .i64 W, .int .i64 H, t, r, d] 27)) w') := Lib.hid (by
      have := hexAt_any W H t r d lt lr ld i _ (ht.k5 s0) (hL.keep s0.2.2.2.2.2)
      rw [hp] at this
      exact this)
    clear ht hL hp e0
    go_enter Tryd.func35, Tryd.ntmps35
    go_wp2_with fail
    refine HC.out.mono ?_
    rintro e1 w1 ⟨rfl, k1⟩
    go_wp2_with fail
    go_ret2
    exact ListPostI.no ((s0.2.2.2.2.2.trans k1).alloc _)
  · have hs : mapOk W H lt lr ld = true ∧ onI W H i = true := by simpa using hp
    obtain ⟨hm, ho⟩ := hs
    by_cases hr : 0 ≤ rad ∧ rad ≤ 20
    · have e0 : nearOk W H lt lr ld i rad = true := by simp [nearOk, hm, ho, hr]
      rw [e0]
      exact nearOn_yes W H t r d lt lr ld i rad w ht hL hm ho hr.1 hr.2
    · have e0 : nearOk W H lt lr ld i rad = false := by simp [nearOk, hm, ho]; omega
      rw [e0]
      have s0 := new5 w (.int .i64 W) (.int .i64 H) t r d 27
      obtain ⟨X, hX⟩ : ∃ X, i % W = X := ⟨_, rfl⟩
      obtain ⟨Y, hY⟩ : ∃ Y, i / W = Y := ⟨_, rfl⟩
      have HC : Hid (Calls Tryd.prog 22 #[mp W H t r d, .int .i64 i] (w.alloc (.cells #[.int .i64 W, .int .i64 H, t, r, d] 27)) fun e w' => e = .returned (.tuple #[hx X Y, .bool true]) ∧ Kp (w.alloc (.cells #[.int .i64 W, .int .i64 H, t, r, d] 27)) w') := Lib.hid (by
        have := hexAt_any W H t r d lt lr ld i _ (ht.k5 s0) (hL.keep s0.2.2.2.2.2)
        rw [hp, hX, hY] at this
        exact this)
      generalize nearF W (i % W) (i / W) rad (W * H).toNat = L
      clear ht hL hp e0 hm ho hX hY
      by_cases r0 : 0 ≤ rad
      · have r1 : 20 < rad := by omega
        clear hr
        go_enter Tryd.func35, Tryd.ntmps35
        go_wp2_with fail
        refine HC.out.mono ?_
        rintro e1 w1 ⟨rfl, k1⟩
        go_wp2_with fail
        go_ret2
        exact ListPostI.no ((s0.2.2.2.2.2.trans k1).alloc _)
      · have r1 : rad < 0 := by omega
        clear hr r0
        go_enter Tryd.func35, Tryd.ntmps35
        go_wp2_with fail
        refine HC.out.mono ?_
        rintro e1 w1 ⟨rfl, k1⟩
        go_wp2_with fail
        go_ret2
        exact ListPostI.no ((s0.2.2.2.2.2.trans k1).alloc _)

end Go.Proofs.YtpfnljhnjembpaaDoor
