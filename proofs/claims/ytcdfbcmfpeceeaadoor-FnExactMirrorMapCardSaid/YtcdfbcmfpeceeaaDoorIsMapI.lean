/-
  The program's test of a map returns what a plain function on lists says, and changes nothing that was there. The table of directions holds what the program's text lays.
-/
import Derived.Test.YtcdfbcmfpeceeaaDoorMapK
namespace Go.Proofs.YtcdfbcmfpeceeaaDoor
open Go.RowKit

theorem drew5 {W0 w : World} {b : Nat} {v0 v1 v2 v3 v4 : Value}
    (h : w.cell? ⟨b, 0, none⟩ = some v0 ∧ w.cell? ⟨b, 1, none⟩ = some v1 ∧ w.cell? ⟨b, 2, none⟩ = some v2 ∧ w.cell? ⟨b, 3, none⟩ = some v3 ∧ w.cell? ⟨b, 4, none⟩ = some v4 ∧ Kp W0 w) :
    w.drew.cell? ⟨b, 0, none⟩ = some v0 ∧ w.drew.cell? ⟨b, 1, none⟩ = some v1 ∧ w.drew.cell? ⟨b, 2, none⟩ = some v2 ∧ w.drew.cell? ⟨b, 3, none⟩ = some v3 ∧ w.drew.cell? ⟨b, 4, none⟩ = some v4 ∧ Kp W0 w.drew :=
  ⟨h.1, h.2.1, h.2.2.1, h.2.2.2.1, h.2.2.2.2.1, h.2.2.2.2.2.drew⟩

theorem isSide_q (n : Int) (w : World) : Calls Tryd.prog 111 #[.int .i64 n] w fun e w' => e = .returned (.bool (sideB n)) ∧ w' = w :=
  (isSide_any n w).mono fun _ _ ⟨he, hw⟩ => ⟨he, hw.symm⟩

theorem isMap_no1 (W H : Int) (At : Option Addr) (nt ct : Nat) (r d : Value) (w : World) (h : sideB W = false) :
    Calls Tryd.prog 74 #[mp W H (.slice At nt ct) r d] w fun e w' => e = .returned (.bool false) ∧ Kp w w' := by
  go_enter Tryd.func74, Tryd.ntmps74
  go_wp2_with fail
  go_quiet ((go_at_call 111; exact Calls.quiet_of_same (isSide_q _ _)))
  go_wp2_with fail
  go_ret
  exact ⟨rfl, ((Kp.refl _).alloc _).drewN _⟩

theorem isMap_no2 (W H : Int) (At : Option Addr) (nt ct : Nat) (r d : Value) (w : World) (h : sideB W = true) (h' : sideB H = false) :
    Calls Tryd.prog 74 #[mp W H (.slice At nt ct) r d] w fun e w' => e = .returned (.bool false) ∧ Kp w w' := by
  go_enter Tryd.func74, Tryd.ntmps74
  go_wp2_with fail
  go_quiet ((go_at_call 111; exact Calls.quiet_of_same (isSide_q _ _)))
  go_wp2_with fail
  go_ret
  exact ⟨rfl, ((Kp.refl _).alloc _).drewN _⟩

set_option maxHeartbeats 2000000 in
theorem isMap_no3 (W H : Int) (At : Option Addr) (nt ct : Nat) (r d : Value) (w : World) (h : sideB W = true) (h' : sideB H = true) (hn : ¬ (nt : Int) = W * H) :
    Calls Tryd.prog 74 #[mp W H (.slice At nt ct) r d] w fun e w' => e = .returned (.bool false) ∧ Kp w w' := by
  have s0 := new5 w (.int .i64 W) (.int .i64 H) (.slice At nt ct) r d 44
  obtain ⟨a, b⟩ := sideB_true h
  obtain ⟨c, e⟩ := sideB_true h'
  have hne : ((nt : Int) != W * H) = true := by simpa using hn
  go_enter Tryd.func74, Tryd.ntmps74
  go_wp2_with fail
  generalize w.alloc (.cells #[.int .i64 W, .int .i64 H, .slice At nt ct, r, d] 44) = W0 at *
  have s1 := drew5 s0
  go_region_held3 (fun w' => w'.cell? ⟨w.heap.size, 0, none⟩ = some (.int .i64 W) ∧ w'.cell? ⟨w.heap.size, 1, none⟩ = some (.int .i64 H) ∧ w'.cell? ⟨w.heap.size, 2, none⟩ = some (.slice At nt ct) ∧ w'.cell? ⟨w.heap.size, 3, none⟩ = some r ∧ w'.cell? ⟨w.heap.size, 4, none⟩ = some d ∧ Kp w w') (first | assumption | exact s1)
    (first
      | (go_at_call 111; refine (isSide_any _ _).mono ?_; rintro e wz ⟨rfl, rfl⟩)
      | (go_at_call 75; refine (countHexes_any _ _ _ _ _ _ a b c e).mono ?_; rintro e2 wz ⟨rfl, kz⟩; have sz := keep5 kz (by assumption)))
  all_goals
    go_wp2_with fail
    go_ret
    exact ⟨rfl, sz.2.2.2.2.2⟩

set_option maxHeartbeats 4000000 in
theorem isMap_yes (W H : Int) (t r d : Value) (lt lr ld : List Int) (w : World) (ht : Tab w) (hL : Lists w t r d lt lr ld) (h : sideB W = true) (h' : sideB H = true) (hn : (lt.length : Int) = W * H) :
    Calls Tryd.prog 74 #[mp W H t r d] w fun e w' => e = .returned (.bool (lt.all terrB && (edgesOk W H lr && edgesOk W H ld))) ∧ Kp w w' := by
  obtain ⟨a, b⟩ := sideB_true h
  obtain ⟨c, e⟩ := sideB_true h'
  have hA := area_bd a b c e
  have HL := Lib.hid hL
  have HT := Lib.hid ht
  obtain ⟨At, ct, rfl, HAt⟩ := hL.rt
  obtain ⟨Ar, cr, rfl, _⟩ := hL.rr
  obtain ⟨Ad, cd, rfl, _⟩ := hL.rd
  have HA := Lib.hid HAt
  have h1048 := hL.bt
  obtain ⟨R, hR⟩ : ∃ R, R = lt.all terrB := ⟨_, rfl⟩
  obtain ⟨R1, hR1⟩ : ∃ R, R = edgesOk W H lr := ⟨_, rfl⟩
  obtain ⟨R2, hR2⟩ : ∃ R, R = edgesOk W H ld := ⟨_, rfl⟩
  rw [← hR, ← hR1, ← hR2]
  have HR := Lib.hid hR
  have HR1 := Lib.hid hR1
  have HR2 := Lib.hid hR2
  have hne : ((lt.length : Int) != W * H) = false := by simpa using hn
  clear HAt hL ht hn hR hR1 hR2
  generalize hn : lt.length = nt at *
  have HN := Lib.hid hn
  clear hn
  generalize lr.length = nr at *
  generalize ld.length = nd at *
  have s0 := new5 w (.int .i64 W) (.int .i64 H) (.slice At nt ct) (.slice Ar nr cr) (.slice Ad nd cd) 44
  go_enter Tryd.func74, Tryd.ntmps74
  go_wp2_with fail
  generalize w.alloc (.cells #[.int .i64 W, .int .i64 H, .slice At nt ct, .slice Ar nr cr, .slice Ad nd cd] 44) = W0 at *
  have s1 := drew5 s0
  go_region_held3 (fun w' => w'.cell? ⟨w.heap.size, 0, none⟩ = some (.int .i64 W) ∧ w'.cell? ⟨w.heap.size, 1, none⟩ = some (.int .i64 H) ∧ w'.cell? ⟨w.heap.size, 2, none⟩ = some (.slice At nt ct) ∧ w'.cell? ⟨w.heap.size, 3, none⟩ = some (.slice Ar nr cr) ∧ w'.cell? ⟨w.heap.size, 4, none⟩ = some (.slice Ad nd cd) ∧ Kp w w') (first | assumption | exact s1)
    (first
      | (go_at_call 111; refine (isSide_any _ _).mono ?_; rintro e wz ⟨rfl, rfl⟩)
      | (go_at_call 75; refine (countHexes_any _ _ _ _ _ _ a b c e).mono ?_; rintro e2 wz ⟨rfl, kz⟩; have sz := keep5 kz (by assumption)))
  clear s0 s1 hne
  go_wp2_with fail
  go_loop [4, 28] (fun _ i => ∃ k : Nat, k ≤ nt ∧ i = .int .i64 k ∧ Hid ((lt.drop k).all terrB = R)) (fun _ i => nt - (intOf i).toNat)
  case atStart => exact ⟨0, by omega, rfl, Lib.hid HR.out.symm⟩
  case round =>
    obtain ⟨k, hk, rfl, hE⟩ := hrel
    by_cases hlt : k < nt
    · obtain ⟨g, off, rfl, hc⟩ := HA.out (by omega)
      obtain ⟨x, hx⟩ : ∃ x, lt[k]? = some x := ⟨lt[k]'(by have := HN.out; omega), List.getElem?_eq_getElem _⟩
      have a0 := sz.2.2.2.2.2.cell (hc k x hx)
      have HX := Lib.hid (drop_step hx)
      clear hc hx
      have hlt' : (k : Int) < nt := by omega
      cases hok : terrB x
      · go_wp2_with fail
        refine (isTerrain_any _ _).mono ?_
        rintro e1 wy ⟨rfl, rfl⟩
        go_wp2_with fail
        go_ret
        have e : R = false := by rw [← hE.out, HX.out]; exact all_no hok
        exact ⟨ret_bool (by rw [e]; rfl), sz.2.2.2.2.2⟩
      · have HE2 : Hid ((lt.drop (k + 1)).all terrB = R) := Lib.hid (by rw [← hE.out, HX.out]; exact (all_go hok).symm)
        go_wp2_with fail
        refine (isTerrain_any _ _).mono ?_
        rintro e1 wy ⟨rfl, rfl⟩
        go_wp2_with fail
        go_round
        case rel => exact ⟨k + 1, by omega, by go_num, HE2⟩
        case measure => simp [intOf]; omega
    · obtain rfl : k = nt := by omega
      have hRt : R = true := by
        rw [← hE.out, List.drop_of_length_le (by rw [HN.out]; omega)]
        rfl
      have i0 := index0 (.slice Ar nr cr) (.slice Ad nd cd)
      have i1 := index1 (.slice Ar nr cr) (.slice Ad nd cd)
      subst hRt
      go_wp2_with fail
      refine (edgeListsOf_any _ _ _ _ _ _ _ _ _ _).mono ?_
      rintro e1 wy ⟨rfl, ky⟩
      have sy := keep5 ky sz
      clear sz ky
      go_wp2_with fail
      go_loopw [6, 38] (fun _ i wr => ∃ j : Nat, j ≤ 2 ∧ i = .int .i64 j ∧ Hid ((1 ≤ j → R1 = true) ∧ (2 ≤ j → R2 = true)) ∧
        (wr.cell? ⟨w.heap.size, 0, none⟩ = some (.int .i64 W) ∧ wr.cell? ⟨w.heap.size, 1, none⟩ = some (.int .i64 H) ∧ wr.cell? ⟨w.heap.size, 2, none⟩ = some (.slice At k ct) ∧ wr.cell? ⟨w.heap.size, 3, none⟩ = some (.slice Ar nr cr) ∧ wr.cell? ⟨w.heap.size, 4, none⟩ = some (.slice Ad nd cd) ∧ Kp w wr)) (fun _ i _ => 2 - (intOf i).toNat)
      case atStart => exact ⟨0, by omega, rfl, Lib.hid ⟨fun h => absurd h (by omega), fun h => absurd h (by omega)⟩, sy⟩
      case round =>
        clear sy
        obtain ⟨j, hj, rfl, hJ, sr⟩ := hrel
        match j, hj with
        | 0, _ =>
          have HLr := Lib.hid (HL.out.keep sr.2.2.2.2.2)
          cases hr1 : R1
          · have HZ : Hid (edgesOk W H lr = false) := Lib.hid (by rw [← HR1.out, hr1])
            go_wp2_with fail
            refine (areEdges_any _ _ _ _ _ _ lr _ a b c e (HT.out.k5 sr) HLr.out.rr HLr.out.ir HLr.out.br).mono ?_
            rintro e1 wx ⟨rfl, kx⟩
            rw [HZ.out]
            go_wp2_with fail
            go_ret
            exact ⟨ret_bool (by simp [*]), sr.2.2.2.2.2.trans kx⟩
          · have HZ : Hid (edgesOk W H lr = true) := Lib.hid (by rw [← HR1.out, hr1])
            go_wp2_with fail
            refine (areEdges_any _ _ _ _ _ _ lr _ a b c e (HT.out.k5 sr) HLr.out.rr HLr.out.ir HLr.out.br).mono ?_
            rintro e1 wx ⟨rfl, kx⟩
            have sx := keep5 kx sr
            rw [HZ.out]
            go_wp2_with fail
            go_roundw
            case rel => exact ⟨1, by omega, rfl, Lib.hid ⟨fun _ => by first | trivial | assumption, fun h => absurd h (by omega)⟩, sx⟩
            case measure => simp [intOf]
        | 1, _ =>
          have HLr := Lib.hid (HL.out.keep sr.2.2.2.2.2)
          have hr1 := hJ.out.1 (by omega)
          subst hr1
          cases hr2 : R2
          · have HZ : Hid (edgesOk W H ld = false) := Lib.hid (by rw [← HR2.out, hr2])
            go_wp2_with fail
            refine (areEdges_any _ _ _ _ _ _ ld _ a b c e (HT.out.k5 sr) HLr.out.rd HLr.out.id HLr.out.bd).mono ?_
            rintro e1 wx ⟨rfl, kx⟩
            rw [HZ.out]
            go_wp2_with fail
            go_ret
            exact ⟨ret_bool (by simp [*]), sr.2.2.2.2.2.trans kx⟩
          · have HZ : Hid (edgesOk W H ld = true) := Lib.hid (by rw [← HR2.out, hr2])
            go_wp2_with fail
            refine (areEdges_any _ _ _ _ _ _ ld _ a b c e (HT.out.k5 sr) HLr.out.rd HLr.out.id HLr.out.bd).mono ?_
            rintro e1 wx ⟨rfl, kx⟩
            have sx := keep5 kx sr
            rw [HZ.out]
            go_wp2_with fail
            go_roundw
            case rel => exact ⟨2, by omega, rfl, Lib.hid ⟨fun _ => by first | trivial | rfl, fun _ => by first | trivial | assumption⟩, sx⟩
            case measure => simp [intOf]
        | 2, _ =>
          have hr1 := hJ.out.1 (by omega)
          have hr2 := hJ.out.2 (by omega)
          subst hr1
          subst hr2
          go_wp2_with fail
          go_ret
          exact ⟨ret_bool rfl, sr.2.2.2.2.2⟩

theorem isMap_any (W H : Int) (t r d : Value) (lt lr ld : List Int) (w : World) (ht : Tab w) (hL : Lists w t r d lt lr ld) :
    Calls Tryd.prog 74 #[mp W H t r d] w fun e w' => e = .returned (.bool (mapOk W H lt lr ld)) ∧ Kp w w' := by
  cases h : sideB W
  · obtain ⟨At, ct, rfl, _⟩ := hL.rt
    have e : mapOk W H lt lr ld = false := by simp [mapOk, h]
    rw [e]
    exact isMap_no1 W H _ _ _ r d w h
  · cases h' : sideB H
    · obtain ⟨At, ct, rfl, _⟩ := hL.rt
      have e : mapOk W H lt lr ld = false := by simp [mapOk, h']
      rw [e]
      exact isMap_no2 W H _ _ _ r d w h h'
    · by_cases hn : (lt.length : Int) = W * H
      · have e : mapOk W H lt lr ld = (lt.all terrB && (edgesOk W H lr && edgesOk W H ld)) := by simp [mapOk, h, h', hn]
        rw [e]
        exact isMap_yes W H t r d lt lr ld w ht hL h h' hn
      · obtain ⟨At, ct, rfl, _⟩ := hL.rt
        have e : mapOk W H lt lr ld = false := by simp [mapOk, hn]
        rw [e]
        exact isMap_no3 W H _ _ _ r d w h h' hn

end Go.Proofs.YtcdfbcmfpeceeaaDoor
