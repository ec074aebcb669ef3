/-
  The program's neighbours and edges of a map return what plain functions on integers say, and change nothing that was there. The table of directions holds what the program's text lays.
-/
import Derived.Test.YtcdfbcmfpeceeaaDoorMapI
import Derived.Test.YtcdfbcmfpeceeaaDoorInts
namespace Go.Proofs.YtcdfbcmfpeceeaaDoor
open Go.RowKit

theorem keep5 {W0 w w1 : World} {b : Nat} {v0 v1 v2 v3 v4 : Value} (k : Kp w w1)
    (h : w.cell? ⟨b, 0, none⟩ = some v0 ∧ w.cell? ⟨b, 1, none⟩ = some v1 ∧ w.cell? ⟨b, 2, none⟩ = some v2 ∧ w.cell? ⟨b, 3, none⟩ = some v3 ∧ w.cell? ⟨b, 4, none⟩ = some v4 ∧ Kp W0 w) :
    w1.cell? ⟨b, 0, none⟩ = some v0 ∧ w1.cell? ⟨b, 1, none⟩ = some v1 ∧ w1.cell? ⟨b, 2, none⟩ = some v2 ∧ w1.cell? ⟨b, 3, none⟩ = some v3 ∧ w1.cell? ⟨b, 4, none⟩ = some v4 ∧ Kp W0 w1 :=
  ⟨k.cell h.1, k.cell h.2.1, k.cell h.2.2.1, k.cell h.2.2.2.1, k.cell h.2.2.2.2.1, h.2.2.2.2.2.trans k⟩
theorem new5 (w : World) (v0 v1 v2 v3 v4 : Value) (T : TypeId) :
    (w.alloc (.cells #[v0, v1, v2, v3, v4] T)).cell? ⟨w.heap.size, 0, none⟩ = some v0 ∧ (w.alloc (.cells #[v0, v1, v2, v3, v4] T)).cell? ⟨w.heap.size, 1, none⟩ = some v1 ∧ (w.alloc (.cells #[v0, v1, v2, v3, v4] T)).cell? ⟨w.heap.size, 2, none⟩ = some v2 ∧ (w.alloc (.cells #[v0, v1, v2, v3, v4] T)).cell? ⟨w.heap.size, 3, none⟩ = some v3 ∧ (w.alloc (.cells #[v0, v1, v2, v3, v4] T)).cell? ⟨w.heap.size, 4, none⟩ = some v4 ∧ Kp w (w.alloc (.cells #[v0, v1, v2, v3, v4] T)) :=
  ⟨by simp [go_sem], by simp [go_sem], by simp [go_sem], by simp [go_sem], by simp [go_sem], (Kp.refl _).alloc _⟩
theorem keep7 {W0 w w1 : World} {b g o : Nat} {v0 v1 v2 v3 v4 x y : Value} (k : Kp w w1)
    (h : w.cell? ⟨b, 0, none⟩ = some v0 ∧ w.cell? ⟨b, 1, none⟩ = some v1 ∧ w.cell? ⟨b, 2, none⟩ = some v2 ∧ w.cell? ⟨b, 3, none⟩ = some v3 ∧ w.cell? ⟨b, 4, none⟩ = some v4 ∧ w.cell? ⟨g, o, none⟩ = some x ∧ w.cell? ⟨g, o + 1, none⟩ = some y ∧ Kp W0 w) :
    w1.cell? ⟨b, 0, none⟩ = some v0 ∧ w1.cell? ⟨b, 1, none⟩ = some v1 ∧ w1.cell? ⟨b, 2, none⟩ = some v2 ∧ w1.cell? ⟨b, 3, none⟩ = some v3 ∧ w1.cell? ⟨b, 4, none⟩ = some v4 ∧ w1.cell? ⟨g, o, none⟩ = some x ∧ w1.cell? ⟨g, o + 1, none⟩ = some y ∧ Kp W0 w1 :=
  ⟨k.cell h.1, k.cell h.2.1, k.cell h.2.2.1, k.cell h.2.2.2.1, k.cell h.2.2.2.2.1, k.cell h.2.2.2.2.2.1, k.cell h.2.2.2.2.2.2.1, h.2.2.2.2.2.2.2.trans k⟩

theorem isDirection_d (d : Int) (w : World) :
    Calls Tryd.prog 155 #[.int .i64 d] w fun e w' => e = .returned (.bool (dirB d)) ∧ w = w' := isDirection_any d w

set_option maxHeartbeats 1000000 in
theorem neighbourIndex_yes (W H : Int) (t r d : Value) (i x : Int) (w : World) (a : 1 ≤ W) (b : W ≤ 10) (c : 1 ≤ H) (e : H ≤ 10) (ht : Tab w) (ho : onI W H i = true) (hd : dirB x = true) :
    Calls Tryd.prog 141 #[mp W H t r d, .int .i64 i, .int .i64 x] w fun e w' => e = .returned (ib (nbM W H i x) (nbI W i x)) ∧ Kp w w' := by
  obtain ⟨h0, h1⟩ := onI_true ho
  obtain ⟨d0, d5⟩ := dirB_true hd
  have hA := area_bd a b c e
  obtain ⟨n, rfl⟩ := Int.eq_ofNat_of_zero_le d0
  have bd := dir_bd n
  have hh := hex_bd a b h0 h1
  have HT := Lib.hid ht
  have hn : (n : Int) < 6 := by omega
  unfold nbM nbI nbQ nbR
  clear ht
  go_enter Tryd.func141, Tryd.ntmps141
  go_wp2_with fail
  have s0 := new5 w (.int .i64 W) (.int .i64 H) t r d 44
  refine (isIndex_any _ _ _ _ _ _ _ a b c e).mono ?_
  rintro e1 wa ⟨rfl, ka⟩
  have s1 := keep5 ka s0
  clear s0 ka
  obtain ⟨t0, t1⟩ := HT.out.keep s1.2.2.2.2.2 n (by omega)
  have s2 : wa.drew.cell? ⟨w.heap.size, 0, none⟩ = some (.int .i64 W) ∧ wa.drew.cell? ⟨w.heap.size, 1, none⟩ = some (.int .i64 H) ∧ wa.drew.cell? ⟨w.heap.size, 2, none⟩ = some t ∧ wa.drew.cell? ⟨w.heap.size, 3, none⟩ = some r ∧ wa.drew.cell? ⟨w.heap.size, 4, none⟩ = some d ∧ wa.drew.cell? ⟨7, n * 2, none⟩ = some (.int .i64 (dirQ n)) ∧ wa.drew.cell? ⟨7, n * 2 + 1, none⟩ = some (.int .i64 (dirR n)) ∧ Kp w wa.drew :=
    ⟨s1.1, s1.2.1, s1.2.2.1, s1.2.2.2.1, s1.2.2.2.2.1, t0, t1, s1.2.2.2.2.2.drew⟩
  go_wp2_with fail
  refine (isDirection_d _ _).mono ?_
  rintro e2 wb ⟨rfl, rfl⟩
  go_wp2_with fail
  go_region_held3 (fun w' => w'.cell? ⟨w.heap.size, 0, none⟩ = some (.int .i64 W) ∧ w'.cell? ⟨w.heap.size, 1, none⟩ = some (.int .i64 H) ∧ w'.cell? ⟨w.heap.size, 2, none⟩ = some t ∧ w'.cell? ⟨w.heap.size, 3, none⟩ = some r ∧ w'.cell? ⟨w.heap.size, 4, none⟩ = some d ∧ w'.cell? ⟨7, n * 2, none⟩ = some (.int .i64 (dirQ n)) ∧ w'.cell? ⟨7, n * 2 + 1, none⟩ = some (.int .i64 (dirR n)) ∧ Kp w w') (first | assumption | exact s2)
    (first
      | (go_at_call 115; refine (hexWithIndex_any _ _ _ _ _ _ _ a b h0 (by omega)).mono ?_; rintro e wc ⟨rfl, kc⟩; have sc := keep7 kc (by assumption))
      | (go_at_call 157; refine (shifted_any _ _ _ _ _ (by omega) (by omega) (by omega) (by omega) (by omega) (by omega) (by omega) (by omega)).mono ?_; rintro e wd ⟨rfl, kd⟩; have sd := keep7 kd (by assumption))
      | (go_at_call 156; refine (indexOfHex_any _ _ _ _ _ _ _ _ a b c e).mono ?_; rintro e3 we ⟨rfl, ke⟩; have se := keep7 ke (by assumption)))
  all_goals
    go_wp2_with fail
    go_ret2
    exact ⟨rfl, se.2.2.2.2.2.2.2⟩

theorem neighbourIndex_any (W H : Int) (t r d : Value) (i x : Int) (w : World) (a : 1 ≤ W) (b : W ≤ 10) (c : 1 ≤ H) (e : H ≤ 10) (ht : Tab w) :
    Calls Tryd.prog 141 #[mp W H t r d, .int .i64 i, .int .i64 x] w fun e w' => e = .returned (ib (nbB W H i x) (nbI W i x)) ∧ Kp w w' := by
  cases ho : onI W H i
  · have en : nbB W H i x = false := by simp [nbB, ho]
    rw [en, ib_false]
    clear en
    go_enter Tryd.func141, Tryd.ntmps141
    go_wp2_with fail
    refine (isIndex_any _ _ _ _ _ _ _ a b c e).mono ?_
    rintro e1 wa ⟨rfl, ka⟩
    go_wp2_with fail
    go_ret2
    exact ⟨rfl, ((Kp.refl _).alloc _).trans ka⟩
  · cases hd : dirB x
    · have en : nbB W H i x = false := by simp [nbB, hd]
      rw [en, ib_false]
      clear en
      go_enter Tryd.func141, Tryd.ntmps141
      go_wp2_with fail
      refine (isIndex_any _ _ _ _ _ _ _ a b c e).mono ?_
      rintro e1 wa ⟨rfl, ka⟩
      go_wp2_with fail
      refine (isDirection_d _ _).mono ?_
      rintro e2 wb ⟨rfl, rfl⟩
      go_wp2_with fail
      go_ret2
      exact ⟨rfl, ((Kp.refl _).alloc _).trans ka⟩
    · have en : nbB W H i x = nbM W H i x := by simp [nbB, ho, hd]
      rw [en]
      exact neighbourIndex_yes W H t r d i x w a b c e ht ho hd

theorem nbB_true {W H i x : Int} (h : nbB W H i x = true) : (0 ≤ i ∧ i < W * H) ∧ (0 ≤ x ∧ x ≤ 5) ∧ 0 ≤ nbI W i x ∧ nbI W i x < W * H := by
  simp only [nbB, Bool.and_eq_true] at h
  exact ⟨onI_true h.1, dirB_true h.2.1, idx_bd h.2.2⟩

theorem edgeNumber_any (W H : Int) (t r d : Value) (i x : Int) (w : World) (a : 1 ≤ W) (b : W ≤ 10) (c : 1 ≤ H) (e : H ≤ 10) (ht : Tab w) :
    Calls Tryd.prog 116 #[mp W H t r d, .int .i64 i, .int .i64 x] w fun e w' => e = .returned (ib (nbB W H i x) (edgI W i x)) ∧ Kp w w' := by
  have HT := Lib.hid (Tab.keep ht ((Kp.refl w).alloc (.cells #[.int .i64 W, .int .i64 H, t, r, d] 44)))
  have hA := area_bd a b c e
  clear ht
  cases hn : nbB W H i x
  · rw [ib_false]
    go_enter Tryd.func116, Tryd.ntmps116
    go_wp2_with fail
    refine (neighbourIndex_any _ _ _ _ _ _ _ _ a b c e HT.out).mono ?_
    rintro e1 wa ⟨rfl, ka⟩
    go_wp2_with fail
    go_ret2
    exact ⟨rfl, ((Kp.refl _).alloc _).trans ka⟩
  · rw [ib_true]
    obtain ⟨⟨i0, i1⟩, ⟨x0, x5⟩, n0, n1⟩ := nbB_true hn
    have hv : vI true (nbI W i x) = nbI W i x := rfl
    unfold edgI
    by_cases hx : x < 3
    · rw [if_pos hx]
      go_enter Tryd.func116, Tryd.ntmps116
      go_wp2_with fail
      refine (neighbourIndex_any _ _ _ _ _ _ _ _ a b c e HT.out).mono ?_
      rintro e1 wa ⟨rfl, ka⟩
      go_wp2_with fail
      go_ret2
      exact ⟨rfl, ((Kp.refl _).alloc _).trans ka⟩
    · rw [if_neg hx]
      go_enter Tryd.func116, Tryd.ntmps116
      go_wp2_with fail
      refine (neighbourIndex_any _ _ _ _ _ _ _ _ a b c e HT.out).mono ?_
      rintro e1 wa ⟨rfl, ka⟩
      go_wp2_with fail
      go_ret2
      exact ⟨rfl, ((Kp.refl _).alloc _).trans ka⟩

abbrev iib (b : Bool) (x y : Int) : Value := .tuple #[.int .i64 (vI b x), .int .i64 (vI b y), .bool b]

theorem edgeEnds_any (W H : Int) (t r d : Value) (x : Int) (w : World) (a : 1 ≤ W) (b : W ≤ 10) (c : 1 ≤ H) (e : H ≤ 10) (ht : Tab w) (hx : isI64 x) :
    Calls Tryd.prog 140 #[mp W H t r d, .int .i64 x] w fun e w' => e = .returned (iib (edgeB W H x) (x / 3) (nbI W (x / 3) (x % 3))) ∧ Kp w w' := by
  have HT := Lib.hid (Tab.keep ht ((Kp.refl w).alloc (.cells #[.int .i64 W, .int .i64 H, t, r, d] 44)))
  obtain ⟨x1, x2⟩ := hx
  clear ht
  by_cases h0 : 0 ≤ x
  · rw [edgeB_nat h0]
    cases hn : nbB W H (x / 3) (x % 3)
    · go_enter Tryd.func140, Tryd.ntmps140
      go_wp2_with fail
      refine (neighbourIndex_any _ _ _ _ _ _ _ _ a b c e HT.out).mono ?_
      rintro e1 wa ⟨rfl, ka⟩
      go_wp2_with fail
      go_ret3
      exact ⟨rfl, ((Kp.refl _).alloc _).trans ka⟩
    · go_enter Tryd.func140, Tryd.ntmps140
      go_wp2_with fail
      refine (neighbourIndex_any _ _ _ _ _ _ _ _ a b c e HT.out).mono ?_
      rintro e1 wa ⟨rfl, ka⟩
      go_wp2_with fail
      go_ret3
      exact ⟨rfl, ((Kp.refl _).alloc _).trans ka⟩
  · have hn := edgeB_neg (W := W) (H := H) (e := x) (by omega)
    rw [hn]
    unfold edgeB at hn
    go_enter Tryd.func140, Tryd.ntmps140
    go_wp2_with fail
    refine (neighbourIndex_any _ _ _ _ _ _ _ _ a b c e HT.out).mono ?_
    rintro e1 wa ⟨rfl, ka⟩
    go_wp2_with fail
    go_ret3
    exact ⟨rfl, ((Kp.refl _).alloc _).trans ka⟩

end Go.Proofs.YtcdfbcmfpeceeaaDoor
