/-
  The program's lists of costs and hexes: the six steps from a hex, the costs and the hexes along a path. In memory of their own; nothing that was there is changed. The table of directions holds what the program's text lays.
-/
import Derived.Test.YtngifnnpimfimaaDoorCsP
import Derived.Test.YtngifnnpimfimaaDoorCsF
import Derived.StillTailTactics
import Derived.Deep.Cut
import Derived.Maps.AppendAt
import Derived.Test.YtngifnnpimfimaaDoorQa
import Derived.Test.YtngifnnpimfimaaDoorQe
import Derived.Test.YtngifnnpimfimaaDoorQl
import Derived.Test.YtngifnnpimfimaaDoorQa
namespace Go.Proofs.YtngifnnpimfimaaDoor
open Go.RowKit

theorem keeph5 {W0 w w1 : World} {p0 p1 p2 p3 p4 : Addr} {v0 v1 v2 v3 v4 : Value} (k : Kp w w1) (h : w.cell? p0 = some v0 ∧ w.cell? p1 = some v1 ∧ w.cell? p2 = some v2 ∧ w.cell? p3 = some v3 ∧ w.cell? p4 = some v4 ∧ Kp W0 w) : w1.cell? p0 = some v0 ∧ w1.cell? p1 = some v1 ∧ w1.cell? p2 = some v2 ∧ w1.cell? p3 = some v3 ∧ w1.cell? p4 = some v4 ∧ Kp W0 w1 :=
  ⟨k.cell h.1, k.cell h.2.1, k.cell h.2.2.1, k.cell h.2.2.2.1, k.cell h.2.2.2.2.1, h.2.2.2.2.2.trans k⟩
theorem drewh5 {W0 w : World} {p0 p1 p2 p3 p4 : Addr} {v0 v1 v2 v3 v4 : Value} (h : w.cell? p0 = some v0 ∧ w.cell? p1 = some v1 ∧ w.cell? p2 = some v2 ∧ w.cell? p3 = some v3 ∧ w.cell? p4 = some v4 ∧ Kp W0 w) : w.drew.cell? p0 = some v0 ∧ w.drew.cell? p1 = some v1 ∧ w.drew.cell? p2 = some v2 ∧ w.drew.cell? p3 = some v3 ∧ w.drew.cell? p4 = some v4 ∧ Kp W0 w.drew :=
  ⟨h.1, h.2.1, h.2.2.1, h.2.2.2.1, h.2.2.2.2.1, h.2.2.2.2.2.drew⟩

theorem mkIntsX (n : Nat) (hn : n ≤ 1048576) (w : World) :
    (Instr.makeSlice 29 (.int .i64 0) (.int .i64 (n : Int))).run Tryd.prog w = .ok (.slice (some ⟨w.heap.size, 0, none⟩) 0 n) (w.alloc (.cells (madeCells #[.int .i64 0] n) 3)) := by
  obtain ⟨i, hi, hz, hs, hb⟩ := info_parts infoInt
  have hr := run_make (P := Tryd.prog) w 29 3 i (.int .i64 0) Tryd.underlying29 hi hz .i64 .i64 0 (n : Int) (Int.le_refl _) (by omega) (by rw [hb]; omega) (by omega)
  rw [hs, Int.toNat_natCast, Nat.mul_one] at hr
  exact hr
theorem ownI_madeX (w : World) (base n : Nat) (hb : base ≤ w.heap.size) (hn : n ≤ 1048576) : OwnI (w.alloc (.cells (madeCells #[.int .i64 0] n) 3)) base (.slice (some ⟨w.heap.size, 0, none⟩) 0 n) [] := by
  unfold OwnI
  exact World.ownsRow_made w _ n hb (by simp only [maxLen]; omega) (by rw [size_madeCells, Nat.mul_one])
theorem vI_ne (z : Int) : vI (decide (z ≠ 0)) z = z := by
  unfold vI
  by_cases h : z = 0
  · subst h; rfl
  · rw [decide_eq_true h]; rfl

set_option maxRecDepth 100000 in
set_option maxHeartbeats 4000000 in
theorem stepCosts_any (At Ak : Option Addr) (nt nk ct ck : Nat) (l : List Ter) (m : List Knd) (a b c d e W H : Int) (x r y : Value) (lt lr ld : List Int) (k : Nat) (tw i : Int) (w : World) (ht : Tab w) (hB : BrdAt w At Ak nt nk l m x r y lt lr ld) (hok : brdOk ⟨l, m, a, b, c, d, e⟩ W H lt lr ld = true) (hk : k < m.length) (hw : tw = 0 ∨ tw = 1 ∨ tw = 2) :
    Calls Tryd.prog 53 #[.agg #[.slice At nt ct, .slice Ak nk ck, .int .i64 a, .int .i64 b, .int .i64 c, .int .i64 d, .int .i64 e, .int .i64 W, .int .i64 H, x, r, y, .int .i64 (k : Int), .int .i64 tw], .int .i64 i] w fun e' w' => ∃ v, e' = .returned v ∧ OwnI w' (w.heap.size + 1) v (sixN (stp l lt lr ld W H b c k tw i) 6) ∧ Kp w w' := by
  have KA : Kp w (w.alloc (.cells #[.slice At nt ct, .slice Ak nk ck, .int .i64 a, .int .i64 b, .int .i64 c, .int .i64 d, .int .i64 e, .int .i64 W, .int .i64 H, x, r, y, .int .i64 (k : Int), .int .i64 tw] 72)) := (Kp.refl w).alloc _
  have s0 : cb14 (w.alloc (.cells #[.slice At nt ct, .slice Ak nk ck, .int .i64 a, .int .i64 b, .int .i64 c, .int .i64 d, .int .i64 e, .int .i64 W, .int .i64 H, x, r, y, .int .i64 (k : Int), .int .i64 tw] 72)) (w.heap.size) (.slice At nt ct) (.slice Ak nk ck) (.int .i64 a) (.int .i64 b) (.int .i64 c) (.int .i64 d) (.int .i64 e) (.int .i64 W) (.int .i64 H) (x) (r) (y) (.int .i64 (k : Int)) (.int .i64 tw) (Kp w (w.alloc (.cells #[.slice At nt ct, .slice Ak nk ck, .int .i64 a, .int .i64 b, .int .i64 c, .int .i64 d, .int .i64 e, .int .i64 W, .int .i64 H, x, r, y, .int .i64 (k : Int), .int .i64 tw] 72))) := ⟨by simp [go_sem], by simp [go_sem], by simp [go_sem], by simp [go_sem], by simp [go_sem], by simp [go_sem], by simp [go_sem], by simp [go_sem], by simp [go_sem], by simp [go_sem], by simp [go_sem], by simp [go_sem], by simp [go_sem], by simp [go_sem], KA⟩
  have HB := Lib.hid hB
  have HT := Lib.hid ht
  obtain ⟨F, hF⟩ : ∃ F : Int → Int → Int, F = stp l lt lr ld W H b c k tw := ⟨_, rfl⟩
  rw [← hF]
  have CS : Hid (∀ (i dd : Int) w, Tab w → BrdAt w At Ak nt nk l m x r y lt lr ld → Calls Tryd.prog 41 #[.agg #[.slice At nt ct, .slice Ak nk ck, .int .i64 a, .int .i64 b, .int .i64 c, .int .i64 d, .int .i64 e, .int .i64 W, .int .i64 H, x, r, y, .int .i64 (k : Int), .int .i64 tw], .int .i64 i, .int .i64 dd] w fun e' w' => e' = .returned (.tuple #[.int .i64 (vI (decide (F i dd ≠ 0)) (nbI W i dd)), .int .i64 (F i dd), .bool (decide (F i dd ≠ 0))]) ∧ Kp w w') := Lib.hid fun i dd w ht hB => by
    have h := stepFrom_any At Ak nt nk ct ck l m a b c d e W H x r y lt lr ld k tw i dd w ht hB hok hk hw
    rw [← hF] at h
    unfold sfR at h
    rw [vI_ne] at h
    exact h
  have hz0 : (w.alloc (.cells #[.slice At nt ct, .slice Ak nk ck, .int .i64 a, .int .i64 b, .int .i64 c, .int .i64 d, .int .i64 e, .int .i64 W, .int .i64 H, x, r, y, .int .i64 (k : Int), .int .i64 tw] 72)).heap.size = w.heap.size + 1 := by simp
  have hmk : (Instr.makeSlice 29 (.int .i64 6) (.int .i64 6)).run Tryd.prog (w.alloc (.cells #[.slice At nt ct, .slice Ak nk ck, .int .i64 a, .int .i64 b, .int .i64 c, .int .i64 d, .int .i64 e, .int .i64 W, .int .i64 H, x, r, y, .int .i64 (k : Int), .int .i64 tw] 72)) = .ok (.slice (some ⟨w.heap.size + 1, 0, none⟩) 6 6) (((w.alloc (.cells #[.slice At nt ct, .slice Ak nk ck, .int .i64 a, .int .i64 b, .int .i64 c, .int .i64 d, .int .i64 e, .int .i64 W, .int .i64 H, x, r, y, .int .i64 (k : Int), .int .i64 tw] 72))).alloc (.cells (madeCells #[.int .i64 0] 6) 3)) := by
    have h := mkInts 6 (by omega) (w.alloc (.cells #[.slice At nt ct, .slice Ak nk ck, .int .i64 a, .int .i64 b, .int .i64 c, .int .i64 d, .int .i64 e, .int .i64 W, .int .i64 H, x, r, y, .int .i64 (k : Int), .int .i64 tw] 72))
    rw [hz0] at h
    exact h
  have HM : Hid (OwnI (((w.alloc (.cells #[.slice At nt ct, .slice Ak nk ck, .int .i64 a, .int .i64 b, .int .i64 c, .int .i64 d, .int .i64 e, .int .i64 W, .int .i64 H, x, r, y, .int .i64 (k : Int), .int .i64 tw] 72))).alloc (.cells (madeCells #[.int .i64 0] 6) 3)) (w.heap.size + 1) (.slice (some ⟨w.heap.size + 1, 0, none⟩) 6 6) (sixN (F i) 0 ++ List.replicate (6 - 0) 0)) := Lib.hid (by
    have h := ownI_zero (w.alloc (.cells #[.slice At nt ct, .slice Ak nk ck, .int .i64 a, .int .i64 b, .int .i64 c, .int .i64 d, .int .i64 e, .int .i64 W, .int .i64 H, x, r, y, .int .i64 (k : Int), .int .i64 tw] 72)) 6 (by omega)
    rw [hz0] at h
    exact h)
  have KM : Kp (w.alloc (.cells #[.slice At nt ct, .slice Ak nk ck, .int .i64 a, .int .i64 b, .int .i64 c, .int .i64 d, .int .i64 e, .int .i64 W, .int .i64 H, x, r, y, .int .i64 (k : Int), .int .i64 tw] 72)) (((w.alloc (.cells #[.slice At nt ct, .slice Ak nk ck, .int .i64 a, .int .i64 b, .int .i64 c, .int .i64 d, .int .i64 e, .int .i64 W, .int .i64 H, x, r, y, .int .i64 (k : Int), .int .i64 tw] 72))).alloc (.cells (madeCells #[.int .i64 0] 6) 3)) := (Kp.refl _).alloc _
  clear hB ht hok hk hw hF
  go_enter Tryd.func53, Tryd.ntmps53
  go_upto_region 2 with (fail)
  clear hmk
  generalize (w.alloc (.cells #[.slice At nt ct, .slice Ak nk ck, .int .i64 a, .int .i64 b, .int .i64 c, .int .i64 d, .int .i64 e, .int .i64 W, .int .i64 H, x, r, y, .int .i64 (k : Int), .int .i64 tw] 72)).alloc (.cells (madeCells #[.int .i64 0] 6) 3) = WM at *
  generalize (w.alloc (.cells #[.slice At nt ct, .slice Ak nk ck, .int .i64 a, .int .i64 b, .int .i64 c, .int .i64 d, .int .i64 e, .int .i64 W, .int .i64 H, x, r, y, .int .i64 (k : Int), .int .i64 tw] 72)) = W0 at *
  go_wp2_with fail
  go_loopw [6, 8] (fun _ sq wx => ∃ q : Nat, q ≤ 6 ∧ sq = .int .i64 q ∧ Hid (OwnI wx (w.heap.size + 1) (.slice (some ⟨w.heap.size + 1, 0, none⟩) 6 6) (sixN (F i) q ++ List.replicate (6 - q) 0)) ∧ Kp W0 wx) (fun _ sq _ => 6 - (intOf sq).toNat)
  case atStart => exact ⟨0, by omega, rfl, HM, KM⟩
  case round =>
    clear HM KM
    obtain ⟨q, hqn, rfl, HO, kr⟩ := hrel
    have sr := keepm14 kr s0
    by_cases hlt : q < 6
    · have hlt' : (q : Int) < 6 := by omega
      have HP : Hid ((sixN (F i) q ++ List.replicate (6 - q) 0).set q (F i q) = sixN (F i) (q + 1) ++ List.replicate (6 - (q + 1)) 0) := Lib.hid (sixN_put (F i) q 6 hlt)
      have HLn : Hid ((sixN (F i) q ++ List.replicate (6 - q) 0).length = 6) := Lib.hid (by rw [List.length_append, sixN_len, List.length_replicate]; omega)
      have CQ := Lib.hid (CS.out i q)
      generalize F i q = X at CQ HP
      generalize nbI W i q = J at CQ
      go_wp2_with fail
      refine (CQ.out _ (HT.out.keep sr.2.2.2.2.2.2.2.2.2.2.2.2.2.2) (HB.out.keep sr.2.2.2.2.2.2.2.2.2.2.2.2.2.2)).mono ?_
      rintro e3 w3 ⟨rfl, k3⟩
      have k30 := kr.trans k3
      obtain ⟨⟨u9, a9⟩, f9, o9⟩ := (HO.out.keep k3).put HLn.out hlt X
      have HO9 := Lib.hid o9
      have K9 : Kp W0 (w3.setCell ⟨w.heap.size + 1, q, none⟩ (.int .i64 X)) := k30.setCell (by simp only; omega) _
      clear o9 sr k3 HO kr k30
      go_wp2_with fail
      go_roundw
      case rel => exact ⟨q + 1, by omega, by go_num, Lib.hid (by rw [← HP.out]; exact HO9.out), K9⟩
      case measure => simp [intOf]; omega
    · obtain rfl : q = 6 := by omega
      have HE := Lib.hid HO.out
      rw [show sixN (F i) 6 ++ List.replicate (6 - 6) 0 = sixN (F i) 6 by simp] at HE
      go_wp2_with fail
      go_ret
      exact ⟨_, rfl, HE.out, sr.2.2.2.2.2.2.2.2.2.2.2.2.2.2⟩


set_option maxRecDepth 100000 in
set_option maxHeartbeats 4000000 in
theorem hexesAlong_any (W H : Int) (x r y : Value) (i : Int) (v : Value) (p : List Int) (w : World) (a : 1 ≤ W) (b : W ≤ 10) (c : 1 ≤ H) (e : H ≤ 10) (ht : Tab w) (hp : RdI w v p) (hl : p.length ≤ 9) :
    Calls Tryd.prog 49 #[mp W H x r y, .int .i64 i, v] w (ListPostI (onP W H i p) (hexP W i p) w) := by
  have s0 := new5 w (.int .i64 W) (.int .i64 H) x r y 40
  have HT := Lib.hid ht
  have CN := Lib.hid (fun (I z : Int) (w : World) ht => neighbourIndex_any W H x r y I z w a b c e ht)
  have hz0' : (w.alloc (.cells #[.int .i64 W, .int .i64 H, x, r, y] 40)).heap.size = w.heap.size + 1 := by simp
  obtain ⟨A, cp, rfl, hc⟩ := hp
  have HC := Lib.hid hc
  have HLN := Lib.hid hl
  obtain ⟨n, hn⟩ : ∃ n, n = p.length := ⟨_, rfl⟩
  have HN := Lib.hid hn
  rw [← hn] at hl HC ⊢
  have hmk := mkIntsX n (by omega) (w.alloc (.cells #[.int .i64 W, .int .i64 H, x, r, y] 40))
  rw [hz0'] at hmk
  have HM := Lib.hid (ownI_madeX (w.alloc (.cells #[.int .i64 W, .int .i64 H, x, r, y] 40)) (w.heap.size + 1) n (by simp) (by omega))
  have KM : Kp (w.alloc (.cells #[.int .i64 W, .int .i64 H, x, r, y] 40)) (((w.alloc (.cells #[.int .i64 W, .int .i64 H, x, r, y] 40))).alloc (.cells (madeCells #[.int .i64 0] n) 3)) := (Kp.refl _).alloc _
  rw [hz0'] at HM
  obtain ⟨j0, hj0, hz0, hs0, hb0⟩ := info_parts infoInt
  obtain ⟨OK, hOK⟩ : ∃ z, z = onP W H i p := ⟨_, rfl⟩
  have HNO0 : Hid (OK = onP W H i p) := Lib.hid hOK
  rw [← hOK]
  clear hc hn ht hOK
  go_enter Tryd.func49, Tryd.ntmps49
  go_upto_region 2 with (fail)
  clear hmk
  generalize (w.alloc (.cells #[.int .i64 W, .int .i64 H, x, r, y] 40)).alloc (.cells (madeCells #[.int .i64 0] n) 3) = WM at *
  generalize (w.alloc (.cells #[.int .i64 W, .int .i64 H, x, r, y] 40)) = W0 at *
  go_wp2_with fail
  go_loopw [1, 8, 10, 11, 12, 18] (fun si vv _ _ _ sq wx => ∃ q : Nat, q ≤ n ∧ sq = .int .i64 q ∧ ∃ I : Int, si = .int .i64 I ∧ Hid (I = endP W i (p.take q)) ∧ Hid (OwnI wx (w.heap.size + 1) vv (hexP W i (p.take q))) ∧ Hid (onP W H i (p.take q) = true) ∧ Kp W0 wx) (fun _ _ _ _ _ sq _ => n - (intOf sq).toNat)
  case atStart => exact ⟨0, by omega, rfl, i, rfl, Lib.hid (by simp [endP]), Lib.hid (by rw [List.take_zero]; exact HM.out), Lib.hid (by simp [onP]), KM⟩
  case round =>
    clear HM KM
    obtain ⟨q, hqn, rfl, I, rfl, HI, HO, HQ, kr⟩ := hrel
    have sr := keep5 kr s0
    by_cases hlt : q < n
    · have hlt' : (q : Int) < n := by omega
      obtain ⟨g, off, rfl, hc⟩ := HC.out (by omega)
      obtain ⟨z, hz⟩ : ∃ z, p[q]? = some z := ⟨p[q]'(by have := HN.out; omega), List.getElem?_eq_getElem _⟩
      have a0 := sr.2.2.2.2.2.cell (hc q z hz)
      have HZ := Lib.hid hz
      have HEZ : Hid (endP W i (p.take (q + 1)) = nbI W I z) := Lib.hid (by rw [endP_next hz, HI.out])
      have HXZ : Hid (hexP W i (p.take (q + 1)) = hexP W i (p.take q) ++ [nbI W I z]) := Lib.hid (by rw [hexP_next hz, HI.out])
      have HOZ : Hid (onP W H i (p.take (q + 1)) = nbB W H I z) := Lib.hid (by rw [onP_next hz, HQ.out, Bool.true_and, HI.out])
      clear hc hz
      cases hnb : nbB W H I z
      · have HNO : Hid (OK = false) := Lib.hid (by rw [HNO0.out]; exact onP_stop (HOZ.out.trans hnb))
        go_wp2_with fail
        refine (CN.out _ _ _ (HT.out.keep sr.2.2.2.2.2)).mono ?_
        rintro e3 w3 ⟨rfl, k3⟩
        rw [hnb]
        go_wp2_with fail
        go_ret2
        rw [HNO.out]
        exact ListPostI.no (sr.2.2.2.2.2.trans k3)
      · have HN2 := Lib.hid hnb
        have hq9 : q ≤ 9 := by have := HLN.out; have := HN.out; omega
        have hcq : Hid ((hexP W i (p.take q)).length = q) := Lib.hid (by rw [hexP_len, List.length_take]; have := HN.out; omega)
        go_wp2_with fail
        refine (CN.out _ _ _ (HT.out.keep sr.2.2.2.2.2)).mono ?_
        rintro e3 w3 ⟨rfl, k3⟩
        rw [hnb]
        rw [ib_true]
        generalize nbI W I z = J at *
        have k30 := kr.trans k3
        have HO3 := Lib.hid (HO.out.keep k3)
        have hsz := k30.size
        clear sr k3 HO kr a0 hnb
        go_wp2_with (at_builtin; refine wpList_append_own_at _ rfl (.tmp 31) (.tmp 33) 29 rfl (w.heap.size + 1) 3 j0 (.int .i64 0) 1 8 Tryd.underlying29 hj0 hz0 hs0 hb0 rfl (by decide) _ (hexP W i (p.take q)).length (cellsI (hexP W i (p.take q))) rfl (World.ownsRow.alloc HO3.out _) ⟨w3.heap.size, 0, none⟩ 1 1 [.int .i64 J] rfl rfl (one_cell _ _ _) (by simp [Value.oneCell']) (by have := hcq.out; simp only [maxLen]; omega) (by have := hcq.out; omega) (by simp; omega) ?_; intro v' w9 hown2 hgrow2 hnil2 hat2; clear hnil2 hat2; have K9 : Kp W0 w9 := (k30.alloc _).grown hgrow2 (fun k e => by have := (World.ownsRow.lt HO3.out k e).1; omega); have O9 := Lib.hid (OwnI.snoc (x := J) hown2); clear hown2 hgrow2)
        go_roundw
        case rel => exact ⟨q + 1, by omega, by go_num, J, rfl, Lib.hid HEZ.out.symm, Lib.hid (by rw [HXZ.out]; exact O9.out), Lib.hid (HOZ.out.trans HN2.out), K9⟩
        case measure => simp [intOf]; omega
    · obtain rfl : q = n := by omega
      have HST : Hid (hexP W i p = hexP W i (p.take q)) := Lib.hid (by rw [HN.out, List.take_length])
      have HYES : Hid (OK = true) := Lib.hid (by have := HQ.out; rw [HN.out, List.take_length] at this; rw [HNO0.out]; exact this)
      go_wp2_with fail
      go_ret2
      rw [HYES.out]
      exact ⟨_, rfl, by rw [if_pos rfl, HST.out]; exact HO.out.base (by omega), sr.2.2.2.2.2⟩

end Go.Proofs.YtngifnnpimfimaaDoor
