/-
  The reference's walk: the hexes in their order and true, or none and false. Nothing that was there is changed.
-/
import Derived.Test.YtmodcmkmfedgoaaDoorWalk
import Derived.Test.YtmodcmkmfedgoaaDoorStep
import Derived.Test.YtmodcmkmfedgoaaDoorOwnB
namespace Go.Proofs.YtmodcmkmfedgoaaDoor
open Go.RowKit

theorem specWalk_no (q r : Int) (v : Value) (l : List Int) (w : World) (h : RdI w v l) (hl : l.length ≤ 1048576) (L : List (Int × Int)) (hno : okH q r = false ∨ ¬ l.length ≤ 60 ∨ dirsOk l = false) :
    Calls Tryd.prog 14 #[hx q r, v] w (ListPost false L w) := by
  have HR := Lib.hid h
  obtain ⟨A, c, rfl, _⟩ := h
  obtain ⟨n, hn⟩ : ∃ n, l.length = n := ⟨_, rfl⟩
  have HN := Lib.hid hn
  rw [hn] at hl hno ⊢
  rw [hn] at HR
  clear hn
  cases ha : okH q r
  · clear hno
    go_enter Tryd.func14, Tryd.ntmps14
    go_wp2_with fail
    refine (hGood_any _ _ _).mono ?_
    rintro e w1 ⟨rfl, k1⟩
    go_wp2_with fail
    go_ret2
    exact ListPost.no (((Kp.refl _).alloc _).trans k1)
  · by_cases h60 : n ≤ 60
    · have hd : dirsOk l = false := by
        rcases hno with h | h | h
        · rw [ha] at h; cases h
        · exact absurd h60 h
        · exact h
      have hl60 : ¬ (60 : Int) < n := by omega
      have HD := Lib.hid hd
      clear hno hd
      go_enter Tryd.func14, Tryd.ntmps14
      go_wp2_with fail
      refine (hGood_any _ _ _).mono ?_
      rintro e w1 ⟨rfl, k1⟩
      have K1 : Kp w w1 := ((Kp.refl _).alloc _).trans k1
      clear k1
      go_wp2_with fail
      refine (l1All_any _ l _ (HR.out.keep K1) (by rw [HN.out]; omega)).mono ?_
      rintro e w2 ⟨rfl, rfl⟩
      rw [HD.out]
      go_wp2_with fail
      go_ret2
      exact ListPost.no K1
    · have hl60 : (60 : Int) < n := by omega
      clear hno
      go_enter Tryd.func14, Tryd.ntmps14
      go_wp2_with fail
      refine (hGood_any _ _ _).mono ?_
      rintro e w1 ⟨rfl, k1⟩
      go_wp2_with fail
      go_ret2
      exact ListPost.no (((Kp.refl _).alloc _).trans k1)

set_option maxHeartbeats 4000000 in
theorem specWalk_yes (q r : Int) (v : Value) (l : List Int) (w : World) (h : RdI w v l) (ha : okH q r = true) (hl : l.length ≤ 60) (hd : dirsOk l = true) :
    Calls Tryd.prog 14 #[hx q r, v] w (ListPost (allOk (walkUp l q r l.length)) (walkUp l q r l.length) w) := by
  have A1 := okH_true ha
  have HBd := Lib.hid (walkP_bd (l := l) (q := q) (r := r) (by omega) (by omega) (by omega) (by omega))
  have HRd := Lib.hid h
  have HD := Lib.hid hd
  obtain ⟨i0, hi0, hz0, hs0, hb0⟩ := info_parts infoHex
  obtain ⟨A, c, rfl, h⟩ := h
  have HA := Lib.hid h
  clear h hd
  obtain ⟨n, hn⟩ : ∃ n, l.length = n := ⟨_, rfl⟩
  have HN := Lib.hid hn
  rw [hn] at hl HA HRd ⊢
  clear hn
  have hl60 : ¬ (60 : Int) < n := by omega
  go_enter Tryd.func14, Tryd.ntmps14
  go_wp2_with fail
  refine (hGood_any _ _ _).mono ?_
  rintro e wa ⟨rfl, ka⟩
  have L0 : wa.cell? ⟨w.heap.size, 0, none⟩ = some (.int .i64 q) ∧ wa.frozen? ⟨w.heap.size, 0, none⟩ = false := ka.liv ⟨by simp [go_sem], by simp [go_sem]⟩
  have L1 : wa.cell? ⟨w.heap.size, 1, none⟩ = some (.int .i64 r) ∧ wa.frozen? ⟨w.heap.size, 1, none⟩ = false := ka.liv ⟨by simp [go_sem], by simp [go_sem]⟩
  have K1 : Kp w wa := ((Kp.refl _).alloc _).trans ka
  clear ka
  go_wp2_with fail
  refine (l1All_any _ l _ (HRd.out.keep K1) (by rw [HN.out]; omega)).mono ?_
  rintro e w2 ⟨rfl, rfl⟩
  rw [HD.out]
  go_wp2_with fail
  go_loopw [6, 24] (fun v s24 wx => ∃ k : Nat, k ≤ n ∧ s24 = .int .i64 k ∧ OwnH wx (w.heap.size + 1) v (walkUp l q r k) ∧ Hid (wx.cell? ⟨w.heap.size, 0, none⟩ = some (.int .i64 (walkP l q r k).1) ∧ wx.cell? ⟨w.heap.size, 1, none⟩ = some (.int .i64 (walkP l q r k).2)) ∧ (wx.frozen? ⟨w.heap.size, 0, none⟩ = false ∧ wx.frozen? ⟨w.heap.size, 1, none⟩ = false) ∧ Kp w wx) (fun _ s24 _ => n - (intOf s24).toNat)
  case atStart => exact ⟨0, by omega, rfl, OwnH.nil _ _, Lib.hid ⟨L0.1, L1.1⟩, ⟨L0.2, L1.2⟩, K1⟩
  case round =>
    clear L0 L1 K1
    obtain ⟨k, hk, rfl, hoQ, hcQ, hfQ, kQ⟩ := hrel
    by_cases hlt : k < n
    · have hlt' : (k : Int) < n := by omega
      obtain ⟨g, off, rfl, hc⟩ := HA.out (by omega)
      obtain ⟨x, hx⟩ : ∃ x, l[k]? = some x := ⟨l[k]'(by have := HN.out; omega), List.getElem?_eq_getElem _⟩
      have a0 := kQ.cell (hc k x hx)
      obtain ⟨hx0, hx5⟩ := dirsOk_at HD.out hx
      have pb := HBd.out k
      have hst := Lib.hid (show walkP l q r (k + 1) = ((walkP l q r k).1 + dirQ x, (walkP l q r k).2 + dirR x) by simp only [walkP, hx, Option.getD_some])
      have hup := Lib.hid (walkUp_succ l q r k)
      have hln := Lib.hid (walkUp_length l q r k)
      obtain ⟨px, py, hpx⟩ : ∃ px py, walkP l q r k = (px, py) := ⟨_, _, rfl⟩
      have HP := Lib.hid hpx
      rw [hpx] at pb
      simp only at pb
      clear hpx hc hx
      have c2 : wr.cell? ⟨w.heap.size, 0, none⟩ = some (.int .i64 px) ∧ wr.cell? ⟨w.heap.size, 1, none⟩ = some (.int .i64 py) := by have := hcQ.out; rw [HP.out] at this; exact this
      have HO := Lib.hid hoQ
      have hne2 := Lib.hid (HO.out.not (g := w.heap.size) (by omega))
      have zz := kQ.size
      clear hoQ hcQ
      go_wp2_with fail
      refine (hStep_any _ _ _ _ hx0 hx5 (by omega) (by omega) (by omega) (by omega)).mono ?_
      rintro e w1 ⟨rfl, k1⟩
      have r0 := k1.liv ⟨c2.1, hfQ.1⟩
      have r1 := k1.liv ⟨c2.2, hfQ.2⟩
      have O1 := Lib.hid (((HO.out.keep k1).far (fun e => hne2.out e.symm) (g := w.heap.size) (j := 0) (.int .i64 (px + dirQ x))).far (fun e => hne2.out e.symm) (g := w.heap.size) (j := 1) (.int .i64 (py + dirR x)))
      have K2 : Kp w ((w1.setCell ⟨w.heap.size, 0, none⟩ (.int .i64 (px + dirQ x))).setCell ⟨w.heap.size, 1, none⟩ (.int .i64 (py + dirR x))) := ((kQ.trans k1).setCell (by simp) _).setCell (by simp) _
      have s0 : ((w1.setCell ⟨w.heap.size, 0, none⟩ (.int .i64 (px + dirQ x))).setCell ⟨w.heap.size, 1, none⟩ (.int .i64 (py + dirR x))).cell? ⟨w.heap.size, 0, none⟩ = some (.int .i64 (px + dirQ x)) ∧ ((w1.setCell ⟨w.heap.size, 0, none⟩ (.int .i64 (px + dirQ x))).setCell ⟨w.heap.size, 1, none⟩ (.int .i64 (py + dirR x))).frozen? ⟨w.heap.size, 0, none⟩ = false := ⟨by simp [go_sem, *], by simp [go_sem, *]⟩
      have s1 : ((w1.setCell ⟨w.heap.size, 0, none⟩ (.int .i64 (px + dirQ x))).setCell ⟨w.heap.size, 1, none⟩ (.int .i64 (py + dirR x))).cell? ⟨w.heap.size, 1, none⟩ = some (.int .i64 (py + dirR x)) ∧ ((w1.setCell ⟨w.heap.size, 0, none⟩ (.int .i64 (px + dirQ x))).setCell ⟨w.heap.size, 1, none⟩ (.int .i64 (py + dirR x))).frozen? ⟨w.heap.size, 1, none⟩ = false := ⟨by simp [go_sem, *], by simp [go_sem, *]⟩
      have HS0 := Lib.hid s0
      have HS1 := Lib.hid s1
      have zz2 := K2.size
      have zz3 : w.heap.size < w1.heap.size := cell_lt r0.1
      clear k1 c2 hfQ s0 s1
      go_wp2_with (at_builtin; refine wpList_append_own_at _ rfl (.tmp 31) (.tmp 33) 28 rfl (w.heap.size + 1) 25 i0 (hx 0 0) 2 16 Tryd.underlying28 hi0 hz0 hs0 hb0 rfl (by decide) u6 (walkUp l q r k).length (cellsH (walkUp l q r k)) rfl (World.ownsRow.alloc O1.out _) ⟨w1.heap.size, 0, none⟩ 1 1 [.int .i64 (px + dirQ x), .int .i64 (py + dirR x)] rfl rfl (two_new_at (by simp) _ _ _) (by simp [Value.oneCell']) (by rw [hln.out]; simp only [maxLen]; omega) (by rw [hln.out]; omega) (by simp; omega) ?_; intro v' w3 hown2 hgrow2 hnil2 hat2; clear hnil2 hat2; have kal : Kp ((w1.setCell ⟨w.heap.size, 0, none⟩ (.int .i64 (px + dirQ x))).setCell ⟨w.heap.size, 1, none⟩ (.int .i64 (py + dirR x))) (((w1.setCell ⟨w.heap.size, 0, none⟩ (.int .i64 (px + dirQ x))).setCell ⟨w.heap.size, 1, none⟩ (.int .i64 (py + dirR x))).alloc (.cells #[.int .i64 (px + dirQ x), .int .i64 (py + dirR x)] 25)) := (Kp.refl _).alloc _; have q0 := hgrow2.cell (kal.cell HS0.out.1) hne2.out; have q1 := hgrow2.cell (kal.cell HS1.out.1) hne2.out; have q4 := grown_frozen hgrow2 (kal.cell HS0.out.1) hne2.out (kal.liv HS0.out).2; have q5 := grown_frozen hgrow2 (kal.cell HS1.out.1) hne2.out (kal.liv HS1.out).2; have K3 : Kp w w3 := (K2.trans kal).grown hgrow2 (fun k e => Nat.le_of_succ_le (World.ownsRow.lt O1.out k e).1); have O3 := Lib.hid (OwnH.snoc (x := (px + dirQ x, py + dirR x)) hown2); clear hown2 hgrow2 kal r0 r1)
      go_roundw
      case rel =>
        have e : walkP l q r (k + 1) = (px + dirQ x, py + dirR x) := by rw [hst.out, HP.out]
        have e2 : walkUp l q r (k + 1) = walkUp l q r k ++ [(px + dirQ x, py + dirR x)] := by rw [hup.out, e]
        refine ⟨k + 1, by omega, by go_num, ?_, ?_, ⟨q4, q5⟩, K3⟩
        · rw [e2]
          exact O3.out
        · rw [e]
          exact Lib.hid ⟨q0, q1⟩
      case measure => simp [intOf]; omega
    · obtain rfl : k = n := by omega
      have HO := Lib.hid hoQ
      have hll : (walkUp l q r k).length ≤ 1000000 := by rw [walkUp_length]; omega
      clear hoQ hcQ hfQ
      go_wp2_with fail
      refine (hAll_any _ (walkUp l q r k) _ HO.out.rd hll).mono ?_
      rintro e w3 ⟨rfl, k3⟩
      have K3 : Kp w w3 := kQ.trans k3
      generalize walkUp l q r k = L at *
      cases hok : allOk L
      · go_wp2_with fail
        go_ret2
        rw [hok]
        exact ListPost.no K3
      · go_wp2_with fail
        go_ret2
        rw [hok]
        exact ⟨_, rfl, (HO.out.keep k3).base (by omega), K3⟩

theorem specWalkFrom_any (q r : Int) (v : Value) (l : List Int) (w : World) (h : RdI w v l) (hl : l.length ≤ 1048576) :
    Calls Tryd.prog 14 #[hx q r, v] w (ListPost (walkOk l q r) (walkUp l q r l.length) w) := by
  by_cases hall : okH q r = true ∧ l.length ≤ 60 ∧ dirsOk l = true
  · obtain ⟨h1, h2, h3⟩ := hall
    have e : walkOk l q r = allOk (walkUp l q r l.length) := by simp [walkOk, h1, h2, h3]
    rw [e]
    exact specWalk_yes q r v l w h h1 h2 h3
  · have hno : okH q r = false ∨ ¬ l.length ≤ 60 ∨ dirsOk l = false := by
      cases h1 : okH q r
      · exact .inl rfl
      · by_cases h2 : l.length ≤ 60
        · cases h3 : dirsOk l
          · exact .inr (.inr rfl)
          · exact absurd ⟨h1, h2, h3⟩ hall
        · exact .inr (.inl h2)
    have e : walkOk l q r = false := by
      rcases hno with h | h | h
      · simp [walkOk, h]
      · have : decide (l.length ≤ 60) = false := by simpa using h
        simp only [walkOk, this, Bool.and_false, Bool.false_and]
      · simp [walkOk, h]
    rw [e]
    exact specWalk_no q r v l w h hl _ hno
end Go.Proofs.YtmodcmkmfedgoaaDoor
