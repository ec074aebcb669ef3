/-
  The program's walk: the hexes in their order and true, or none and false. Nothing that was there is changed.
-/
import Derived.Test.YtmodcmkmfedgoaaDoorWalk
import Derived.Test.YtmodcmkmfedgoaaDoorDirTo
import Derived.Test.YtmodcmkmfedgoaaDoorOwnB
namespace Go.Proofs.YtmodcmkmfedgoaaDoor
open Go.RowKit

set_option maxHeartbeats 4000000 in
theorem walkFrom_yes (q r : Int) (v : Value) (l : List Int) (w : World) (ht : Tab w) (ha : okH q r = true) (hl : l.length ≤ 60) (h : RdI w v l) :
    Calls Tryd.prog 13 #[hx q r, v] w (ListPost (dirsOk l && allOk (walkUp l q r l.length)) (walkUp l q r l.length) w) := by
  have A1 := okH_true ha
  have HBd := Lib.hid (walkP_bd (l := l) (q := q) (r := r) (by omega) (by omega) (by omega) (by omega))
  have HT := Lib.hid ht
  obtain ⟨i0, hi0, hz0, hs0, hb0⟩ := info_parts infoHex
  obtain ⟨A, c, rfl, h⟩ := h
  have HA := Lib.hid h
  clear h ht
  obtain ⟨n, hn⟩ : ∃ n, l.length = n := ⟨_, rfl⟩
  have HN := Lib.hid hn
  rw [hn] at hl ⊢
  rw [hn] at HA
  clear hn
  have hmk := fun w => mkHexes n hl w
  have hl60 : ¬ (60 : Int) < n := by omega
  go_enter Tryd.func13, Tryd.ntmps13
  go_wp2_with fail
  refine (isHex_any _ _ _).mono ?_
  rintro e wa ⟨rfl, ka⟩
  have L0 : wa.cell? ⟨w.heap.size, 0, none⟩ = some (.int .i64 q) ∧ wa.frozen? ⟨w.heap.size, 0, none⟩ = false := ka.liv ⟨by simp [go_sem], by simp [go_sem]⟩
  have L1 : wa.cell? ⟨w.heap.size, 1, none⟩ = some (.int .i64 r) ∧ wa.frozen? ⟨w.heap.size, 1, none⟩ = false := ka.liv ⟨by simp [go_sem], by simp [go_sem]⟩
  have K1 : Kp w wa := ((Kp.refl _).alloc _).trans ka
  have l0 := cell_lt L0.1
  clear ka
  have ho : OwnH (wa.alloc (.cells (madeCells #[.int .i64 0, .int .i64 0] (n * 2)) 25)) (w.heap.size + 1) (.slice (some ⟨wa.heap.size, 0, none⟩) 0 n) [] :=
    World.ownsRow_made wa _ n (by omega) (by simp only [maxLen]; omega) (size_madeCells _ _)
  have kal : Kp wa (wa.alloc (.cells (madeCells #[.int .i64 0, .int .i64 0] (n * 2)) 25)) := (Kp.refl _).alloc _
  have M0 := kal.liv L0
  have M1 := kal.liv L1
  have K2 := K1.trans kal
  go_wp2_with fail
  go_loopw [6, 24] (fun v s24 wx => ∃ k : Nat, k ≤ n ∧ s24 = .int .i64 k ∧ OwnH wx (w.heap.size + 1) v (walkUp l q r k) ∧ Hid (wx.cell? ⟨w.heap.size, 0, none⟩ = some (.int .i64 (walkP l q r k).1) ∧ wx.cell? ⟨w.heap.size, 1, none⟩ = some (.int .i64 (walkP l q r k).2)) ∧ (wx.frozen? ⟨w.heap.size, 0, none⟩ = false ∧ wx.frozen? ⟨w.heap.size, 1, none⟩ = false) ∧ Hid ((∀ j x, j < k → l[j]? = some x → dirB x = true) ∧ allOk (walkUp l q r k) = true ∧ okH (walkP l q r k).1 (walkP l q r k).2 = true) ∧ Kp w wx) (fun _ s24 _ => n - (intOf s24).toNat)
  case atStart => exact ⟨0, by omega, rfl, ho, Lib.hid ⟨M0.1, M1.1⟩, ⟨M0.2, M1.2⟩, Lib.hid ⟨fun j x hj => absurd hj (by omega), rfl, ha⟩, K2⟩
  case round =>
    clear ho kal M0 M1 K2 L0 L1 hmk
    obtain ⟨k, hk, rfl, hoQ, hcQ, hfQ, hokQ, kQ⟩ := hrel
    by_cases hlt : k < n
    · have hlt' : (k : Int) < n := by omega
      obtain ⟨g, off, rfl, hc⟩ := HA.out (by omega)
      obtain ⟨x, hx⟩ : ∃ x, l[k]? = some x := ⟨l[k]'(by have := HN.out; omega), List.getElem?_eq_getElem _⟩
      have a0 := kQ.cell (hc k x hx)
      have HX := Lib.hid hx
      have pb := HBd.out k
      have hst := Lib.hid (show walkP l q r (k + 1) = ((walkP l q r k).1 + dirQ x, (walkP l q r k).2 + dirR x) by simp only [walkP, hx, Option.getD_some])
      have hup := Lib.hid (walkUp_succ l q r k)
      have hln := Lib.hid (walkUp_length l q r k)
      obtain ⟨px, py, hpx⟩ : ∃ px py, walkP l q r k = (px, py) := ⟨_, _, rfl⟩
      have HP := Lib.hid hpx
      rw [hpx] at pb
      simp only at pb
      clear hpx hc hx
      have c2 : wr.cell? ⟨w.heap.size, 0, none⟩ = some (.int .i64 px) ∧ wr.cell? ⟨w.heap.size, 1, none⟩ = some (.int .i64 py) := by have := hcQ.out; rw [HP.out] at this; exact this
      have okp : okH px py = true := by have := hokQ.out.2.2; rw [HP.out] at this; exact this
      have HO := Lib.hid hoQ
      have hne2 := Lib.hid (HO.out.not (g := w.heap.size) (by omega))
      have zz := kQ.size
      have bd := dir_bd x
      clear hoQ hcQ
      cases hB : nbOk px py x
      · have HC := Lib.hid (show ∀ w, Tab w → Calls Tryd.prog 33 #[hx px py, .int .i64 x] w fun e w' => e = .returned (.tuple #[hx 0 0, .bool false]) ∧ Kp w w' from fun w ht => by have := neighbourOf_any px py x w ht; rw [hB] at this; exact this)
        have HR : Hid ((dirsOk l && allOk (walkUp l q r n)) = false) := Lib.hid (by
          cases hd : dirB x
          · rw [dirsOk_false HX.out hd, Bool.false_and]
          · have : okH (px + dirQ x) (py + dirR x) = false := by
              have hB' := hB
              simp only [nbOk, okp, show (decide (0 ≤ x) && decide (x ≤ 5)) = true from hd, Bool.true_and] at hB'
              exact hB'
            rw [allOk_false (walkUp_at l q r n k hlt) (by rw [hst.out, HP.out]; exact this), Bool.and_false])
        clear hB
        go_wp2_with fail
        refine (HC.out _ (HT.out.keep kQ)).mono ?_
        rintro e w1 ⟨rfl, k1⟩
        go_wp2_with fail
        go_ret2
        rw [HR.out]
        exact ListPost.no ((kQ.trans k1).alloc _)
      · have HC := Lib.hid (show ∀ w, Tab w → Calls Tryd.prog 33 #[hx px py, .int .i64 x] w fun e w' => e = .returned (.tuple #[hx (px + dirQ x) (py + dirR x), .bool true]) ∧ Kp w w' from fun w ht => by have := neighbourOf_any px py x w ht; rw [hB] at this; exact this)
        have HB2 : Hid (dirB x = true ∧ okH (px + dirQ x) (py + dirR x) = true) := Lib.hid (by
          simp only [nbOk, okp, Bool.true_and, Bool.and_eq_true] at hB
          exact ⟨by simp only [dirB, Bool.and_eq_true]; exact hB.1, hB.2⟩)
        clear hB
        go_wp2_with fail
        refine (HC.out _ (HT.out.keep kQ)).mono ?_
        rintro e w1 ⟨rfl, k1⟩
        have r0 := k1.liv ⟨c2.1, hfQ.1⟩
        have r1 := k1.liv ⟨c2.2, hfQ.2⟩
        have O1 := Lib.hid (HO.out.keep k1)
        have K2 : Kp w w1 := kQ.trans k1
        have zz2 := K2.size
        have l2 := cell_lt r0.1
        have n2 : w.heap.size ≠ w1.heap.size := by omega
        clear k1 c2 hfQ
        have hn9 := Lib.hid (O1.out.block w1.heap.size (Nat.le_refl _))
        go_wp2_with (at_builtin; refine wpList_append_own_at _ rfl (.tmp 36) (.tmp 38) 28 rfl (w.heap.size + 1) 25 i0 (hx 0 0) 2 16 Tryd.underlying28 hi0 hz0 hs0 hb0 rfl (by decide) u6 (walkUp l q r k).length (cellsH (walkUp l q r k)) rfl (World.ownsRow.alloc (World.ownsRow.alloc O1.out _) _) ⟨w1.heap.size + 1, 0, none⟩ 1 1 [.int .i64 (px + dirQ x), .int .i64 (py + dirR x)] rfl rfl (two_new_at (by simp) _ _ _) (by simp [Value.oneCell']) (by rw [hln.out]; simp only [maxLen]; omega) (by rw [hln.out]; omega) (by simp; omega) ?_; intro v' w3 hown2 hgrow2 hnil2 hat2; clear hnil2 hat2; have kal : Kp w1 ((w1.alloc (.cells #[.int .i64 (px + dirQ x), .int .i64 (py + dirR x)] 25)).alloc (.cells #[.int .i64 (px + dirQ x), .int .i64 (py + dirR x)] 25)) := ((Kp.refl w1).alloc _).alloc _; have q0 := hgrow2.cell (kal.cell r0.1) hne2.out; have q1 := hgrow2.cell (kal.cell r1.1) hne2.out; have q4 := grown_frozen hgrow2 (kal.cell r0.1) hne2.out (kal.liv r0).2; have q5 := grown_frozen hgrow2 (kal.cell r1.1) hne2.out (kal.liv r1).2; have y0 := hgrow2.cell (a := ⟨w1.heap.size, 0, none⟩) (v := .int .i64 (px + dirQ x)) (by simp [go_sem]) (fun e => hn9.out e.symm); have y1 := hgrow2.cell (a := ⟨w1.heap.size, 1, none⟩) (v := .int .i64 (py + dirR x)) (by simp [go_sem]) (fun e => hn9.out e.symm); have K3 : Kp w w3 := (K2.trans kal).grown hgrow2 (fun k e => Nat.le_of_succ_le (World.ownsRow.lt O1.out k e).1); have O3 := Lib.hid (OwnH.snoc (x := (px + dirQ x, py + dirR x)) hown2); clear hown2 hgrow2 kal r0 r1)
        go_roundw
        case rel =>
          have e : walkP l q r (k + 1) = (px + dirQ x, py + dirR x) := by rw [hst.out, HP.out]
          have e2 : walkUp l q r (k + 1) = walkUp l q r k ++ [(px + dirQ x, py + dirR x)] := by rw [hup.out, e]
          have N2 : v'.ownBlock ≠ some w.heap.size := fun e => (O3.out.not (g := w.heap.size) (by omega)) e.symm
          refine ⟨k + 1, by omega, by go_num, ?_, ?_, ?_, ?_, ?_⟩
          · rw [e2]
            exact (O3.out.far N2 _).far N2 _
          · rw [e]
            exact Lib.hid ⟨by simp [go_sem, *], by simp [go_sem, *]⟩
          · exact ⟨by simp [go_sem, *], by simp [go_sem, *]⟩
          · refine Lib.hid ⟨fun j y hj hy => ?_, ?_, ?_⟩
            · rcases Nat.lt_or_ge j k with h | h
              · exact hokQ.out.1 j y h hy
              · obtain rfl : j = k := by omega
                rw [HX.out] at hy
                obtain rfl := Option.some.inj hy
                exact HB2.out.1
            · rw [e2]
              have h1 := hokQ.out.2.1
              unfold allOk at h1 ⊢
              rw [List.all_append, h1]
              simp [HB2.out.2]
            · rw [e]
              exact HB2.out.2
          · exact (K3.setCell (by simp) _).setCell (by simp) _
        case measure => simp [intOf]; omega
    · obtain rfl : k = n := by omega
      go_wp2_with fail
      go_ret2
      rw [dirsOk_true fun i x hx => hokQ.out.1 i x (by have := (List.getElem?_eq_some_iff.1 hx).1; have := HN.out; omega) hx, hokQ.out.2.1]
      exact ⟨_, rfl, hoQ.base (by omega), kQ⟩

theorem walkFrom_any (q r : Int) (v : Value) (l : List Int) (w : World) (ht : Tab w) (h : RdI w v l) (hl : l.length ≤ 1048576) :
    Calls Tryd.prog 13 #[hx q r, v] w (ListPost (walkOk l q r) (walkUp l q r l.length) w) := by
  cases ha : okH q r
  · have e : walkOk l q r = false := by simp [walkOk, ha]
    rw [e]
    obtain ⟨A, c, rfl, _⟩ := h
    go_enter Tryd.func13, Tryd.ntmps13
    go_wp2_with fail
    refine (isHex_any _ _ _).mono ?_
    rintro e w1 ⟨rfl, k1⟩
    go_wp2_with fail
    go_ret2
    exact ListPost.no (((Kp.refl _).alloc _).trans k1)
  · by_cases h60 : l.length ≤ 60
    · have e : walkOk l q r = (dirsOk l && allOk (walkUp l q r l.length)) := by simp [walkOk, ha, h60]
      rw [e]
      exact walkFrom_yes q r v l w ht ha h60 h
    · have e : walkOk l q r = false := by
        have : decide (l.length ≤ 60) = false := by simpa using h60
        simp only [walkOk, this, Bool.and_false, Bool.false_and]
      rw [e]
      obtain ⟨A, c, rfl, _⟩ := h
      obtain ⟨L, hL⟩ : ∃ L, L = walkUp l q r l.length := ⟨_, rfl⟩
      rw [← hL]
      clear hL
      generalize l.length = n at *
      have hl60 : (60 : Int) < n := by omega
      clear e
      go_enter Tryd.func13, Tryd.ntmps13
      go_wp2_with fail
      refine (isHex_any _ _ _).mono ?_
      rintro e w1 ⟨rfl, k1⟩
      go_wp2_with fail
      go_ret2
      exact ListPost.no (((Kp.refl _).alloc _).trans k1)
end Go.Proofs.YtmodcmkmfedgoaaDoor
