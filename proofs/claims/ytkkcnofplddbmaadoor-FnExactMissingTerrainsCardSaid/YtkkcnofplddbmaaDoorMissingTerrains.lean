/-
  The law on MissingTerrains holds at every argument: the program's answer is the reference's, in memory of its own, and the arguments read as before. The named variables hold what the program's text lays (the card ties them).
-/
import Derived.Test.YtkkcnofplddbmaaDoorBrdX
import Derived.Test.YtkkcnofplddbmaaDoorBrdK
import Derived.Test.YtkkcnofplddbmaaDoorTabS
namespace Go.Proofs.YtkkcnofplddbmaaDoor
open Go.RowKit

theorem misS_append (nt : Nat) : ∀ (a acc b : List Int), misS nt acc (a ++ b) = misS nt (misS nt acc a) b
  | [], _, _ => rfl
  | t :: a, acc, b => by
    rw [List.cons_append, misS, misS, misS_append nt a]
theorem misS_len (nt : Nat) : ∀ (l acc : List Int), (misS nt acc l).length ≤ acc.length + l.length
  | [], acc => by simp [misS]
  | t :: l, acc => by
    have h1 := misS_len nt l (if (nt : Int) ≤ t then putI acc t else acc)
    have h2 := putI_le acc t
    rw [misS, List.length_cons]
    split at h1
    · rename_i h
      rw [if_pos h]
      omega
    · rename_i h
      rw [if_neg h]
      omega
theorem misS_more {nt q : Nat} {l : List Int} {t : Int} (h : l[q]? = some t) : misS nt [] (l.take (q + 1)) = if (nt : Int) ≤ t then putI (misS nt [] (l.take q)) t else misS nt [] (l.take q) := by
  rw [List.take_add_one, h, misS_append]
  rfl

set_option maxRecDepth 100000 in
set_option maxHeartbeats 4000000 in
theorem specMissing_any (At Ak : Option Addr) (nt nk ct ck : Nat) (l : List Ter) (m : List Knd) (a b c d e W H : Int) (x r y : Value) (lt lr ld : List Int) (w : World) (hB : BrdAt w At Ak nt nk l m x r y lt lr ld) :
    Calls Tryd.prog 40 #[rv (.slice At nt ct) (.slice Ak nk ck) a b c d e, mp W H x r y] w (ListPostI (rulOk ⟨l, m, a, b, c, d, e⟩ && mapOk W H lt lr ld) (misL lt nt) w) := by
  obtain ⟨mt, hmt⟩ : ∃ n, lt.length = n := ⟨_, rfl⟩
  obtain ⟨Bx, bx, ex, hrx⟩ := hB.L.rt
  rw [hmt] at ex hrx
  subst ex
  have KA : Kp w ((w.alloc (.cells #[.slice At nt ct, .slice Ak nk ck, .int .i64 a, .int .i64 b, .int .i64 c, .int .i64 d, .int .i64 e] 31)).alloc (.cells #[.int .i64 W, .int .i64 H, .slice Bx mt bx, r, y] 42)) := ((Kp.refl w).alloc _).alloc _
  have s0 : ((w.alloc (.cells #[.slice At nt ct, .slice Ak nk ck, .int .i64 a, .int .i64 b, .int .i64 c, .int .i64 d, .int .i64 e] 31)).alloc (.cells #[.int .i64 W, .int .i64 H, .slice Bx mt bx, r, y] 42)).cell? ⟨w.heap.size, 0, none⟩ = some (.slice At nt ct) ∧ ((w.alloc (.cells #[.slice At nt ct, .slice Ak nk ck, .int .i64 a, .int .i64 b, .int .i64 c, .int .i64 d, .int .i64 e] 31)).alloc (.cells #[.int .i64 W, .int .i64 H, .slice Bx mt bx, r, y] 42)).cell? ⟨w.heap.size, 1, none⟩ = some (.slice Ak nk ck) ∧ ((w.alloc (.cells #[.slice At nt ct, .slice Ak nk ck, .int .i64 a, .int .i64 b, .int .i64 c, .int .i64 d, .int .i64 e] 31)).alloc (.cells #[.int .i64 W, .int .i64 H, .slice Bx mt bx, r, y] 42)).cell? ⟨w.heap.size, 2, none⟩ = some (.int .i64 a) ∧ ((w.alloc (.cells #[.slice At nt ct, .slice Ak nk ck, .int .i64 a, .int .i64 b, .int .i64 c, .int .i64 d, .int .i64 e] 31)).alloc (.cells #[.int .i64 W, .int .i64 H, .slice Bx mt bx, r, y] 42)).cell? ⟨w.heap.size, 3, none⟩ = some (.int .i64 b) ∧ ((w.alloc (.cells #[.slice At nt ct, .slice Ak nk ck, .int .i64 a, .int .i64 b, .int .i64 c, .int .i64 d, .int .i64 e] 31)).alloc (.cells #[.int .i64 W, .int .i64 H, .slice Bx mt bx, r, y] 42)).cell? ⟨w.heap.size, 4, none⟩ = some (.int .i64 c) ∧ ((w.alloc (.cells #[.slice At nt ct, .slice Ak nk ck, .int .i64 a, .int .i64 b, .int .i64 c, .int .i64 d, .int .i64 e] 31)).alloc (.cells #[.int .i64 W, .int .i64 H, .slice Bx mt bx, r, y] 42)).cell? ⟨w.heap.size, 5, none⟩ = some (.int .i64 d) ∧ ((w.alloc (.cells #[.slice At nt ct, .slice Ak nk ck, .int .i64 a, .int .i64 b, .int .i64 c, .int .i64 d, .int .i64 e] 31)).alloc (.cells #[.int .i64 W, .int .i64 H, .slice Bx mt bx, r, y] 42)).cell? ⟨w.heap.size, 6, none⟩ = some (.int .i64 e) ∧ ((w.alloc (.cells #[.slice At nt ct, .slice Ak nk ck, .int .i64 a, .int .i64 b, .int .i64 c, .int .i64 d, .int .i64 e] 31)).alloc (.cells #[.int .i64 W, .int .i64 H, .slice Bx mt bx, r, y] 42)).cell? ⟨w.heap.size + 1, 0, none⟩ = some (.int .i64 W) ∧ ((w.alloc (.cells #[.slice At nt ct, .slice Ak nk ck, .int .i64 a, .int .i64 b, .int .i64 c, .int .i64 d, .int .i64 e] 31)).alloc (.cells #[.int .i64 W, .int .i64 H, .slice Bx mt bx, r, y] 42)).cell? ⟨w.heap.size + 1, 1, none⟩ = some (.int .i64 H) ∧ ((w.alloc (.cells #[.slice At nt ct, .slice Ak nk ck, .int .i64 a, .int .i64 b, .int .i64 c, .int .i64 d, .int .i64 e] 31)).alloc (.cells #[.int .i64 W, .int .i64 H, .slice Bx mt bx, r, y] 42)).cell? ⟨w.heap.size + 1, 2, none⟩ = some (.slice Bx mt bx) ∧ ((w.alloc (.cells #[.slice At nt ct, .slice Ak nk ck, .int .i64 a, .int .i64 b, .int .i64 c, .int .i64 d, .int .i64 e] 31)).alloc (.cells #[.int .i64 W, .int .i64 H, .slice Bx mt bx, r, y] 42)).cell? ⟨w.heap.size + 1, 3, none⟩ = some (r) ∧ ((w.alloc (.cells #[.slice At nt ct, .slice Ak nk ck, .int .i64 a, .int .i64 b, .int .i64 c, .int .i64 d, .int .i64 e] 31)).alloc (.cells #[.int .i64 W, .int .i64 H, .slice Bx mt bx, r, y] 42)).cell? ⟨w.heap.size + 1, 4, none⟩ = some (y) ∧ Kp w ((w.alloc (.cells #[.slice At nt ct, .slice Ak nk ck, .int .i64 a, .int .i64 b, .int .i64 c, .int .i64 d, .int .i64 e] 31)).alloc (.cells #[.int .i64 W, .int .i64 H, .slice Bx mt bx, r, y] 42)) := ⟨by simp [go_sem], by simp [go_sem], by simp [go_sem], by simp [go_sem], by simp [go_sem], by simp [go_sem], by simp [go_sem], by simp [go_sem], by simp [go_sem], by simp [go_sem], by simp [go_sem], by simp [go_sem], KA⟩
  have HB := Lib.hid hB
  have HX := Lib.hid hrx
  have HN := Lib.hid hmt
  have hbt := hB.R.bt
  have C1 := Lib.hid (rGood_any At Ak nt nk ct ck l m a b c d e _ (hB.R.keep KA))
  cases hr : rulOk ⟨l, m, a, b, c, d, e⟩
  · rw [hr] at C1
    clear hB hr hrx hmt
    go_enter Tryd.func40, Tryd.ntmps40
    go_wp2_with fail
    refine C1.out.mono ?_
    rintro e1 w1 ⟨rfl, k1⟩
    go_wp2_with fail
    go_ret2
    exact ListPostI.no (KA.trans k1)
  · rw [hr] at C1
    have CM := Lib.hid (fun w h => mGood_any W H (.slice Bx mt bx) r y lt lr ld w h)
    cases hm : mapOk W H lt lr ld
    · rw [hm] at CM
      clear hB hr hrx hmt hm
      go_enter Tryd.func40, Tryd.ntmps40
      go_wp2_with fail
      refine C1.out.mono ?_
      rintro e1 w1 ⟨rfl, k1⟩
      have s1 : w1.cell? ⟨w.heap.size, 0, none⟩ = some (.slice At nt ct) ∧ w1.cell? ⟨w.heap.size, 1, none⟩ = some (.slice Ak nk ck) ∧ w1.cell? ⟨w.heap.size, 2, none⟩ = some (.int .i64 a) ∧ w1.cell? ⟨w.heap.size, 3, none⟩ = some (.int .i64 b) ∧ w1.cell? ⟨w.heap.size, 4, none⟩ = some (.int .i64 c) ∧ w1.cell? ⟨w.heap.size, 5, none⟩ = some (.int .i64 d) ∧ w1.cell? ⟨w.heap.size, 6, none⟩ = some (.int .i64 e) ∧ w1.cell? ⟨w.heap.size + 1, 0, none⟩ = some (.int .i64 W) ∧ w1.cell? ⟨w.heap.size + 1, 1, none⟩ = some (.int .i64 H) ∧ w1.cell? ⟨w.heap.size + 1, 2, none⟩ = some (.slice Bx mt bx) ∧ w1.cell? ⟨w.heap.size + 1, 3, none⟩ = some (r) ∧ w1.cell? ⟨w.heap.size + 1, 4, none⟩ = some (y) ∧ Kp w w1 := ⟨k1.cell s0.1, k1.cell s0.2.1, k1.cell s0.2.2.1, k1.cell s0.2.2.2.1, k1.cell s0.2.2.2.2.1, k1.cell s0.2.2.2.2.2.1, k1.cell s0.2.2.2.2.2.2.1, k1.cell s0.2.2.2.2.2.2.2.1, k1.cell s0.2.2.2.2.2.2.2.2.1, k1.cell s0.2.2.2.2.2.2.2.2.2.1, k1.cell s0.2.2.2.2.2.2.2.2.2.2.1, k1.cell s0.2.2.2.2.2.2.2.2.2.2.2.1, s0.2.2.2.2.2.2.2.2.2.2.2.2.trans k1⟩
      clear s0 k1
      go_wp2_with fail
      refine (CM.out _ (HB.out.keep s1.2.2.2.2.2.2.2.2.2.2.2.2).L).mono ?_
      rintro e2 w2 ⟨rfl, k2⟩
      go_wp2_with fail
      go_ret2
      exact ListPostI.no (s1.2.2.2.2.2.2.2.2.2.2.2.2.trans k2)
    · have hlen := mapOk_len hm
      obtain ⟨h1, h2, h3, h4⟩ := mapOk_side hm
      have hA := area_bd h1 h2 h3 h4
      have hm100 : mt ≤ 100 := by omega
      have e0 : misL lt nt = misS nt [] lt := (misS_eq (mapOk_terr hm)).symm
      rw [e0]
      rw [hm] at CM
      clear hB hr hrx hmt hm hlen h1 h2 h3 h4 hA e0
      go_enter Tryd.func40, Tryd.ntmps40
      go_wp2_with fail
      refine C1.out.mono ?_
      rintro e1 w1 ⟨rfl, k1⟩
      have s1 : w1.cell? ⟨w.heap.size, 0, none⟩ = some (.slice At nt ct) ∧ w1.cell? ⟨w.heap.size, 1, none⟩ = some (.slice Ak nk ck) ∧ w1.cell? ⟨w.heap.size, 2, none⟩ = some (.int .i64 a) ∧ w1.cell? ⟨w.heap.size, 3, none⟩ = some (.int .i64 b) ∧ w1.cell? ⟨w.heap.size, 4, none⟩ = some (.int .i64 c) ∧ w1.cell? ⟨w.heap.size, 5, none⟩ = some (.int .i64 d) ∧ w1.cell? ⟨w.heap.size, 6, none⟩ = some (.int .i64 e) ∧ w1.cell? ⟨w.heap.size + 1, 0, none⟩ = some (.int .i64 W) ∧ w1.cell? ⟨w.heap.size + 1, 1, none⟩ = some (.int .i64 H) ∧ w1.cell? ⟨w.heap.size + 1, 2, none⟩ = some (.slice Bx mt bx) ∧ w1.cell? ⟨w.heap.size + 1, 3, none⟩ = some (r) ∧ w1.cell? ⟨w.heap.size + 1, 4, none⟩ = some (y) ∧ Kp w w1 := ⟨k1.cell s0.1, k1.cell s0.2.1, k1.cell s0.2.2.1, k1.cell s0.2.2.2.1, k1.cell s0.2.2.2.2.1, k1.cell s0.2.2.2.2.2.1, k1.cell s0.2.2.2.2.2.2.1, k1.cell s0.2.2.2.2.2.2.2.1, k1.cell s0.2.2.2.2.2.2.2.2.1, k1.cell s0.2.2.2.2.2.2.2.2.2.1, k1.cell s0.2.2.2.2.2.2.2.2.2.2.1, k1.cell s0.2.2.2.2.2.2.2.2.2.2.2.1, s0.2.2.2.2.2.2.2.2.2.2.2.2.trans k1⟩
      clear s0 k1
      go_wp2_with fail
      refine (CM.out _ (HB.out.keep s1.2.2.2.2.2.2.2.2.2.2.2.2).L).mono ?_
      rintro e2 w2 ⟨rfl, k2⟩
      have s2 : w2.cell? ⟨w.heap.size, 0, none⟩ = some (.slice At nt ct) ∧ w2.cell? ⟨w.heap.size, 1, none⟩ = some (.slice Ak nk ck) ∧ w2.cell? ⟨w.heap.size, 2, none⟩ = some (.int .i64 a) ∧ w2.cell? ⟨w.heap.size, 3, none⟩ = some (.int .i64 b) ∧ w2.cell? ⟨w.heap.size, 4, none⟩ = some (.int .i64 c) ∧ w2.cell? ⟨w.heap.size, 5, none⟩ = some (.int .i64 d) ∧ w2.cell? ⟨w.heap.size, 6, none⟩ = some (.int .i64 e) ∧ w2.cell? ⟨w.heap.size + 1, 0, none⟩ = some (.int .i64 W) ∧ w2.cell? ⟨w.heap.size + 1, 1, none⟩ = some (.int .i64 H) ∧ w2.cell? ⟨w.heap.size + 1, 2, none⟩ = some (.slice Bx mt bx) ∧ w2.cell? ⟨w.heap.size + 1, 3, none⟩ = some (r) ∧ w2.cell? ⟨w.heap.size + 1, 4, none⟩ = some (y) ∧ Kp w w2 := ⟨k2.cell s1.1, k2.cell s1.2.1, k2.cell s1.2.2.1, k2.cell s1.2.2.2.1, k2.cell s1.2.2.2.2.1, k2.cell s1.2.2.2.2.2.1, k2.cell s1.2.2.2.2.2.2.1, k2.cell s1.2.2.2.2.2.2.2.1, k2.cell s1.2.2.2.2.2.2.2.2.1, k2.cell s1.2.2.2.2.2.2.2.2.2.1, k2.cell s1.2.2.2.2.2.2.2.2.2.2.1, k2.cell s1.2.2.2.2.2.2.2.2.2.2.2.1, s1.2.2.2.2.2.2.2.2.2.2.2.2.trans k2⟩
      clear s1 k2
      go_wp2_with fail
      go_loopw [6, 8, 20] (fun v _ sq wx => ∃ q : Nat, q ≤ mt ∧ sq = .int .i64 q ∧ OwnI wx (w.heap.size + 2) v (misS nt [] (lt.take q)) ∧ wx.cell? ⟨w.heap.size, 0, none⟩ = some (.slice At nt ct) ∧ wx.cell? ⟨w.heap.size, 1, none⟩ = some (.slice Ak nk ck) ∧ wx.cell? ⟨w.heap.size, 2, none⟩ = some (.int .i64 a) ∧ wx.cell? ⟨w.heap.size, 3, none⟩ = some (.int .i64 b) ∧ wx.cell? ⟨w.heap.size, 4, none⟩ = some (.int .i64 c) ∧ wx.cell? ⟨w.heap.size, 5, none⟩ = some (.int .i64 d) ∧ wx.cell? ⟨w.heap.size, 6, none⟩ = some (.int .i64 e) ∧ wx.cell? ⟨w.heap.size + 1, 0, none⟩ = some (.int .i64 W) ∧ wx.cell? ⟨w.heap.size + 1, 1, none⟩ = some (.int .i64 H) ∧ wx.cell? ⟨w.heap.size + 1, 2, none⟩ = some (.slice Bx mt bx) ∧ wx.cell? ⟨w.heap.size + 1, 3, none⟩ = some (r) ∧ wx.cell? ⟨w.heap.size + 1, 4, none⟩ = some (y) ∧ Kp w wx) (fun _ _ sq _ => mt - (intOf sq).toNat)
      case atStart => exact ⟨0, by omega, rfl, OwnI.nil _ _, s2⟩
      case round =>
        clear s2
        obtain ⟨q, hq, rfl, hoR, sr⟩ := hrel
        by_cases hlt : q < mt
        · have hlt' : (q : Int) < mt := by omega
          obtain ⟨g, off, rfl, hc⟩ := HX.out (by omega)
          obtain ⟨z, hz⟩ : ∃ z, lt[q]? = some z := ⟨lt[q]'(by have := HN.out; omega), List.getElem?_eq_getElem _⟩
          have kr : Kp w wr := sr.2.2.2.2.2.2.2.2.2.2.2.2
          have a0 := kr.cell (hc q z hz)
          have HM := Lib.hid (misS_more (nt := nt) hz)
          have HO := Lib.hid hoR
          have hln : Hid ((misS nt [] (lt.take q)).length ≤ 1048576) := Lib.hid (by
            have := misS_len nt (lt.take q) []
            rw [List.length_take] at this
            simp at this
            omega)
          have hbk : w.heap.size + 2 ≤ wr.heap.size := by have := cell_lt sr.2.2.2.2.2.2.2.1; omega
          clear hc hz hoR
          by_cases hge : (nt : Int) ≤ z
          · have hd : decide ((nt : Int) ≤ z) = true := by simpa using hge
            have HS : Hid (misS nt [] (lt.take (q + 1)) = putI (misS nt [] (lt.take q)) z) := Lib.hid (by rw [HM.out, if_pos hge])
            go_wp2_with fail
            refine (l1Put_any _ (misS nt [] (lt.take q)) z (w.heap.size + 2) _ HO.out (by omega) hln.out).mono ?_
            rintro e3 w3 ⟨v3, rfl, o3, k3⟩
            have O3 := Lib.hid o3
            have s3 : w3.cell? ⟨w.heap.size, 0, none⟩ = some (.slice At nt ct) ∧ w3.cell? ⟨w.heap.size, 1, none⟩ = some (.slice Ak nk ck) ∧ w3.cell? ⟨w.heap.size, 2, none⟩ = some (.int .i64 a) ∧ w3.cell? ⟨w.heap.size, 3, none⟩ = some (.int .i64 b) ∧ w3.cell? ⟨w.heap.size, 4, none⟩ = some (.int .i64 c) ∧ w3.cell? ⟨w.heap.size, 5, none⟩ = some (.int .i64 d) ∧ w3.cell? ⟨w.heap.size, 6, none⟩ = some (.int .i64 e) ∧ w3.cell? ⟨w.heap.size + 1, 0, none⟩ = some (.int .i64 W) ∧ w3.cell? ⟨w.heap.size + 1, 1, none⟩ = some (.int .i64 H) ∧ w3.cell? ⟨w.heap.size + 1, 2, none⟩ = some (.slice (some ⟨g, off, none⟩) mt bx) ∧ w3.cell? ⟨w.heap.size + 1, 3, none⟩ = some (r) ∧ w3.cell? ⟨w.heap.size + 1, 4, none⟩ = some (y) ∧ Kp w w3 := ⟨k3.cell sr.1, k3.cell sr.2.1, k3.cell sr.2.2.1, k3.cell sr.2.2.2.1, k3.cell sr.2.2.2.2.1, k3.cell sr.2.2.2.2.2.1, k3.cell sr.2.2.2.2.2.2.1, k3.cell sr.2.2.2.2.2.2.2.1, k3.cell sr.2.2.2.2.2.2.2.2.1, k3.cell sr.2.2.2.2.2.2.2.2.2.1, k3.cell sr.2.2.2.2.2.2.2.2.2.2.1, k3.cell sr.2.2.2.2.2.2.2.2.2.2.2.1, kr.trans k3⟩
            clear o3 k3 sr
            go_wp2_with fail
            go_roundw
            case rel => exact ⟨q + 1, by omega, by go_num, by rw [HS.out]; exact O3.out, s3⟩
            case measure => simp [intOf]; omega
          · have hd : decide ((nt : Int) ≤ z) = false := by simpa using hge
            have HS : Hid (misS nt [] (lt.take (q + 1)) = misS nt [] (lt.take q)) := Lib.hid (by rw [HM.out, if_neg hge])
            go_wp2_with fail
            go_roundw
            case rel => exact ⟨q + 1, by omega, by go_num, by rw [HS.out]; exact HO.out, sr⟩
            case measure => simp [intOf]; omega
        · obtain rfl : q = mt := by omega
          have et : lt.take q = lt := List.take_of_length_le (by have := HN.out; omega)
          rw [et] at hoR
          go_wp2_with fail
          go_ret2
          exact ⟨_, rfl, hoR.base (by omega), sr.2.2.2.2.2.2.2.2.2.2.2.2⟩

end Go.Proofs.YtkkcnofplddbmaaDoor
namespace Go.Proofs.YtkkcnofplddbmaaDoor.missingTerrainsLaw
open Go.ChangeShapes Go.WideShapes Go.ChangeAt Go.RowKit Go.Joins

theorem keep12k {W0 w w1 : World} {p0 p1 p2 p3 p4 p5 p6 p7 p8 p9 p10 p11 : Addr} {v0 v1 v2 v3 v4 v5 v6 v7 v8 v9 v10 v11 : Value} (k : Kp w w1) (h : w.cell? p0 = some v0 ∧ w.cell? p1 = some v1 ∧ w.cell? p2 = some v2 ∧ w.cell? p3 = some v3 ∧ w.cell? p4 = some v4 ∧ w.cell? p5 = some v5 ∧ w.cell? p6 = some v6 ∧ w.cell? p7 = some v7 ∧ w.cell? p8 = some v8 ∧ w.cell? p9 = some v9 ∧ w.cell? p10 = some v10 ∧ w.cell? p11 = some v11 ∧ Kp W0 w) : w1.cell? p0 = some v0 ∧ w1.cell? p1 = some v1 ∧ w1.cell? p2 = some v2 ∧ w1.cell? p3 = some v3 ∧ w1.cell? p4 = some v4 ∧ w1.cell? p5 = some v5 ∧ w1.cell? p6 = some v6 ∧ w1.cell? p7 = some v7 ∧ w1.cell? p8 = some v8 ∧ w1.cell? p9 = some v9 ∧ w1.cell? p10 = some v10 ∧ w1.cell? p11 = some v11 ∧ Kp W0 w1 :=
  ⟨k.cell h.1, k.cell h.2.1, k.cell h.2.2.1, k.cell h.2.2.2.1, k.cell h.2.2.2.2.1, k.cell h.2.2.2.2.2.1, k.cell h.2.2.2.2.2.2.1, k.cell h.2.2.2.2.2.2.2.1, k.cell h.2.2.2.2.2.2.2.2.1, k.cell h.2.2.2.2.2.2.2.2.2.1, k.cell h.2.2.2.2.2.2.2.2.2.2.1, k.cell h.2.2.2.2.2.2.2.2.2.2.2.1, h.2.2.2.2.2.2.2.2.2.2.2.2.trans k⟩
theorem drew12k {W0 w : World} {p0 p1 p2 p3 p4 p5 p6 p7 p8 p9 p10 p11 : Addr} {v0 v1 v2 v3 v4 v5 v6 v7 v8 v9 v10 v11 : Value} (h : w.cell? p0 = some v0 ∧ w.cell? p1 = some v1 ∧ w.cell? p2 = some v2 ∧ w.cell? p3 = some v3 ∧ w.cell? p4 = some v4 ∧ w.cell? p5 = some v5 ∧ w.cell? p6 = some v6 ∧ w.cell? p7 = some v7 ∧ w.cell? p8 = some v8 ∧ w.cell? p9 = some v9 ∧ w.cell? p10 = some v10 ∧ w.cell? p11 = some v11 ∧ Kp W0 w) : w.drew.cell? p0 = some v0 ∧ w.drew.cell? p1 = some v1 ∧ w.drew.cell? p2 = some v2 ∧ w.drew.cell? p3 = some v3 ∧ w.drew.cell? p4 = some v4 ∧ w.drew.cell? p5 = some v5 ∧ w.drew.cell? p6 = some v6 ∧ w.drew.cell? p7 = some v7 ∧ w.drew.cell? p8 = some v8 ∧ w.drew.cell? p9 = some v9 ∧ w.drew.cell? p10 = some v10 ∧ w.drew.cell? p11 = some v11 ∧ Kp W0 w.drew :=
  ⟨h.1, h.2.1, h.2.2.1, h.2.2.2.1, h.2.2.2.2.1, h.2.2.2.2.2.1, h.2.2.2.2.2.2.1, h.2.2.2.2.2.2.2.1, h.2.2.2.2.2.2.2.2.1, h.2.2.2.2.2.2.2.2.2.1, h.2.2.2.2.2.2.2.2.2.2.1, h.2.2.2.2.2.2.2.2.2.2.2.1, h.2.2.2.2.2.2.2.2.2.2.2.2.drew⟩
theorem keep19k {W0 w w1 : World} {p0 p1 p2 p3 p4 p5 p6 p7 p8 p9 p10 p11 p12 p13 p14 p15 p16 p17 p18 : Addr} {v0 v1 v2 v3 v4 v5 v6 v7 v8 v9 v10 v11 v12 v13 v14 v15 v16 v17 v18 : Value} (k : Kp w w1) (h : w.cell? p0 = some v0 ∧ w.cell? p1 = some v1 ∧ w.cell? p2 = some v2 ∧ w.cell? p3 = some v3 ∧ w.cell? p4 = some v4 ∧ w.cell? p5 = some v5 ∧ w.cell? p6 = some v6 ∧ w.cell? p7 = some v7 ∧ w.cell? p8 = some v8 ∧ w.cell? p9 = some v9 ∧ w.cell? p10 = some v10 ∧ w.cell? p11 = some v11 ∧ w.cell? p12 = some v12 ∧ w.cell? p13 = some v13 ∧ w.cell? p14 = some v14 ∧ w.cell? p15 = some v15 ∧ w.cell? p16 = some v16 ∧ w.cell? p17 = some v17 ∧ w.cell? p18 = some v18 ∧ Kp W0 w) : w1.cell? p0 = some v0 ∧ w1.cell? p1 = some v1 ∧ w1.cell? p2 = some v2 ∧ w1.cell? p3 = some v3 ∧ w1.cell? p4 = some v4 ∧ w1.cell? p5 = some v5 ∧ w1.cell? p6 = some v6 ∧ w1.cell? p7 = some v7 ∧ w1.cell? p8 = some v8 ∧ w1.cell? p9 = some v9 ∧ w1.cell? p10 = some v10 ∧ w1.cell? p11 = some v11 ∧ w1.cell? p12 = some v12 ∧ w1.cell? p13 = some v13 ∧ w1.cell? p14 = some v14 ∧ w1.cell? p15 = some v15 ∧ w1.cell? p16 = some v16 ∧ w1.cell? p17 = some v17 ∧ w1.cell? p18 = some v18 ∧ Kp W0 w1 :=
  ⟨k.cell h.1, k.cell h.2.1, k.cell h.2.2.1, k.cell h.2.2.2.1, k.cell h.2.2.2.2.1, k.cell h.2.2.2.2.2.1, k.cell h.2.2.2.2.2.2.1, k.cell h.2.2.2.2.2.2.2.1, k.cell h.2.2.2.2.2.2.2.2.1, k.cell h.2.2.2.2.2.2.2.2.2.1, k.cell h.2.2.2.2.2.2.2.2.2.2.1, k.cell h.2.2.2.2.2.2.2.2.2.2.2.1, k.cell h.2.2.2.2.2.2.2.2.2.2.2.2.1, k.cell h.2.2.2.2.2.2.2.2.2.2.2.2.2.1, k.cell h.2.2.2.2.2.2.2.2.2.2.2.2.2.2.1, k.cell h.2.2.2.2.2.2.2.2.2.2.2.2.2.2.2.1, k.cell h.2.2.2.2.2.2.2.2.2.2.2.2.2.2.2.2.1, k.cell h.2.2.2.2.2.2.2.2.2.2.2.2.2.2.2.2.2.1, k.cell h.2.2.2.2.2.2.2.2.2.2.2.2.2.2.2.2.2.2.1, h.2.2.2.2.2.2.2.2.2.2.2.2.2.2.2.2.2.2.2.trans k⟩
theorem drew19k {W0 w : World} {p0 p1 p2 p3 p4 p5 p6 p7 p8 p9 p10 p11 p12 p13 p14 p15 p16 p17 p18 : Addr} {v0 v1 v2 v3 v4 v5 v6 v7 v8 v9 v10 v11 v12 v13 v14 v15 v16 v17 v18 : Value} (h : w.cell? p0 = some v0 ∧ w.cell? p1 = some v1 ∧ w.cell? p2 = some v2 ∧ w.cell? p3 = some v3 ∧ w.cell? p4 = some v4 ∧ w.cell? p5 = some v5 ∧ w.cell? p6 = some v6 ∧ w.cell? p7 = some v7 ∧ w.cell? p8 = some v8 ∧ w.cell? p9 = some v9 ∧ w.cell? p10 = some v10 ∧ w.cell? p11 = some v11 ∧ w.cell? p12 = some v12 ∧ w.cell? p13 = some v13 ∧ w.cell? p14 = some v14 ∧ w.cell? p15 = some v15 ∧ w.cell? p16 = some v16 ∧ w.cell? p17 = some v17 ∧ w.cell? p18 = some v18 ∧ Kp W0 w) : w.drew.cell? p0 = some v0 ∧ w.drew.cell? p1 = some v1 ∧ w.drew.cell? p2 = some v2 ∧ w.drew.cell? p3 = some v3 ∧ w.drew.cell? p4 = some v4 ∧ w.drew.cell? p5 = some v5 ∧ w.drew.cell? p6 = some v6 ∧ w.drew.cell? p7 = some v7 ∧ w.drew.cell? p8 = some v8 ∧ w.drew.cell? p9 = some v9 ∧ w.drew.cell? p10 = some v10 ∧ w.drew.cell? p11 = some v11 ∧ w.drew.cell? p12 = some v12 ∧ w.drew.cell? p13 = some v13 ∧ w.drew.cell? p14 = some v14 ∧ w.drew.cell? p15 = some v15 ∧ w.drew.cell? p16 = some v16 ∧ w.drew.cell? p17 = some v17 ∧ w.drew.cell? p18 = some v18 ∧ Kp W0 w.drew :=
  ⟨h.1, h.2.1, h.2.2.1, h.2.2.2.1, h.2.2.2.2.1, h.2.2.2.2.2.1, h.2.2.2.2.2.2.1, h.2.2.2.2.2.2.2.1, h.2.2.2.2.2.2.2.2.1, h.2.2.2.2.2.2.2.2.2.1, h.2.2.2.2.2.2.2.2.2.2.1, h.2.2.2.2.2.2.2.2.2.2.2.1, h.2.2.2.2.2.2.2.2.2.2.2.2.1, h.2.2.2.2.2.2.2.2.2.2.2.2.2.1, h.2.2.2.2.2.2.2.2.2.2.2.2.2.2.1, h.2.2.2.2.2.2.2.2.2.2.2.2.2.2.2.1, h.2.2.2.2.2.2.2.2.2.2.2.2.2.2.2.2.1, h.2.2.2.2.2.2.2.2.2.2.2.2.2.2.2.2.2.1, h.2.2.2.2.2.2.2.2.2.2.2.2.2.2.2.2.2.2.1, h.2.2.2.2.2.2.2.2.2.2.2.2.2.2.2.2.2.2.2.drew⟩
theorem keep24k {W0 w w1 : World} {p0 p1 p2 p3 p4 p5 p6 p7 p8 p9 p10 p11 p12 p13 p14 p15 p16 p17 p18 p19 p20 p21 p22 p23 : Addr} {v0 v1 v2 v3 v4 v5 v6 v7 v8 v9 v10 v11 v12 v13 v14 v15 v16 v17 v18 v19 v20 v21 v22 v23 : Value} (k : Kp w w1) (h : w.cell? p0 = some v0 ∧ w.cell? p1 = some v1 ∧ w.cell? p2 = some v2 ∧ w.cell? p3 = some v3 ∧ w.cell? p4 = some v4 ∧ w.cell? p5 = some v5 ∧ w.cell? p6 = some v6 ∧ w.cell? p7 = some v7 ∧ w.cell? p8 = some v8 ∧ w.cell? p9 = some v9 ∧ w.cell? p10 = some v10 ∧ w.cell? p11 = some v11 ∧ w.cell? p12 = some v12 ∧ w.cell? p13 = some v13 ∧ w.cell? p14 = some v14 ∧ w.cell? p15 = some v15 ∧ w.cell? p16 = some v16 ∧ w.cell? p17 = some v17 ∧ w.cell? p18 = some v18 ∧ w.cell? p19 = some v19 ∧ w.cell? p20 = some v20 ∧ w.cell? p21 = some v21 ∧ w.cell? p22 = some v22 ∧ w.cell? p23 = some v23 ∧ Kp W0 w) : w1.cell? p0 = some v0 ∧ w1.cell? p1 = some v1 ∧ w1.cell? p2 = some v2 ∧ w1.cell? p3 = some v3 ∧ w1.cell? p4 = some v4 ∧ w1.cell? p5 = some v5 ∧ w1.cell? p6 = some v6 ∧ w1.cell? p7 = some v7 ∧ w1.cell? p8 = some v8 ∧ w1.cell? p9 = some v9 ∧ w1.cell? p10 = some v10 ∧ w1.cell? p11 = some v11 ∧ w1.cell? p12 = some v12 ∧ w1.cell? p13 = some v13 ∧ w1.cell? p14 = some v14 ∧ w1.cell? p15 = some v15 ∧ w1.cell? p16 = some v16 ∧ w1.cell? p17 = some v17 ∧ w1.cell? p18 = some v18 ∧ w1.cell? p19 = some v19 ∧ w1.cell? p20 = some v20 ∧ w1.cell? p21 = some v21 ∧ w1.cell? p22 = some v22 ∧ w1.cell? p23 = some v23 ∧ Kp W0 w1 :=
  ⟨k.cell h.1, k.cell h.2.1, k.cell h.2.2.1, k.cell h.2.2.2.1, k.cell h.2.2.2.2.1, k.cell h.2.2.2.2.2.1, k.cell h.2.2.2.2.2.2.1, k.cell h.2.2.2.2.2.2.2.1, k.cell h.2.2.2.2.2.2.2.2.1, k.cell h.2.2.2.2.2.2.2.2.2.1, k.cell h.2.2.2.2.2.2.2.2.2.2.1, k.cell h.2.2.2.2.2.2.2.2.2.2.2.1, k.cell h.2.2.2.2.2.2.2.2.2.2.2.2.1, k.cell h.2.2.2.2.2.2.2.2.2.2.2.2.2.1, k.cell h.2.2.2.2.2.2.2.2.2.2.2.2.2.2.1, k.cell h.2.2.2.2.2.2.2.2.2.2.2.2.2.2.2.1, k.cell h.2.2.2.2.2.2.2.2.2.2.2.2.2.2.2.2.1, k.cell h.2.2.2.2.2.2.2.2.2.2.2.2.2.2.2.2.2.1, k.cell h.2.2.2.2.2.2.2.2.2.2.2.2.2.2.2.2.2.2.1, k.cell h.2.2.2.2.2.2.2.2.2.2.2.2.2.2.2.2.2.2.2.1, k.cell h.2.2.2.2.2.2.2.2.2.2.2.2.2.2.2.2.2.2.2.2.1, k.cell h.2.2.2.2.2.2.2.2.2.2.2.2.2.2.2.2.2.2.2.2.2.1, k.cell h.2.2.2.2.2.2.2.2.2.2.2.2.2.2.2.2.2.2.2.2.2.2.1, k.cell h.2.2.2.2.2.2.2.2.2.2.2.2.2.2.2.2.2.2.2.2.2.2.2.1, h.2.2.2.2.2.2.2.2.2.2.2.2.2.2.2.2.2.2.2.2.2.2.2.2.trans k⟩
theorem drew24k {W0 w : World} {p0 p1 p2 p3 p4 p5 p6 p7 p8 p9 p10 p11 p12 p13 p14 p15 p16 p17 p18 p19 p20 p21 p22 p23 : Addr} {v0 v1 v2 v3 v4 v5 v6 v7 v8 v9 v10 v11 v12 v13 v14 v15 v16 v17 v18 v19 v20 v21 v22 v23 : Value} (h : w.cell? p0 = some v0 ∧ w.cell? p1 = some v1 ∧ w.cell? p2 = some v2 ∧ w.cell? p3 = some v3 ∧ w.cell? p4 = some v4 ∧ w.cell? p5 = some v5 ∧ w.cell? p6 = some v6 ∧ w.cell? p7 = some v7 ∧ w.cell? p8 = some v8 ∧ w.cell? p9 = some v9 ∧ w.cell? p10 = some v10 ∧ w.cell? p11 = some v11 ∧ w.cell? p12 = some v12 ∧ w.cell? p13 = some v13 ∧ w.cell? p14 = some v14 ∧ w.cell? p15 = some v15 ∧ w.cell? p16 = some v16 ∧ w.cell? p17 = some v17 ∧ w.cell? p18 = some v18 ∧ w.cell? p19 = some v19 ∧ w.cell? p20 = some v20 ∧ w.cell? p21 = some v21 ∧ w.cell? p22 = some v22 ∧ w.cell? p23 = some v23 ∧ Kp W0 w) : w.drew.cell? p0 = some v0 ∧ w.drew.cell? p1 = some v1 ∧ w.drew.cell? p2 = some v2 ∧ w.drew.cell? p3 = some v3 ∧ w.drew.cell? p4 = some v4 ∧ w.drew.cell? p5 = some v5 ∧ w.drew.cell? p6 = some v6 ∧ w.drew.cell? p7 = some v7 ∧ w.drew.cell? p8 = some v8 ∧ w.drew.cell? p9 = some v9 ∧ w.drew.cell? p10 = some v10 ∧ w.drew.cell? p11 = some v11 ∧ w.drew.cell? p12 = some v12 ∧ w.drew.cell? p13 = some v13 ∧ w.drew.cell? p14 = some v14 ∧ w.drew.cell? p15 = some v15 ∧ w.drew.cell? p16 = some v16 ∧ w.drew.cell? p17 = some v17 ∧ w.drew.cell? p18 = some v18 ∧ w.drew.cell? p19 = some v19 ∧ w.drew.cell? p20 = some v20 ∧ w.drew.cell? p21 = some v21 ∧ w.drew.cell? p22 = some v22 ∧ w.drew.cell? p23 = some v23 ∧ Kp W0 w.drew :=
  ⟨h.1, h.2.1, h.2.2.1, h.2.2.2.1, h.2.2.2.2.1, h.2.2.2.2.2.1, h.2.2.2.2.2.2.1, h.2.2.2.2.2.2.2.1, h.2.2.2.2.2.2.2.2.1, h.2.2.2.2.2.2.2.2.2.1, h.2.2.2.2.2.2.2.2.2.2.1, h.2.2.2.2.2.2.2.2.2.2.2.1, h.2.2.2.2.2.2.2.2.2.2.2.2.1, h.2.2.2.2.2.2.2.2.2.2.2.2.2.1, h.2.2.2.2.2.2.2.2.2.2.2.2.2.2.1, h.2.2.2.2.2.2.2.2.2.2.2.2.2.2.2.1, h.2.2.2.2.2.2.2.2.2.2.2.2.2.2.2.2.1, h.2.2.2.2.2.2.2.2.2.2.2.2.2.2.2.2.2.1, h.2.2.2.2.2.2.2.2.2.2.2.2.2.2.2.2.2.2.1, h.2.2.2.2.2.2.2.2.2.2.2.2.2.2.2.2.2.2.2.1, h.2.2.2.2.2.2.2.2.2.2.2.2.2.2.2.2.2.2.2.2.1, h.2.2.2.2.2.2.2.2.2.2.2.2.2.2.2.2.2.2.2.2.2.1, h.2.2.2.2.2.2.2.2.2.2.2.2.2.2.2.2.2.2.2.2.2.2.1, h.2.2.2.2.2.2.2.2.2.2.2.2.2.2.2.2.2.2.2.2.2.2.2.1, h.2.2.2.2.2.2.2.2.2.2.2.2.2.2.2.2.2.2.2.2.2.2.2.2.drew⟩

set_option maxRecDepth 100000 in
set_option maxHeartbeats 16000000 in
theorem walk (At Ak : Option Addr) (nt nk ct ck : Nat) (l : List Ter) (m : List Knd) (a b c d e W H : Int) (x r y : Value) (lt lr ld : List Int) (w : World) (hs : Spans w) (ht : Tab w) (hr : RulIn w At Ak nt nk l m) (hr2 : Reads w x r y lt lr ld) :
    Calls Tryd.prog 11 #[rv (.slice At nt ct) (.slice Ak nk ck) a b c d e, mp W H x r y] w fun e' w' => e' = .returned (.bool true) ∧ Kp w w' := by
  have HR := Lib.hid hr
  have HM := Lib.hid hr2
  have HS := Lib.hid hs
  have HT := Lib.hid ht
  obtain ⟨mt, e1⟩ : ∃ n, lt.length = n := ⟨_, rfl⟩
  obtain ⟨mr, e2⟩ : ∃ n, lr.length = n := ⟨_, rfl⟩
  obtain ⟨md, e3⟩ : ∃ n, ld.length = n := ⟨_, rfl⟩
  have HE1 := Lib.hid e1
  have HE2 := Lib.hid e2
  have HE3 := Lib.hid e3
  clear e1 e2 e3
  obtain ⟨B, hB⟩ : ∃ z, z = (rulOk ⟨l, m, a, b, c, d, e⟩ && mapOk W H lt lr ld) := ⟨_, rfl⟩
  obtain ⟨L, hL⟩ : ∃ z, z = (if (rulOk ⟨l, m, a, b, c, d, e⟩ && mapOk W H lt lr ld) = true then misL lt nt else []) := ⟨_, rfl⟩
  have hn : L.length ≤ 100 := by
    rw [hL]
    split
    · have := filN_len (misB lt nt) 6
      unfold misL
      omega
    · simp
  have CS : Hid (∀ (At Ak : Option Addr) (ct ck : Nat) (x r y : Value) (w : World), BrdAt w At Ak nt nk l m x r y lt lr ld → Calls Tryd.prog 40 #[rv (.slice At nt ct) (.slice Ak nk ck) a b c d e, mp W H x r y] w fun e' w' => ∃ v, e' = .returned (.tuple #[v, .bool B]) ∧ OwnI w' w.heap.size v L ∧ Kp w w') := Lib.hid fun At Ak ct ck x r y w h => by
    rw [hB, hL]
    exact specMissing_any At Ak nt nk ct ck l m a b c d e W H x r y lt lr ld w h
  have CI : Hid (∀ (At Ak : Option Addr) (ct ck : Nat) (x r y : Value) (w : World), BrdAt w At Ak nt nk l m x r y lt lr ld → Spans w → Tab w → Calls Tryd.prog 42 #[rv (.slice At nt ct) (.slice Ak nk ck) a b c d e, mp W H x r y] w fun e' w' => ∃ v, e' = .returned (.tuple #[v, .bool B]) ∧ OwnI w' w.heap.size v L ∧ Kp w w') := Lib.hid fun At Ak ct ck x r y w h hs ht => by
    rw [hB, hL]
    exact missing_any At Ak nt nk ct ck l m a b c d e W H x r y lt lr ld w hs ht h
  have CZ : Hid (∀ (left : Int) (w : World), 0 ≤ left → left ≤ 1048576 → Calls Tryd.prog 39 #[mp W H x r y, .int .i64 left] w (SzPost (mapSm lt lr ld) w)) := Lib.hid fun left w h0 h1 => by
    have bt := hr2.bt
    have br := hr2.br
    have bd := hr2.bd
    obtain ⟨A1, c1, rfl⟩ := hr2.rt.shape
    obtain ⟨A2, c2, rfl⟩ := hr2.rr.shape
    obtain ⟨A3, c3, rfl⟩ := hr2.rd.shape
    exact szMap_gen W H A1 A2 A3 _ c1 _ c2 _ c3 left w h0 h1 bt br bd
  have eB : (B != B) = false := by simp
  clear hr hr2 hs ht hB hL
  have s0 : ((w.alloc (.cells #[.slice At nt ct, .slice Ak nk ck, .int .i64 a, .int .i64 b, .int .i64 c, .int .i64 d, .int .i64 e] 25)).alloc (.cells #[.int .i64 W, .int .i64 H, x, r, y] 37)).cell? ⟨w.heap.size, 0, none⟩ = some (.slice At nt ct) ∧ ((w.alloc (.cells #[.slice At nt ct, .slice Ak nk ck, .int .i64 a, .int .i64 b, .int .i64 c, .int .i64 d, .int .i64 e] 25)).alloc (.cells #[.int .i64 W, .int .i64 H, x, r, y] 37)).cell? ⟨w.heap.size, 1, none⟩ = some (.slice Ak nk ck) ∧ ((w.alloc (.cells #[.slice At nt ct, .slice Ak nk ck, .int .i64 a, .int .i64 b, .int .i64 c, .int .i64 d, .int .i64 e] 25)).alloc (.cells #[.int .i64 W, .int .i64 H, x, r, y] 37)).cell? ⟨w.heap.size, 2, none⟩ = some (.int .i64 a) ∧ ((w.alloc (.cells #[.slice At nt ct, .slice Ak nk ck, .int .i64 a, .int .i64 b, .int .i64 c, .int .i64 d, .int .i64 e] 25)).alloc (.cells #[.int .i64 W, .int .i64 H, x, r, y] 37)).cell? ⟨w.heap.size, 3, none⟩ = some (.int .i64 b) ∧ ((w.alloc (.cells #[.slice At nt ct, .slice Ak nk ck, .int .i64 a, .int .i64 b, .int .i64 c, .int .i64 d, .int .i64 e] 25)).alloc (.cells #[.int .i64 W, .int .i64 H, x, r, y] 37)).cell? ⟨w.heap.size, 4, none⟩ = some (.int .i64 c) ∧ ((w.alloc (.cells #[.slice At nt ct, .slice Ak nk ck, .int .i64 a, .int .i64 b, .int .i64 c, .int .i64 d, .int .i64 e] 25)).alloc (.cells #[.int .i64 W, .int .i64 H, x, r, y] 37)).cell? ⟨w.heap.size, 5, none⟩ = some (.int .i64 d) ∧ ((w.alloc (.cells #[.slice At nt ct, .slice Ak nk ck, .int .i64 a, .int .i64 b, .int .i64 c, .int .i64 d, .int .i64 e] 25)).alloc (.cells #[.int .i64 W, .int .i64 H, x, r, y] 37)).cell? ⟨w.heap.size, 6, none⟩ = some (.int .i64 e) ∧ ((w.alloc (.cells #[.slice At nt ct, .slice Ak nk ck, .int .i64 a, .int .i64 b, .int .i64 c, .int .i64 d, .int .i64 e] 25)).alloc (.cells #[.int .i64 W, .int .i64 H, x, r, y] 37)).cell? ⟨w.heap.size + 1, 0, none⟩ = some (.int .i64 W) ∧ ((w.alloc (.cells #[.slice At nt ct, .slice Ak nk ck, .int .i64 a, .int .i64 b, .int .i64 c, .int .i64 d, .int .i64 e] 25)).alloc (.cells #[.int .i64 W, .int .i64 H, x, r, y] 37)).cell? ⟨w.heap.size + 1, 1, none⟩ = some (.int .i64 H) ∧ ((w.alloc (.cells #[.slice At nt ct, .slice Ak nk ck, .int .i64 a, .int .i64 b, .int .i64 c, .int .i64 d, .int .i64 e] 25)).alloc (.cells #[.int .i64 W, .int .i64 H, x, r, y] 37)).cell? ⟨w.heap.size + 1, 2, none⟩ = some (x) ∧ ((w.alloc (.cells #[.slice At nt ct, .slice Ak nk ck, .int .i64 a, .int .i64 b, .int .i64 c, .int .i64 d, .int .i64 e] 25)).alloc (.cells #[.int .i64 W, .int .i64 H, x, r, y] 37)).cell? ⟨w.heap.size + 1, 3, none⟩ = some (r) ∧ ((w.alloc (.cells #[.slice At nt ct, .slice Ak nk ck, .int .i64 a, .int .i64 b, .int .i64 c, .int .i64 d, .int .i64 e] 25)).alloc (.cells #[.int .i64 W, .int .i64 H, x, r, y] 37)).cell? ⟨w.heap.size + 1, 4, none⟩ = some (y) ∧ Kp w ((w.alloc (.cells #[.slice At nt ct, .slice Ak nk ck, .int .i64 a, .int .i64 b, .int .i64 c, .int .i64 d, .int .i64 e] 25)).alloc (.cells #[.int .i64 W, .int .i64 H, x, r, y] 37)) := ⟨by simp [go_sem], by simp [go_sem], by simp [go_sem], by simp [go_sem], by simp [go_sem], by simp [go_sem], by simp [go_sem], by simp [go_sem], by simp [go_sem], by simp [go_sem], by simp [go_sem], by simp [go_sem], ((Kp.refl w).alloc _).alloc _⟩
  go_enter Tryd.func11, Tryd.ntmps11
  go_wp2_with fail
  refine (szRules_any _ _ _ _ _ _ l m _ _ _ _ _ _ _ (HR.out.keep s0.2.2.2.2.2.2.2.2.2.2.2.2) (by omega) (by omega)).mono ?_
  rintro e1 w1 ⟨r1, rfl, u1, u2, u3, k1⟩
  have s1 := keep12k k1 s0
  have U3 := Lib.hid u3
  clear s0 k1 u3
  by_cases hneg : r1 < 0
  · go_wp2_with fail
    go_ret
    exact ⟨rfl, s1.2.2.2.2.2.2.2.2.2.2.2.2⟩
  have RA := Lib.hid (HR.out.at (U3.out (by omega)))
  clear U3
  go_wp2_with fail
  refine (CZ.out _ _ (by omega) u1).mono ?_
  rintro e2 w2 ⟨r2, rfl, v1, v2, v3, k2⟩
  have s2 := keep12k k2 s1
  have V3 := Lib.hid v3
  clear s1 k2 v3
  by_cases hneg2 : r2 < 0
  · go_wp2_with fail
    go_ret
    exact ⟨rfl, s2.2.2.2.2.2.2.2.2.2.2.2.2⟩
  have SM := Lib.hid (V3.out (by omega))
  have LA := Lib.hid (HM.out.lists' SM.out)
  have LE : Hid (mt ≤ 1048576 ∧ mr ≤ 1048576 ∧ md ≤ 1048576) := Lib.hid ⟨by rw [← HE1.out]; exact SM.out.1, by rw [← HE2.out]; exact SM.out.2.1, by rw [← HE3.out]; exact SM.out.2.2⟩
  clear V3
  go_wp2_with fail
  have s2d := drew12k s2
  go_region_held3 (fun w' => w'.cell? ⟨w.heap.size, 0, none⟩ = some (.slice At nt ct) ∧ w'.cell? ⟨w.heap.size, 1, none⟩ = some (.slice Ak nk ck) ∧ w'.cell? ⟨w.heap.size, 2, none⟩ = some (.int .i64 a) ∧ w'.cell? ⟨w.heap.size, 3, none⟩ = some (.int .i64 b) ∧ w'.cell? ⟨w.heap.size, 4, none⟩ = some (.int .i64 c) ∧ w'.cell? ⟨w.heap.size, 5, none⟩ = some (.int .i64 d) ∧ w'.cell? ⟨w.heap.size, 6, none⟩ = some (.int .i64 e) ∧ w'.cell? ⟨w.heap.size + 1, 0, none⟩ = some (.int .i64 W) ∧ w'.cell? ⟨w.heap.size + 1, 1, none⟩ = some (.int .i64 H) ∧ w'.cell? ⟨w.heap.size + 1, 2, none⟩ = some (x) ∧ w'.cell? ⟨w.heap.size + 1, 3, none⟩ = some (r) ∧ w'.cell? ⟨w.heap.size + 1, 4, none⟩ = some (y) ∧ Kp w w') (first | assumption | exact s2d)
    (first
      | (go_at_call 15; refine (toRules_any _ _ _ _ _ _ l m _ _ _ _ _ _ (RA.out.keep s2d.2.2.2.2.2.2.2.2.2.2.2.2)).mono ?_; rintro e3 w3 ⟨g1a, g2a, csa, ysa, zsa, rfl, o3, k3⟩; have s3 := keep12k k3 s2d; have R3 := Lib.hid (o3.rul RA.out))
      | (go_at_call 41; refine (toMap_sl W H _ _ _ lt lr ld mt mr md _ (LA.out.keep s3.2.2.2.2.2.2.2.2.2.2.2.2) HE1.out HE2.out HE3.out).mono ?_; rintro e3' w3' ⟨A1a, c1a, A2a, c2a, A3a, c3a, rfl, o3', k3'⟩; have s3' := keep12k k3' s3; have B3 := Lib.hid (BrdAt.mk (R3.out.keep k3') (o3'.lists LA.out)))
      | (go_at_call 40; refine (CS.out _ _ _ _ _ _ _ _ B3.out).mono ?_; rintro e4 w4 ⟨v0, rfl, o4, k4⟩; have s4 := keep12k k4 s3'; have HS4 := Lib.hid s4; have R0 := Lib.hid o4.rd))
  clear s2 s2d s3 s3' R3 B3
  go_wp2_with fail
  refine (toRules_any _ _ _ _ _ _ l m _ _ _ _ _ _ (RA.out.keep s4.2.2.2.2.2.2.2.2.2.2.2.2)).mono ?_
  rintro e5 w5 ⟨g1b, g2b, csb, ysb, zsb, rfl, o5, k5⟩
  have s5a := keep12k k5 s4
  have kb : Kp w5 (w5.alloc (.cells #[.slice (some ⟨g1b, 0, none⟩) nt nt, .slice (some ⟨g2b, 0, none⟩) nk nk, .int .i64 a, .int .i64 b, .int .i64 c, .int .i64 d, .int .i64 e] 31)) := (Kp.refl w5).alloc _
  have s5 : (w5.alloc (.cells #[.slice (some ⟨g1b, 0, none⟩) nt nt, .slice (some ⟨g2b, 0, none⟩) nk nk, .int .i64 a, .int .i64 b, .int .i64 c, .int .i64 d, .int .i64 e] 31)).cell? ⟨w.heap.size, 0, none⟩ = some (.slice At nt ct) ∧ (w5.alloc (.cells #[.slice (some ⟨g1b, 0, none⟩) nt nt, .slice (some ⟨g2b, 0, none⟩) nk nk, .int .i64 a, .int .i64 b, .int .i64 c, .int .i64 d, .int .i64 e] 31)).cell? ⟨w.heap.size, 1, none⟩ = some (.slice Ak nk ck) ∧ (w5.alloc (.cells #[.slice (some ⟨g1b, 0, none⟩) nt nt, .slice (some ⟨g2b, 0, none⟩) nk nk, .int .i64 a, .int .i64 b, .int .i64 c, .int .i64 d, .int .i64 e] 31)).cell? ⟨w.heap.size, 2, none⟩ = some (.int .i64 a) ∧ (w5.alloc (.cells #[.slice (some ⟨g1b, 0, none⟩) nt nt, .slice (some ⟨g2b, 0, none⟩) nk nk, .int .i64 a, .int .i64 b, .int .i64 c, .int .i64 d, .int .i64 e] 31)).cell? ⟨w.heap.size, 3, none⟩ = some (.int .i64 b) ∧ (w5.alloc (.cells #[.slice (some ⟨g1b, 0, none⟩) nt nt, .slice (some ⟨g2b, 0, none⟩) nk nk, .int .i64 a, .int .i64 b, .int .i64 c, .int .i64 d, .int .i64 e] 31)).cell? ⟨w.heap.size, 4, none⟩ = some (.int .i64 c) ∧ (w5.alloc (.cells #[.slice (some ⟨g1b, 0, none⟩) nt nt, .slice (some ⟨g2b, 0, none⟩) nk nk, .int .i64 a, .int .i64 b, .int .i64 c, .int .i64 d, .int .i64 e] 31)).cell? ⟨w.heap.size, 5, none⟩ = some (.int .i64 d) ∧ (w5.alloc (.cells #[.slice (some ⟨g1b, 0, none⟩) nt nt, .slice (some ⟨g2b, 0, none⟩) nk nk, .int .i64 a, .int .i64 b, .int .i64 c, .int .i64 d, .int .i64 e] 31)).cell? ⟨w.heap.size, 6, none⟩ = some (.int .i64 e) ∧ (w5.alloc (.cells #[.slice (some ⟨g1b, 0, none⟩) nt nt, .slice (some ⟨g2b, 0, none⟩) nk nk, .int .i64 a, .int .i64 b, .int .i64 c, .int .i64 d, .int .i64 e] 31)).cell? ⟨w.heap.size + 1, 0, none⟩ = some (.int .i64 W) ∧ (w5.alloc (.cells #[.slice (some ⟨g1b, 0, none⟩) nt nt, .slice (some ⟨g2b, 0, none⟩) nk nk, .int .i64 a, .int .i64 b, .int .i64 c, .int .i64 d, .int .i64 e] 31)).cell? ⟨w.heap.size + 1, 1, none⟩ = some (.int .i64 H) ∧ (w5.alloc (.cells #[.slice (some ⟨g1b, 0, none⟩) nt nt, .slice (some ⟨g2b, 0, none⟩) nk nk, .int .i64 a, .int .i64 b, .int .i64 c, .int .i64 d, .int .i64 e] 31)).cell? ⟨w.heap.size + 1, 2, none⟩ = some (x) ∧ (w5.alloc (.cells #[.slice (some ⟨g1b, 0, none⟩) nt nt, .slice (some ⟨g2b, 0, none⟩) nk nk, .int .i64 a, .int .i64 b, .int .i64 c, .int .i64 d, .int .i64 e] 31)).cell? ⟨w.heap.size + 1, 3, none⟩ = some (r) ∧ (w5.alloc (.cells #[.slice (some ⟨g1b, 0, none⟩) nt nt, .slice (some ⟨g2b, 0, none⟩) nk nk, .int .i64 a, .int .i64 b, .int .i64 c, .int .i64 d, .int .i64 e] 31)).cell? ⟨w.heap.size + 1, 4, none⟩ = some (y) ∧ (w5.alloc (.cells #[.slice (some ⟨g1b, 0, none⟩) nt nt, .slice (some ⟨g2b, 0, none⟩) nk nk, .int .i64 a, .int .i64 b, .int .i64 c, .int .i64 d, .int .i64 e] 31)).cell? ⟨w5.heap.size, 0, none⟩ = some (.slice (some ⟨g1b, 0, none⟩) nt nt) ∧ (w5.alloc (.cells #[.slice (some ⟨g1b, 0, none⟩) nt nt, .slice (some ⟨g2b, 0, none⟩) nk nk, .int .i64 a, .int .i64 b, .int .i64 c, .int .i64 d, .int .i64 e] 31)).cell? ⟨w5.heap.size, 1, none⟩ = some (.slice (some ⟨g2b, 0, none⟩) nk nk) ∧ (w5.alloc (.cells #[.slice (some ⟨g1b, 0, none⟩) nt nt, .slice (some ⟨g2b, 0, none⟩) nk nk, .int .i64 a, .int .i64 b, .int .i64 c, .int .i64 d, .int .i64 e] 31)).cell? ⟨w5.heap.size, 2, none⟩ = some (.int .i64 a) ∧ (w5.alloc (.cells #[.slice (some ⟨g1b, 0, none⟩) nt nt, .slice (some ⟨g2b, 0, none⟩) nk nk, .int .i64 a, .int .i64 b, .int .i64 c, .int .i64 d, .int .i64 e] 31)).cell? ⟨w5.heap.size, 3, none⟩ = some (.int .i64 b) ∧ (w5.alloc (.cells #[.slice (some ⟨g1b, 0, none⟩) nt nt, .slice (some ⟨g2b, 0, none⟩) nk nk, .int .i64 a, .int .i64 b, .int .i64 c, .int .i64 d, .int .i64 e] 31)).cell? ⟨w5.heap.size, 4, none⟩ = some (.int .i64 c) ∧ (w5.alloc (.cells #[.slice (some ⟨g1b, 0, none⟩) nt nt, .slice (some ⟨g2b, 0, none⟩) nk nk, .int .i64 a, .int .i64 b, .int .i64 c, .int .i64 d, .int .i64 e] 31)).cell? ⟨w5.heap.size, 5, none⟩ = some (.int .i64 d) ∧ (w5.alloc (.cells #[.slice (some ⟨g1b, 0, none⟩) nt nt, .slice (some ⟨g2b, 0, none⟩) nk nk, .int .i64 a, .int .i64 b, .int .i64 c, .int .i64 d, .int .i64 e] 31)).cell? ⟨w5.heap.size, 6, none⟩ = some (.int .i64 e) ∧ Kp w (w5.alloc (.cells #[.slice (some ⟨g1b, 0, none⟩) nt nt, .slice (some ⟨g2b, 0, none⟩) nk nk, .int .i64 a, .int .i64 b, .int .i64 c, .int .i64 d, .int .i64 e] 31)) := ⟨kb.cell s5a.1, kb.cell s5a.2.1, kb.cell s5a.2.2.1, kb.cell s5a.2.2.2.1, kb.cell s5a.2.2.2.2.1, kb.cell s5a.2.2.2.2.2.1, kb.cell s5a.2.2.2.2.2.2.1, kb.cell s5a.2.2.2.2.2.2.2.1, kb.cell s5a.2.2.2.2.2.2.2.2.1, kb.cell s5a.2.2.2.2.2.2.2.2.2.1, kb.cell s5a.2.2.2.2.2.2.2.2.2.2.1, kb.cell s5a.2.2.2.2.2.2.2.2.2.2.2.1, by simp [go_sem], by simp [go_sem], by simp [go_sem], by simp [go_sem], by simp [go_sem], by simp [go_sem], by simp [go_sem], s5a.2.2.2.2.2.2.2.2.2.2.2.2.trans kb⟩
  have OR5 := Lib.hid (o5.keep kb)
  have K45 : Kp w4 (w5.alloc (.cells #[.slice (some ⟨g1b, 0, none⟩) nt nt, .slice (some ⟨g2b, 0, none⟩) nk nk, .int .i64 a, .int .i64 b, .int .i64 c, .int .i64 d, .int .i64 e] 31)) := k5.trans kb
  have hz45 := k5.size
  have hg5 := o5.z
  clear s4 k5 o5 s5a kb
  go_wp2_with fail
  generalize hW5 : w5.alloc (.cells #[.slice (some ⟨g1b, 0, none⟩) nt nt, .slice (some ⟨g2b, 0, none⟩) nk nk, .int .i64 a, .int .i64 b, .int .i64 c, .int .i64 d, .int .i64 e] 31) = W5 at *
  have hz5 : W5.heap.size = w5.heap.size + 1 := by rw [← hW5]; simp
  clear hW5
  refine (toMap_sl W H _ _ _ lt lr ld mt mr md _ (LA.out.keep s5.2.2.2.2.2.2.2.2.2.2.2.2.2.2.2.2.2.2.2) HE1.out HE2.out HE3.out).mono ?_
  rintro e6 w6 ⟨A1b, c1b, A2b, c2b, A3b, c3b, rfl, o6, k6⟩
  have s6a := keep19k k6 s5
  have kc : Kp w6 (w6.alloc (.cells #[.int .i64 W, .int .i64 H, .slice A1b mt c1b, .slice A2b mr c2b, .slice A3b md c3b] 42)) := (Kp.refl w6).alloc _
  have s6 : (w6.alloc (.cells #[.int .i64 W, .int .i64 H, .slice A1b mt c1b, .slice A2b mr c2b, .slice A3b md c3b] 42)).cell? ⟨w.heap.size, 0, none⟩ = some (.slice At nt ct) ∧ (w6.alloc (.cells #[.int .i64 W, .int .i64 H, .slice A1b mt c1b, .slice A2b mr c2b, .slice A3b md c3b] 42)).cell? ⟨w.heap.size, 1, none⟩ = some (.slice Ak nk ck) ∧ (w6.alloc (.cells #[.int .i64 W, .int .i64 H, .slice A1b mt c1b, .slice A2b mr c2b, .slice A3b md c3b] 42)).cell? ⟨w.heap.size, 2, none⟩ = some (.int .i64 a) ∧ (w6.alloc (.cells #[.int .i64 W, .int .i64 H, .slice A1b mt c1b, .slice A2b mr c2b, .slice A3b md c3b] 42)).cell? ⟨w.heap.size, 3, none⟩ = some (.int .i64 b) ∧ (w6.alloc (.cells #[.int .i64 W, .int .i64 H, .slice A1b mt c1b, .slice A2b mr c2b, .slice A3b md c3b] 42)).cell? ⟨w.heap.size, 4, none⟩ = some (.int .i64 c) ∧ (w6.alloc (.cells #[.int .i64 W, .int .i64 H, .slice A1b mt c1b, .slice A2b mr c2b, .slice A3b md c3b] 42)).cell? ⟨w.heap.size, 5, none⟩ = some (.int .i64 d) ∧ (w6.alloc (.cells #[.int .i64 W, .int .i64 H, .slice A1b mt c1b, .slice A2b mr c2b, .slice A3b md c3b] 42)).cell? ⟨w.heap.size, 6, none⟩ = some (.int .i64 e) ∧ (w6.alloc (.cells #[.int .i64 W, .int .i64 H, .slice A1b mt c1b, .slice A2b mr c2b, .slice A3b md c3b] 42)).cell? ⟨w.heap.size + 1, 0, none⟩ = some (.int .i64 W) ∧ (w6.alloc (.cells #[.int .i64 W, .int .i64 H, .slice A1b mt c1b, .slice A2b mr c2b, .slice A3b md c3b] 42)).cell? ⟨w.heap.size + 1, 1, none⟩ = some (.int .i64 H) ∧ (w6.alloc (.cells #[.int .i64 W, .int .i64 H, .slice A1b mt c1b, .slice A2b mr c2b, .slice A3b md c3b] 42)).cell? ⟨w.heap.size + 1, 2, none⟩ = some (x) ∧ (w6.alloc (.cells #[.int .i64 W, .int .i64 H, .slice A1b mt c1b, .slice A2b mr c2b, .slice A3b md c3b] 42)).cell? ⟨w.heap.size + 1, 3, none⟩ = some (r) ∧ (w6.alloc (.cells #[.int .i64 W, .int .i64 H, .slice A1b mt c1b, .slice A2b mr c2b, .slice A3b md c3b] 42)).cell? ⟨w.heap.size + 1, 4, none⟩ = some (y) ∧ (w6.alloc (.cells #[.int .i64 W, .int .i64 H, .slice A1b mt c1b, .slice A2b mr c2b, .slice A3b md c3b] 42)).cell? ⟨w5.heap.size, 0, none⟩ = some (.slice (some ⟨g1b, 0, none⟩) nt nt) ∧ (w6.alloc (.cells #[.int .i64 W, .int .i64 H, .slice A1b mt c1b, .slice A2b mr c2b, .slice A3b md c3b] 42)).cell? ⟨w5.heap.size, 1, none⟩ = some (.slice (some ⟨g2b, 0, none⟩) nk nk) ∧ (w6.alloc (.cells #[.int .i64 W, .int .i64 H, .slice A1b mt c1b, .slice A2b mr c2b, .slice A3b md c3b] 42)).cell? ⟨w5.heap.size, 2, none⟩ = some (.int .i64 a) ∧ (w6.alloc (.cells #[.int .i64 W, .int .i64 H, .slice A1b mt c1b, .slice A2b mr c2b, .slice A3b md c3b] 42)).cell? ⟨w5.heap.size, 3, none⟩ = some (.int .i64 b) ∧ (w6.alloc (.cells #[.int .i64 W, .int .i64 H, .slice A1b mt c1b, .slice A2b mr c2b, .slice A3b md c3b] 42)).cell? ⟨w5.heap.size, 4, none⟩ = some (.int .i64 c) ∧ (w6.alloc (.cells #[.int .i64 W, .int .i64 H, .slice A1b mt c1b, .slice A2b mr c2b, .slice A3b md c3b] 42)).cell? ⟨w5.heap.size, 5, none⟩ = some (.int .i64 d) ∧ (w6.alloc (.cells #[.int .i64 W, .int .i64 H, .slice A1b mt c1b, .slice A2b mr c2b, .slice A3b md c3b] 42)).cell? ⟨w5.heap.size, 6, none⟩ = some (.int .i64 e) ∧ (w6.alloc (.cells #[.int .i64 W, .int .i64 H, .slice A1b mt c1b, .slice A2b mr c2b, .slice A3b md c3b] 42)).cell? ⟨w6.heap.size, 0, none⟩ = some (.int .i64 W) ∧ (w6.alloc (.cells #[.int .i64 W, .int .i64 H, .slice A1b mt c1b, .slice A2b mr c2b, .slice A3b md c3b] 42)).cell? ⟨w6.heap.size, 1, none⟩ = some (.int .i64 H) ∧ (w6.alloc (.cells #[.int .i64 W, .int .i64 H, .slice A1b mt c1b, .slice A2b mr c2b, .slice A3b md c3b] 42)).cell? ⟨w6.heap.size, 2, none⟩ = some (.slice A1b mt c1b) ∧ (w6.alloc (.cells #[.int .i64 W, .int .i64 H, .slice A1b mt c1b, .slice A2b mr c2b, .slice A3b md c3b] 42)).cell? ⟨w6.heap.size, 3, none⟩ = some (.slice A2b mr c2b) ∧ (w6.alloc (.cells #[.int .i64 W, .int .i64 H, .slice A1b mt c1b, .slice A2b mr c2b, .slice A3b md c3b] 42)).cell? ⟨w6.heap.size, 4, none⟩ = some (.slice A3b md c3b) ∧ Kp w (w6.alloc (.cells #[.int .i64 W, .int .i64 H, .slice A1b mt c1b, .slice A2b mr c2b, .slice A3b md c3b] 42)) := ⟨kc.cell s6a.1, kc.cell s6a.2.1, kc.cell s6a.2.2.1, kc.cell s6a.2.2.2.1, kc.cell s6a.2.2.2.2.1, kc.cell s6a.2.2.2.2.2.1, kc.cell s6a.2.2.2.2.2.2.1, kc.cell s6a.2.2.2.2.2.2.2.1, kc.cell s6a.2.2.2.2.2.2.2.2.1, kc.cell s6a.2.2.2.2.2.2.2.2.2.1, kc.cell s6a.2.2.2.2.2.2.2.2.2.2.1, kc.cell s6a.2.2.2.2.2.2.2.2.2.2.2.1, kc.cell s6a.2.2.2.2.2.2.2.2.2.2.2.2.1, kc.cell s6a.2.2.2.2.2.2.2.2.2.2.2.2.2.1, kc.cell s6a.2.2.2.2.2.2.2.2.2.2.2.2.2.2.1, kc.cell s6a.2.2.2.2.2.2.2.2.2.2.2.2.2.2.2.1, kc.cell s6a.2.2.2.2.2.2.2.2.2.2.2.2.2.2.2.2.1, kc.cell s6a.2.2.2.2.2.2.2.2.2.2.2.2.2.2.2.2.2.1, kc.cell s6a.2.2.2.2.2.2.2.2.2.2.2.2.2.2.2.2.2.2.1, by simp [go_sem], by simp [go_sem], by simp [go_sem], by simp [go_sem], by simp [go_sem], s6a.2.2.2.2.2.2.2.2.2.2.2.2.2.2.2.2.2.2.2.trans kc⟩
  have OR6 := Lib.hid (OR5.out.keep (k6.trans kc))
  have OM6 := Lib.hid (o6.keep kc)
  have I6 := Lib.hid (And.intro (fun g e => (World.ownsRow.lt o6.ot g e).2) (And.intro (fun g e => (World.ownsRow.lt o6.or g e).2) (fun g e => (World.ownsRow.lt o6.od g e).2)))
  have K46 : Kp w4 (w6.alloc (.cells #[.int .i64 W, .int .i64 H, .slice A1b mt c1b, .slice A2b mr c2b, .slice A3b md c3b] 42)) := K45.trans (k6.trans kc)
  have hz6 := k6.size
  clear s5 k6 o6 s6a kc OR5 K45
  go_wp2_with fail
  generalize hW6 : w6.alloc (.cells #[.int .i64 W, .int .i64 H, .slice A1b mt c1b, .slice A2b mr c2b, .slice A3b md c3b] 42) = W6 at *
  have hz6' : W6.heap.size = w6.heap.size + 1 := by rw [← hW6]; simp
  clear hW6
  refine (CI.out _ _ _ _ _ _ _ _ ⟨OR6.out.rul RA.out, OM6.out.lists LA.out⟩ (HS.out.keep s6.2.2.2.2.2.2.2.2.2.2.2.2.2.2.2.2.2.2.2.2.2.2.2.2) (HT.out.keep s6.2.2.2.2.2.2.2.2.2.2.2.2.2.2.2.2.2.2.2.2.2.2.2.2)).mono ?_
  rintro e7 w7 ⟨vv, rfl, o7, k7⟩
  have s7 := keep24k k7 s6
  have O7 := Lib.hid (o7.base (b := w6.heap.size + 1) (by omega))
  have OR7 := Lib.hid (OR6.out.keep k7)
  have OM7 := Lib.hid (OM6.out.keep k7)
  have K47 : Kp w4 w7 := K46.trans k7
  have hz7 := k7.size
  clear s6 k7 o7 OR6 OM6 K46
  go_wp2_with fail
  refine (eqIntS_same vv v0 L _ O7.out.rd (R0.out.keep K47) (by omega)).mono ?_
  rintro e8 w8 ⟨rfl, k8⟩
  have s8a := keep24k k8 s7
  have O8 := Lib.hid (O7.out.keep k8)
  have OR8 := Lib.hid (OR7.out.keep k8)
  have OM8 := Lib.hid (OM7.out.keep k8)
  have K48 : Kp w4 w8 := K47.trans k8
  have hz8 := k8.size
  clear s7 k8 O7 OR7 OM7 K47
  have s8 := drew24k s8a
  clear s8a
  go_wp2_with fail
  go_region_held3 (fun w' => w'.cell? ⟨w.heap.size, 0, none⟩ = some (.slice At nt ct) ∧ w'.cell? ⟨w.heap.size, 1, none⟩ = some (.slice Ak nk ck) ∧ w'.cell? ⟨w.heap.size, 2, none⟩ = some (.int .i64 a) ∧ w'.cell? ⟨w.heap.size, 3, none⟩ = some (.int .i64 b) ∧ w'.cell? ⟨w.heap.size, 4, none⟩ = some (.int .i64 c) ∧ w'.cell? ⟨w.heap.size, 5, none⟩ = some (.int .i64 d) ∧ w'.cell? ⟨w.heap.size, 6, none⟩ = some (.int .i64 e) ∧ w'.cell? ⟨w.heap.size + 1, 0, none⟩ = some (.int .i64 W) ∧ w'.cell? ⟨w.heap.size + 1, 1, none⟩ = some (.int .i64 H) ∧ w'.cell? ⟨w.heap.size + 1, 2, none⟩ = some (x) ∧ w'.cell? ⟨w.heap.size + 1, 3, none⟩ = some (r) ∧ w'.cell? ⟨w.heap.size + 1, 4, none⟩ = some (y) ∧ w'.cell? ⟨w5.heap.size, 0, none⟩ = some (.slice (some ⟨g1b, 0, none⟩) nt nt) ∧ w'.cell? ⟨w5.heap.size, 1, none⟩ = some (.slice (some ⟨g2b, 0, none⟩) nk nk) ∧ w'.cell? ⟨w5.heap.size, 2, none⟩ = some (.int .i64 a) ∧ w'.cell? ⟨w5.heap.size, 3, none⟩ = some (.int .i64 b) ∧ w'.cell? ⟨w5.heap.size, 4, none⟩ = some (.int .i64 c) ∧ w'.cell? ⟨w5.heap.size, 5, none⟩ = some (.int .i64 d) ∧ w'.cell? ⟨w5.heap.size, 6, none⟩ = some (.int .i64 e) ∧ w'.cell? ⟨w6.heap.size, 0, none⟩ = some (.int .i64 W) ∧ w'.cell? ⟨w6.heap.size, 1, none⟩ = some (.int .i64 H) ∧ w'.cell? ⟨w6.heap.size, 2, none⟩ = some (.slice A1b mt c1b) ∧ w'.cell? ⟨w6.heap.size, 3, none⟩ = some (.slice A2b mr c2b) ∧ w'.cell? ⟨w6.heap.size, 4, none⟩ = some (.slice A3b md c3b) ∧ Kp w w') (first | assumption | exact s8)
    (first
      | (go_at_call 15; refine (toRules_any _ _ _ _ _ _ l m _ _ _ _ _ _ (RA.out.keep s8.2.2.2.2.2.2.2.2.2.2.2.2.2.2.2.2.2.2.2.2.2.2.2.2)).mono ?_; rintro e9 w9 ⟨g1c, g2c, csc, ysc, zsc, rfl, o9, k9⟩; have s9 := keep24k k9 s8; have L9 := Lib.hid (o9.rul RA.out); have M9 := Lib.hid ((OR8.out.keep ((Kp.refl _).drew)).keep k9); have N9 := Lib.hid (M9.out.rul RA.out); have k89 := Lib.hid ((Kp.refl w8).drew.trans k9))
      | (go_at_call 17; refine (eqRules_same _ _ _ _ _ _ _ _ _ _ l m _ _ _ _ _ _ N9.out.rt N9.out.rk L9.out.rt L9.out.rk N9.out.bt N9.out.bk (fun x hx => (N9.out.bc x hx).1)).mono ?_; rintro e10 w10 ⟨rfl, k10⟩; have s10a := keep24k k10 s9; have ORa := Lib.hid (M9.out.keep k10); have k8a := Lib.hid (k89.out.trans k10)))
  have Oa := Lib.hid (O8.out.keep k8a.out)
  have OMa := Lib.hid (OM8.out.keep k8a.out)
  have K4a : Kp w4 w10 := K48.trans k8a.out
  have hza := k8a.out.size
  clear s8 s9 L9 M9 N9 k89 k8a O8 OR8 OM8 K48
  have s10 := drew24k s10a
  clear s10a
  go_wp2_with fail
  go_region_held3 (fun w' => w'.cell? ⟨w.heap.size, 0, none⟩ = some (.slice At nt ct) ∧ w'.cell? ⟨w.heap.size, 1, none⟩ = some (.slice Ak nk ck) ∧ w'.cell? ⟨w.heap.size, 2, none⟩ = some (.int .i64 a) ∧ w'.cell? ⟨w.heap.size, 3, none⟩ = some (.int .i64 b) ∧ w'.cell? ⟨w.heap.size, 4, none⟩ = some (.int .i64 c) ∧ w'.cell? ⟨w.heap.size, 5, none⟩ = some (.int .i64 d) ∧ w'.cell? ⟨w.heap.size, 6, none⟩ = some (.int .i64 e) ∧ w'.cell? ⟨w.heap.size + 1, 0, none⟩ = some (.int .i64 W) ∧ w'.cell? ⟨w.heap.size + 1, 1, none⟩ = some (.int .i64 H) ∧ w'.cell? ⟨w.heap.size + 1, 2, none⟩ = some (x) ∧ w'.cell? ⟨w.heap.size + 1, 3, none⟩ = some (r) ∧ w'.cell? ⟨w.heap.size + 1, 4, none⟩ = some (y) ∧ w'.cell? ⟨w5.heap.size, 0, none⟩ = some (.slice (some ⟨g1b, 0, none⟩) nt nt) ∧ w'.cell? ⟨w5.heap.size, 1, none⟩ = some (.slice (some ⟨g2b, 0, none⟩) nk nk) ∧ w'.cell? ⟨w5.heap.size, 2, none⟩ = some (.int .i64 a) ∧ w'.cell? ⟨w5.heap.size, 3, none⟩ = some (.int .i64 b) ∧ w'.cell? ⟨w5.heap.size, 4, none⟩ = some (.int .i64 c) ∧ w'.cell? ⟨w5.heap.size, 5, none⟩ = some (.int .i64 d) ∧ w'.cell? ⟨w5.heap.size, 6, none⟩ = some (.int .i64 e) ∧ w'.cell? ⟨w6.heap.size, 0, none⟩ = some (.int .i64 W) ∧ w'.cell? ⟨w6.heap.size, 1, none⟩ = some (.int .i64 H) ∧ w'.cell? ⟨w6.heap.size, 2, none⟩ = some (.slice A1b mt c1b) ∧ w'.cell? ⟨w6.heap.size, 3, none⟩ = some (.slice A2b mr c2b) ∧ w'.cell? ⟨w6.heap.size, 4, none⟩ = some (.slice A3b md c3b) ∧ Kp w w') (first | assumption | exact s10)
    (first
      | (go_at_call 41; refine (toMap_sl W H _ _ _ lt lr ld mt mr md _ (LA.out.keep s10.2.2.2.2.2.2.2.2.2.2.2.2.2.2.2.2.2.2.2.2.2.2.2.2) HE1.out HE2.out HE3.out).mono ?_; rintro e11 w11 ⟨A1c, c1c, A2c, c2c, A3c, c3c, rfl, o11, k11⟩; have s11 := keep24k k11 s10; have L11 := Lib.hid (o11.lists LA.out); have M11 := Lib.hid ((OMa.out.keep ((Kp.refl _).drew)).keep k11); have N11 := Lib.hid (M11.out.lists LA.out); have kab := Lib.hid ((Kp.refl w10).drew.trans k11))
      | (go_at_call 43; refine (eqMap_same _ _ _ _ _ _ _ _ lt lr ld _ N11.out L11.out).mono ?_; rintro e12 w12 ⟨rfl, k12⟩; have s12 := keep24k k12 s11; have OMb := Lib.hid (M11.out.keep k12); have kac := Lib.hid (kab.out.trans k12)))
  have Ob := Lib.hid (Oa.out.keep kac.out)
  have ORb := Lib.hid (ORa.out.keep kac.out)
  have K4b : Kp w4 w12 := K4a.trans kac.out
  have hzb := kac.out.size
  have hz4b := K4b.size
  clear s10 s11 L11 M11 N11 kab kac Oa ORa OMa K4a
  go_wp2_with fail
  refine (markRules_w w4.heap.size _ _ _ _ l m _ _ _ _ _ _ _ _ 1 _ ORb.out RA.out.bt RA.out.bk (fun x hx => (RA.out.bc x hx).1) (by omega) (by omega)).mono ?_
  rintro e13 w13 ⟨kk, rfl, y13, z13, m13⟩
  have c13 : w13.cell? ⟨w6.heap.size, 0, none⟩ = some (.int .i64 W) ∧ w13.cell? ⟨w6.heap.size, 1, none⟩ = some (.int .i64 H) ∧ w13.cell? ⟨w6.heap.size, 2, none⟩ = some (.slice A1b mt c1b) ∧ w13.cell? ⟨w6.heap.size, 3, none⟩ = some (.slice A2b mr c2b) ∧ w13.cell? ⟨w6.heap.size, 4, none⟩ = some (.slice A3b md c3b) := ⟨m13.cell_hi (by omega) s12.2.2.2.2.2.2.2.2.2.2.2.2.2.2.2.2.2.2.2.1, m13.cell_hi (by omega) s12.2.2.2.2.2.2.2.2.2.2.2.2.2.2.2.2.2.2.2.2.1, m13.cell_hi (by omega) s12.2.2.2.2.2.2.2.2.2.2.2.2.2.2.2.2.2.2.2.2.2.1, m13.cell_hi (by omega) s12.2.2.2.2.2.2.2.2.2.2.2.2.2.2.2.2.2.2.2.2.2.2.1, m13.cell_hi (by omega) s12.2.2.2.2.2.2.2.2.2.2.2.2.2.2.2.2.2.2.2.2.2.2.2.1⟩
  have K4c : Kp w4 w13 := m13.kp K4b (Nat.le_refl _)
  have Oc : Hid (OwnI w13 (w6.heap.size + 1) vv L) := Lib.hid (m13.own Ob.out (fun g hg => by
    have h1 := (World.ownsRow.lt Ob.out g hg).1
    omega))
  have OMc := Lib.hid (OMb.out.marked m13 (by omega))
  have hzc := m13.1.size
  clear m13 Ob ORb OMb K4b s12
  go_wp2_with fail
  refine (markMap_w W H _ _ _ lt lr ld mt mr md W5.heap.size w6.heap.size kk _ OMc.out HE1.out HE2.out HE3.out LE.out.1 LE.out.2.1 LE.out.2.2 (by omega) I6.out.1 I6.out.2.1 I6.out.2.2 (by omega) (by omega)).mono ?_
  rintro e14 w14 ⟨rfl, m14⟩
  have K4d : Kp w4 w14 := m14.kp K4c (by omega)
  have Od : Hid (OwnI w14 (w6.heap.size + 1) vv L) := Lib.hid (m14.own Oc.out (fun g hg => by
    have h1 := (World.ownsRow.lt Oc.out g hg).1
    omega))
  have hk0 : ¬ (kk + (mt : Int) + (mr : Int) + (md : Int)) < 0 := by omega
  clear m14 Oc OMc K4c c13
  go_wp2_with fail
  refine (eqIntS_same vv v0 L _ Od.out.rd (R0.out.keep K4d) (by omega)).mono ?_
  rintro e15 w15 ⟨rfl, k15⟩
  have Oe := Lib.hid (Od.out.keep k15)
  have K4e : Kp w4 w15 := K4d.trans k15
  have hz4 : w4.heap.size ≤ w6.heap.size + 1 := by omega
  clear Od K4d k15
  go_wp2_with fail
  refine (markIntS_own vv L.length (w6.heap.size + 1) 1 (cellsI L) _ (by omega) (by omega) (by omega) Oe.out).mono ?_
  rintro e16 w16 ⟨rfl, om, gm⟩
  have K4f : Kp w4 w16 := K4e.grown gm (fun k e => Nat.le_trans hz4 (World.ownsRow.lt Oe.out k e).1)
  have OM := Lib.hid om
  have hne : ((1 + (L.length : Int)) != (1 + (L.length : Int))) = false := by simp
  clear om gm Oe K4e
  go_wp2_with fail
  refine (heldIntS_own vv L.length (w6.heap.size + 1) 1 _ (by omega) (by omega) (by omega) OM.out).mono ?_
  rintro e17 w17 ⟨rfl, k17⟩
  have OM2 := Lib.hid (ownsRow_keep OM.out k17)
  have K4g : Kp w4 w17 := K4f.trans k17
  have s17 := keep12k K4g HS4.out
  clear K4f k17 OM HS4
  go_wp2_with fail
  have s17d := drew12k s17
  go_region_held3 (fun w' => w'.cell? ⟨w.heap.size, 0, none⟩ = some (.slice At nt ct) ∧ w'.cell? ⟨w.heap.size, 1, none⟩ = some (.slice Ak nk ck) ∧ w'.cell? ⟨w.heap.size, 2, none⟩ = some (.int .i64 a) ∧ w'.cell? ⟨w.heap.size, 3, none⟩ = some (.int .i64 b) ∧ w'.cell? ⟨w.heap.size, 4, none⟩ = some (.int .i64 c) ∧ w'.cell? ⟨w.heap.size, 5, none⟩ = some (.int .i64 d) ∧ w'.cell? ⟨w.heap.size, 6, none⟩ = some (.int .i64 e) ∧ w'.cell? ⟨w.heap.size + 1, 0, none⟩ = some (.int .i64 W) ∧ w'.cell? ⟨w.heap.size + 1, 1, none⟩ = some (.int .i64 H) ∧ w'.cell? ⟨w.heap.size + 1, 2, none⟩ = some (x) ∧ w'.cell? ⟨w.heap.size + 1, 3, none⟩ = some (r) ∧ w'.cell? ⟨w.heap.size + 1, 4, none⟩ = some (y) ∧ Kp w w') (first | assumption | exact s17d)
    (first
      | (go_at_call 15; refine (toRules_any _ _ _ _ _ _ l m _ _ _ _ _ _ (RA.out.keep s17d.2.2.2.2.2.2.2.2.2.2.2.2)).mono ?_; rintro e18 w18 ⟨g1d, g2d, csd, ysd, zsd, rfl, o18, k18⟩; have s18 := keep12k k18 s17d; have R18 := Lib.hid (o18.rul RA.out); have K18 := Lib.hid ((Kp.refl w17).drew.trans k18))
      | (go_at_call 41; refine (toMap_sl W H _ _ _ lt lr ld mt mr md _ (LA.out.keep s18.2.2.2.2.2.2.2.2.2.2.2.2) HE1.out HE2.out HE3.out).mono ?_; rintro e19 w19 ⟨A1d, c1d, A2d, c2d, A3d, c3d, rfl, o19, k19⟩; have s19 := keep12k k19 s18; have B19 := Lib.hid (BrdAt.mk (R18.out.keep k19) (o19.lists LA.out)); have K19 := Lib.hid (K18.out.trans k19))
      | (go_at_call 42; refine (CI.out _ _ _ _ _ _ _ _ B19.out (HS.out.keep s19.2.2.2.2.2.2.2.2.2.2.2.2) (HT.out.keep s19.2.2.2.2.2.2.2.2.2.2.2.2)).mono ?_; rintro e20 w20 ⟨v2', rfl, o20, k20⟩; have s20 := keep12k k20 s19; have O20 := Lib.hid o20; have K20 := Lib.hid (K19.out.trans k20)))
  have K20' : Kp w17 w20 := K20.out
  have Kw : Kp w w20 := s20.2.2.2.2.2.2.2.2.2.2.2.2
  clear s17 s17d s18 s19 s20 R18 B19 K18 K19 K20
  go_wp2_with fail
  refine (eqIntS_same v2' v0 L _ O20.out.rd (R0.out.keep (K4g.trans K20')) (by omega)).mono ?_
  rintro e21 w21 ⟨rfl, k21⟩
  have OM3 := Lib.hid (ownsRow_keep OM2.out (K20'.trans k21))
  have Kx : Kp w w21 := Kw.trans k21
  clear OM2 K20' Kw O20 k21
  go_wp2_with fail
  refine (heldIntS_own vv L.length (w6.heap.size + 1) 1 _ (by omega) (by omega) (by omega) OM3.out).mono ?_
  rintro e22 w22 ⟨rfl, k22⟩
  go_wp2_with fail
  go_ret
  exact ⟨rfl, Kx.trans k22⟩

set_option maxRecDepth 100000 in
theorem contract (H : Type) (enc : TypeId × Value → H) (W : World) (base : Nat) (args : Array Value) (ds gs : List (DataW H)) (before : List MemPlace)
    (hval : ∀ (j : Nat) t v, Tryd.f11.params[j]? = some t → args[j]? = some v → Value.okWide Tryd.prog W .any base t v)
    (hW : DataW.Whole enc Tryd.prog Tryd.f11.params.toList Rows.fnExactMissingTerrainsSpec.vars false W args.toList ds gs before) (hL : laidMetH Tryd.prog Rows.fnExactMissingTerrainsRow.laid W) :
    Calls Tryd.prog 11 args W fun e W' => ∃ v, e = .returned v ∧ Rows.fnExactMissingTerrainsSpec.post enc Tryd.prog Tryd.f11 false true false false W args v W' := by
  have hW' := hW
  obtain ⟨p, q, hA0, hV, rfl, hfz, hnd⟩ := hW
  have hA : DataW.TrodAll enc Tryd.prog W 0 (fun _ => true) true Tryd.f11.params.toList args.toList ds p := hA0
  rw [Tryd.params11] at hA hval
  obtain ⟨v0, v1, d0, d1, p0, p1, rfl, rfl, rfl, h0, h1⟩ := trodAll_two hA
  obtain ⟨_, _, _, _, _, _, _, _, _, _, _, _, _, _, _, rfl⟩ := len15 (trodVars_len hV)
  obtain ⟨At0, Ak0, nt0, nk0, ct0, ck0, l0, m0, a0, b0, c0, d0', e0, rfl, hR0, hI0⟩ := open_rules (hval 0 25 v0 rfl rfl) h0
  obtain ⟨W0, H0, x0, r0, y0, lt0, lr0, ld0, rfl, hR1⟩ := open_map5 (hval 1 37 v1 rfl rfl) h1
  refine (walk At0 Ak0 nt0 nk0 ct0 ck0 l0 m0 a0 b0 c0 d0' e0 W0 H0 x0 r0 y0 lt0 lr0 ld0 W (spans15 hL) (tab15 hL) hR0 hR1).mono fun e W' ⟨he, hg⟩ => ?_
  subst he
  exact ⟨_, rfl, law_post hW' laidOut (by kernel_rfl) (by kernel_rfl) (by kernel_rfl) Tryd.underlying4 rfl hg⟩

theorem laid_met (os : Os) : laidMet Tryd.prog Rows.fnExactMissingTerrainsRow.laid ((laidWorldS os).forCall (fun _ _ => 0) ⟨#[], #[.agg #[.slice none 0 0, .slice none 0 0, .int .i64 0, .int .i64 0, .int .i64 0, .int .i64 0, .int .i64 0], .agg #[.int .i64 0, .int .i64 0, .slice none 0 0, .slice none 0 0, .slice none 0 0]], []⟩).memory :=
  laidMet_of_run' 8 (by kernel_rfl) (by kernel_rfl)
theorem reads (os : Os) {H : Type} (enc : TypeId × Value → H) : ∃ ds gs places, DataW.whole enc Tryd.prog ((laidWorldS os).forCall (fun _ _ => 0) ⟨#[], #[.agg #[.slice none 0 0, .slice none 0 0, .int .i64 0, .int .i64 0, .int .i64 0, .int .i64 0, .int .i64 0], .agg #[.int .i64 0, .int .i64 0, .slice none 0 0, .slice none 0 0, .slice none 0 0]], []⟩).memory Tryd.f11.params.toList Rows.fnExactMissingTerrainsSpec.vars false #[.agg #[.slice none 0 0, .slice none 0 0, .int .i64 0, .int .i64 0, .int .i64 0, .int .i64 0, .int .i64 0], .agg #[.int .i64 0, .int .i64 0, .slice none 0 0, .slice none 0 0, .slice none 0 0]].toList 8 = some (ds, gs, places) :=
  ⟨[.agg [.nil, .nil, .lit (.int .i64 0), .lit (.int .i64 0), .lit (.int .i64 0), .lit (.int .i64 0), .lit (.int .i64 0)], .agg [.lit (.int .i64 0), .lit (.int .i64 0), .nil, .nil, .nil]], [Rows.laid_loop_example_g00886_impl_terrainsSpan, Rows.laid_loop_example_g00886_impl_kindsSpan, Rows.laid_loop_example_g00886_impl_stackSpan, Rows.laid_loop_example_g00886_impl_riverSpan, Rows.laid_loop_example_g00886_impl_roadSpan, Rows.laid_loop_example_g00886_impl_supplySpan, Rows.laid_loop_example_g00886_impl_turnsSpan, Rows.laid_loop_example_g00886_impl_costSpan, Rows.laid_loop_example_g00886_impl_shiftSpan, Rows.laid_loop_example_g00886_impl_heightSpan, Rows.laid_loop_example_g00886_impl_strengthSpan, Rows.laid_loop_example_g00886_impl_movesSpan, Rows.laid_loop_example_g00886_impl_stepsSpan, Rows.laid_loop_example_g00886_impl_viewSpan, Rows.laid_loop_example_g00886_impl_directionSteps], MemPlace.row ⟨0, 0, none⟩ 2 ++ (MemPlace.row ⟨1, 0, none⟩ 2 ++ (MemPlace.row ⟨2, 0, none⟩ 2 ++ (MemPlace.row ⟨3, 0, none⟩ 2 ++ (MemPlace.row ⟨4, 0, none⟩ 2 ++ (MemPlace.row ⟨5, 0, none⟩ 2 ++ (MemPlace.row ⟨6, 0, none⟩ 2 ++ (MemPlace.row ⟨7, 0, none⟩ 2 ++ (MemPlace.row ⟨8, 0, none⟩ 2 ++ (MemPlace.row ⟨9, 0, none⟩ 2 ++ (MemPlace.row ⟨10, 0, none⟩ 2 ++ (MemPlace.row ⟨11, 0, none⟩ 2 ++ (MemPlace.row ⟨12, 0, none⟩ 2 ++ (MemPlace.row ⟨13, 0, none⟩ 2 ++ (MemPlace.row ⟨14, 0, none⟩ 12)))))))))))))), by kernel_rfl⟩

set_option maxRecDepth 100000 in
theorem lifted (os : Os) (started : os.Started) (H : Type) (enc : TypeId × Value → H) (F : Stop.Interp) :
    ReturnsInHanded {} Tryd.checked os 11 .any ((OpenSpec.ofChange Rows.fnExactMissingTerrainsSpec).preRow enc Tryd.prog Tryd.f11 Rows.fnExactMissingTerrainsRow.domain false Rows.fnExactMissingTerrainsRow.laid) (((OpenSpec.ofChange Rows.fnExactMissingTerrainsSpec).at F).post enc Tryd.prog Tryd.f11 false true false false) := by
  obtain ⟨ds, gs, places, hx⟩ := reads os enc
  refine returnsInHanded_of_row (C := Tryd.checked) (s := OpenSpec.ofChange Rows.fnExactMissingTerrainsSpec) own started (by kernel_rfl) Tryd.func11
    (witness_row_at (enc := enc) (C := Tryd.checked) false (laidWorldS os) #[.agg #[.slice none 0 0, .slice none 0 0, .int .i64 0, .int .i64 0, .int .i64 0, .int .i64 0, .int .i64 0], .agg #[.int .i64 0, .int .i64 0, .slice none 0 0, .slice none 0 0, .slice none 0 0]] rfl (by kernel_rfl) (by kernel_rfl) (by kernel_rfl)
      (OpenSpec.preRow_of_cond 8 hx (by kernel_rfl) (fun k hk => by cases hk) (by kernel_rfl) (laid_met os))) ?_
  intro W base args ds gs before hval hW _ _ _ hL _ _
  exact contract H enc W base args ds gs before hval hW hL

theorem said : Rows.FnExactMissingTerrainsSaid :=
  OpenClaim.holds_of_cond 11 Tryd.f11 rfl rfl rfl rfl rfl rfl rfl ⟨rfl, rfl, rfl, rfl, rfl⟩ rfl rfl rfl rfl rfl (by kernel_rfl) Tryd.func11 (by kernel_rfl)
    (of_decide_eq_true (by kernel_rfl)) (by unfold Func.isWrapper; first | (rw [if_pos (by decide +kernel)]; kernel_rfl) | (rw [if_neg (by decide +kernel)]; exact ⟨rfl, rfl⟩))
    (fun os started H enc _ F => by rw [OpenClaim.pre_eq_preRow]; exact lifted os started H enc F)

theorem plain (f : FuncId) (fn : Func) (hf : Tryd.pinned.checked.prog.funcNamed "loop.example/g00886/laws.FnExactMissingTerrains" = some f) (hfn : Tryd.pinned.checked.prog.funcs[f]? = some fn) :
    false = Tryd.pinned.checked.prog.looks [] ∧ ∀ (j : Nat) t, fn.params[j]? = some t → Tryd.pinned.checked.prog.wantsStandIn t = false := by
  obtain rfl : f = 11 := Option.some.inj ((show Tryd.prog.funcNamed "loop.example/g00886/laws.FnExactMissingTerrains" = some 11 by kernel_rfl).symm.trans hf) |>.symm
  obtain rfl : fn = Tryd.f11 := (Option.some.inj (Tryd.func11.symm.trans hfn)).symm
  refine ⟨by kernel_rfl, fun j t ht => ?_⟩
  rw [Tryd.params11] at ht
  have hm := Array.mem_of_getElem? ht
  simp only [List.mem_toArray, List.mem_cons, List.not_mem_nil, or_false] at hm
  rcases hm with rfl | rfl
  · exact (show Tryd.prog.wantsStandIn 25 = false by kernel_rfl)
  · exact (show Tryd.prog.wantsStandIn 37 = false by kernel_rfl)

/-- The card: the row, with what it lists tied to the program's text. -/
theorem card : Rows.FnExactMissingTerrainsCardSaid :=
  Claim7.holds_tied_plain_at .later [] _ _ _ _ said (fun _ h => by cases h) (by kernel_rfl) (fun _ h => by cases h) fnExactMissingTerrains_row_tie rfl ⟨rfl, rfl⟩ (by kernel_rfl) rfl plain (by kernel_rfl)
#print axioms card

end Go.Proofs.YtkkcnofplddbmaaDoor.missingTerrainsLaw
