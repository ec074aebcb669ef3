/-
  The reference's nearest hex of a list: its index and true, or 0 and false. Nothing that was there is changed.
-/
import Derived.Test.YtmodcmkmfedgoaaDoorNearImpl
import Derived.Deep.RegionHeld3
namespace Go.Proofs.YtmodcmkmfedgoaaDoor
open Go.RowKit

theorem Kp.six {W w1 : World} (hk : Kp W w1) {p0 p1 p2 p3 p4 p5 : Addr} {v0 v1 v2 v3 v4 v5 : Value} (h : W.cell? p0 = some v0 ∧ W.cell? p1 = some v1 ∧ W.cell? p2 = some v2 ∧ W.cell? p3 = some v3 ∧ W.cell? p4 = some v4 ∧ W.cell? p5 = some v5) :
    w1.cell? p0 = some v0 ∧ w1.cell? p1 = some v1 ∧ w1.cell? p2 = some v2 ∧ w1.cell? p3 = some v3 ∧ w1.cell? p4 = some v4 ∧ w1.cell? p5 = some v5 :=
  ⟨hk.cell h.1, hk.cell h.2.1, hk.cell h.2.2.1, hk.cell h.2.2.2.1, hk.cell h.2.2.2.2.1, hk.cell h.2.2.2.2.2⟩

set_option maxHeartbeats 4000000 in
theorem specNearestAlong_any (v : Value) (l : List (Int × Int)) (q r : Int) (w : World) (h : RdH w v l) (hl : l.length ≤ 1048576) :
    Calls Tryd.prog 17 #[v, hx q r] w (NearPost l q r w) := by
  obtain ⟨A, c, rfl, h⟩ := h
  have HA := Lib.hid h
  clear h
  obtain ⟨n, hn⟩ : ∃ n, l.length = n := ⟨_, rfl⟩
  have HN := Lib.hid hn
  rw [hn] at hl ⊢
  rw [hn] at HA
  clear hn
  have hb0 : Hid ((w.alloc (.cells #[.int .i64 q, .int .i64 r] 25)).cell? ⟨w.heap.size, 0, none⟩ = some (.int .i64 q) ∧ (w.alloc (.cells #[.int .i64 q, .int .i64 r] 25)).cell? ⟨w.heap.size, 1, none⟩ = some (.int .i64 r)) := Lib.hid (by simp [go_sem])
  have hk0 : Kp w (w.alloc (.cells #[.int .i64 q, .int .i64 r] 25)) := (Kp.refl _).alloc _
  by_cases hlen : 1 ≤ n ∧ n ≤ 60
  · have HB := Lib.hid (show (decide ((1 : Int) ≤ n) && decide ((n : Int) ≤ 60)) = true by simp; omega)
    cases ha : okH q r
    · go_enter Tryd.func17, Tryd.ntmps17
      go_wp2_with fail
      refine (l1In_gen _ _ _ _).mono ?_
      rintro e w1 ⟨rfl, rfl⟩
      rw [HB.out]
      go_wp2_with fail
      refine (hGood_any _ _ _).mono ?_
      rintro e w1 ⟨rfl, k1⟩
      go_wp2_with fail
      go_ret2
      exact NearPost.no (by simp only [nearOk, ha, Bool.and_false, Bool.false_and]) (hk0.trans k1)
    · have A1 := okH_true ha
      have HAok := Lib.hid ha
      go_enter Tryd.func17, Tryd.ntmps17
      go_wp2_with fail
      refine (l1In_gen _ _ _ _).mono ?_
      rintro e w1 ⟨rfl, rfl⟩
      rw [HB.out]
      go_wp2_with fail
      refine (hGood_any _ _ _).mono ?_
      rintro e W ⟨rfl, k1⟩
      have hb := Lib.hid (k1.two hb0.out)
      have hkW : Kp w W := hk0.trans k1
      clear k1 hb0 hk0
      go_wp2_with fail
      go_loopw [6, 20] (fun s6 s20 wx => ∃ k : Nat, k ≤ n ∧ s20 = .int .i64 k ∧ s6 = .int .i64 (bestUp l q r k : Int) ∧ Hid (∀ j x, j < k → l[j]? = some x → okH x.1 x.2 = true) ∧ Kp W wx) (fun _ s20 _ => n - (intOf s20).toNat)
      case atStart => exact ⟨0, by omega, rfl, rfl, Lib.hid fun j x hj => absurd hj (by omega), Kp.refl _⟩
      case round =>
        obtain ⟨k, hk, rfl, rfl, hokQ, kQ⟩ := hrel
        have b3 := kQ.two hb.out
        have l3 := cell_lt b3.1
        have n3 : w.heap.size ≠ wr.heap.size := by omega
        by_cases hlt : k < n
        · have hlt' : (k : Int) < n := by omega
          obtain ⟨g, off, rfl, hc⟩ := HA.out (by omega)
          obtain ⟨x, hx⟩ : ∃ x, l[k]? = some x := ⟨l[k]'(by have := HN.out; omega), List.getElem?_eq_getElem _⟩
          have hbl := bestUp_le l q r k
          have hbn := bestUp_lt l q r n (by omega) k hk
          obtain ⟨y, hy⟩ : ∃ y, l[bestUp l q r k]? = some y := ⟨l[bestUp l q r k]'(by have := HN.out; omega), List.getElem?_eq_getElem _⟩
          have a0 := kQ.cell (hkW.cell (hc k x hx).1)
          have a1 := kQ.cell (hkW.cell (hc k x hx).2)
          have y0 := kQ.cell (hkW.cell (hc _ y hy).1)
          have y1 := kQ.cell (hkW.cell (hc _ y hy).2)
          have HX := Lib.hid hx
          have HY := Lib.hid hy
          have HU := Lib.hid (show bestUp l q r (k + 1) = if distH x.1 x.2 q r < distH y.1 y.2 q r then k else bestUp l q r k by rw [bestUp, dAt_at hx, dAt_at hy])
          clear hc hx hy
          generalize hbe : bestUp l q r k = b at *
          have HBe := Lib.hid hbe
          clear hbe
          have hbn' : (b : Int) < n := by omega
          obtain ⟨px, py⟩ := x
          obtain ⟨qx, qy⟩ := y
          simp only at a0 a1 y0 y1
          cases hok : okH px py
          · have HR : Hid (nearOk l q r = false) := Lib.hid (by simp only [nearOk, allOk_false HX.out hok, Bool.and_false])
            go_wp2_with fail
            refine (hGood_any _ _ _).mono ?_
            rintro e w1 ⟨rfl, k1⟩
            go_wp2_with fail
            go_ret2
            exact NearPost.no HR.out ((hkW.trans (kQ.alloc _)).trans k1)
          · have hokq : okH qx qy = true := by
              rcases Nat.lt_or_ge b k with h | h
              · exact hokQ.out b _ h HY.out
              · have e : b = k := by omega
                have h1 := HY.out
                rw [e, HX.out] at h1
                obtain ⟨rfl, rfl⟩ := Prod.mk.inj (Option.some.inj h1)
                exact hok
            have B1 := okH_true hok
            have C1 := okH_true hokq
            have hns : Hid (∀ j x, j < k + 1 → l[j]? = some x → okH x.1 x.2 = true) := Lib.hid fun j z hj hz => by
              rcases Nat.lt_or_ge j k with h | h
              · exact hokQ.out j z h hz
              · obtain rfl : j = k := by omega
                rw [HX.out] at hz
                obtain rfl := Option.some.inj hz
                exact hok
            clear hokq
            go_wp2_with fail
            refine (hGood_any _ _ _).mono ?_
            rintro e w1 ⟨rfl, k1⟩
            have x0 : w1.cell? ⟨wr.heap.size, 0, none⟩ = some (.int .i64 px) := k1.cell (by simp [go_sem])
            have x1 : w1.cell? ⟨wr.heap.size, 1, none⟩ = some (.int .i64 py) := k1.cell (by simp [go_sem])
            have KA : Kp wr w1 := ((Kp.refl wr).alloc _).trans k1
            have S6 : w1.cell? ⟨wr.heap.size, 0, none⟩ = some (.int .i64 px) ∧ w1.cell? ⟨wr.heap.size, 1, none⟩ = some (.int .i64 py) ∧ w1.cell? ⟨w.heap.size, 0, none⟩ = some (.int .i64 q) ∧ w1.cell? ⟨w.heap.size, 1, none⟩ = some (.int .i64 r) ∧ w1.cell? ⟨g, off + b * 2, none⟩ = some (.int .i64 qx) ∧ w1.cell? ⟨g, off + b * 2 + 1, none⟩ = some (.int .i64 qy) := ⟨x0, x1, KA.cell b3.1, KA.cell b3.2, KA.cell y0, KA.cell y1⟩
            have KW : Kp W w1 := kQ.trans KA
            clear k1 KA x0 x1 b3 a0 a1 y0 y1
            have hb0 : (0 : Int) ≤ b := by omega
            by_cases hlt2 : distH px py q r < distH qx qy q r
            all_goals
              go_wp2_with fail
              go_region_held3 (fun w' => w'.cell? ⟨wr.heap.size, 0, none⟩ = some (.int .i64 px) ∧ w'.cell? ⟨wr.heap.size, 1, none⟩ = some (.int .i64 py) ∧ w'.cell? ⟨w.heap.size, 0, none⟩ = some (.int .i64 q) ∧ w'.cell? ⟨w.heap.size, 1, none⟩ = some (.int .i64 r) ∧ w'.cell? ⟨g, off + b * 2, none⟩ = some (.int .i64 qx) ∧ w'.cell? ⟨g, off + b * 2 + 1, none⟩ = some (.int .i64 qy)) (first | assumption | go_keep)
                (first | (go_at_call 37; refine (hDistance_any _ _ _ _ _ (by omega) (by omega) (by omega) (by omega) (by omega) (by omega) (by omega) (by omega)).mono ?_; rintro e w2 ⟨rfl, k2⟩; have s2 := k2.six (by assumption)))
              all_goals
                go_wp2_with fail
                go_roundw
                case rel =>
                  refine ⟨k + 1, by omega, by go_num, ?_, hns, by repeat (first | exact KW | refine Kp.drew ?_ | refine Kp.trans ?_ (by assumption))⟩
                  rw [HU.out]
                  first | rw [if_pos hlt2] | rw [if_neg (by omega)]
                case measure => simp [intOf]; omega
        · obtain rfl : k = n := by omega
          go_wp2_with fail
          go_ret2
          have e : nearOk l q r = true := by
            have h1 : allOk l = true := allOk_true fun i x hx => hokQ.out i x (by have := (List.getElem?_eq_some_iff.1 hx).1; have := HN.out; omega) hx
            have h3 : 1 ≤ l.length ∧ l.length ≤ 60 := by rw [HN.out]; omega
            simp [nearOk, h1, HAok.out, h3.1, h3.2]
          unfold NearPost nearI
          rw [e, HN.out]
          exact ⟨rfl, hkW.trans kQ⟩
  · have HB := Lib.hid (show (decide ((1 : Int) ≤ n) && decide ((n : Int) ≤ 60)) = false by
      cases e : decide ((1 : Int) ≤ n) && decide ((n : Int) ≤ 60)
      · rfl
      · simp only [Bool.and_eq_true, decide_eq_true_eq] at e
        omega)
    go_enter Tryd.func17, Tryd.ntmps17
    go_wp2_with fail
    refine (l1In_gen _ _ _ _).mono ?_
    rintro e w1 ⟨rfl, rfl⟩
    rw [HB.out]
    go_wp2_with fail
    go_ret2
    exact NearPost.no (nearOk_len (by rw [HN.out]; omega)) hk0
end Go.Proofs.YtmodcmkmfedgoaaDoor
