/-
  The program's nearest hex of a list: its index and true, or 0 and false. Nothing that was there is changed.
-/
import Derived.Test.YtmodcmkmfedgoaaDoorNear
namespace Go.Proofs.YtmodcmkmfedgoaaDoor
open Go.RowKit

def NearPost (l : List (Int × Int)) (q r : Int) (w : World) (e : Ending) (w' : World) : Prop := e = .returned (.tuple #[.int .i64 (nearI l q r), .bool (nearOk l q r)]) ∧ Kp w w'
theorem NearPost.no {l : List (Int × Int)} {q r : Int} {w w' : World} (h : nearOk l q r = false) (hk : Kp w w') : NearPost l q r w (.returned (.tuple #[.int .i64 0, .bool false])) w' := by
  unfold NearPost nearI
  rw [h]
  exact ⟨rfl, hk⟩
theorem nearOk_len {l : List (Int × Int)} {q r : Int} (h : ¬ (1 ≤ l.length ∧ l.length ≤ 60)) : nearOk l q r = false := by
  have : (decide (1 ≤ l.length) && decide (l.length ≤ 60)) = false := by
    cases e : decide (1 ≤ l.length) && decide (l.length ≤ 60)
    · rfl
    · simp only [Bool.and_eq_true, decide_eq_true_eq] at e
      exact absurd e h
  simp only [nearOk, this, Bool.false_and]
theorem dAt_at {l : List (Int × Int)} {q r : Int} {i : Nat} {x : Int × Int} (h : l[i]? = some x) : dAt l q r i = distH x.1 x.2 q r := by simp [dAt, h]

set_option maxHeartbeats 4000000 in
theorem nearestAlong_any (v : Value) (l : List (Int × Int)) (q r : Int) (w : World) (h : RdH w v l) (hl : l.length ≤ 1048576) :
    Calls Tryd.prog 16 #[v, hx q r] w (NearPost l q r w) := by
  obtain ⟨A, c, rfl, h⟩ := h
  have HA := Lib.hid h
  clear h
  obtain ⟨n, hn⟩ : ∃ n, l.length = n := ⟨_, rfl⟩
  have HN := Lib.hid hn
  rw [hn] at hl ⊢
  rw [hn] at HA
  clear hn
  by_cases h0 : n = 0
  · subst h0
    go_enter Tryd.func16, Tryd.ntmps16
    go_wp2_with fail
    go_ret2
    exact NearPost.no (nearOk_len (by rw [HN.out]; omega)) ((Kp.refl _).alloc _)
  · have hne : ((n : Int) == 0) = false := by simp; omega
    by_cases h60 : n ≤ 60
    · have hg : ¬ (60 : Int) < n := by omega
      go_enter Tryd.func16, Tryd.ntmps16
      go_wp2_with fail
      have hb : Hid ((w.alloc (.cells #[.int .i64 q, .int .i64 r] 25)).cell? ⟨w.heap.size, 0, none⟩ = some (.int .i64 q) ∧ (w.alloc (.cells #[.int .i64 q, .int .i64 r] 25)).cell? ⟨w.heap.size, 1, none⟩ = some (.int .i64 r)) := Lib.hid (by simp [go_sem])
      have hk0 : Kp w (w.alloc (.cells #[.int .i64 q, .int .i64 r] 25)) := (Kp.refl _).alloc _
      generalize w.alloc (.cells #[.int .i64 q, .int .i64 r] 25) = W at *
      go_loopw [6, 7, 22] (fun s6 s7 s22 wx => ∃ (k : Nat) (m : Int), k ≤ n ∧ s22 = .int .i64 k ∧ s6 = .int .i64 (bestUp l q r k : Int) ∧ s7 = .int .i64 m ∧ Hid (0 < k → m = dAt l q r (bestUp l q r k) ∧ okH q r = true) ∧ Hid (∀ j x, j < k → l[j]? = some x → okH x.1 x.2 = true) ∧ Kp W wx) (fun _ _ s22 _ => n - (intOf s22).toNat)
      case atStart => exact ⟨0, 0, by omega, rfl, rfl, rfl, Lib.hid fun h => by omega, Lib.hid fun j x hj => absurd hj (by omega), Kp.refl _⟩
      case round =>
        obtain ⟨k, m, hk, rfl, rfl, rfl, hmQ, hokQ, kQ⟩ := hrel
        have b3 := kQ.two hb.out
        have l3 := cell_lt b3.1
        have n3 : w.heap.size ≠ wr.heap.size := by omega
        by_cases hlt : k < n
        · have hlt' : (k : Int) < n := by omega
          obtain ⟨g, off, rfl, hc⟩ := HA.out (by omega)
          obtain ⟨x, hx⟩ : ∃ x, l[k]? = some x := ⟨l[k]'(by have := HN.out; omega), List.getElem?_eq_getElem _⟩
          have a0 := kQ.cell (hk0.cell (hc k x hx).1)
          have a1 := kQ.cell (hk0.cell (hc k x hx).2)
          have HX := Lib.hid hx
          have HD := Lib.hid (dAt_at (q := q) (r := r) hx)
          clear hc hx
          obtain ⟨px, py⟩ := x
          simp only at a0 a1
          have HU := Lib.hid (show bestUp l q r (k + 1) = if dAt l q r k < dAt l q r (bestUp l q r k) then k else bestUp l q r k from rfl)
          have hbl := bestUp_le l q r k
          cases hok : ok2 px py q r
          · have HC := Lib.hid (show ∀ w, Calls Tryd.prog 9 #[hx px py, hx q r] w fun e w' => e = .returned (.tuple #[.int .i64 0, .bool false]) ∧ Kp w w' from fun w => by have := distanceOf_any px py q r w; rw [hok, show distOf px py q r = 0 from by simp [distOf, hok]] at this; exact this)
            have HR : Hid (nearOk l q r = false) := Lib.hid (by
              simp only [ok2, Bool.and_eq_false_iff] at hok
              rcases hok with h | h
              · simp only [nearOk, allOk_false HX.out h, Bool.and_false]
              · simp only [nearOk, h, Bool.and_false, Bool.false_and])
            clear hok
            go_wp2_with fail
            refine (HC.out _).mono ?_
            rintro e w1 ⟨rfl, k1⟩
            go_wp2_with fail
            go_ret2
            exact NearPost.no HR.out ((hk0.trans (kQ.alloc _)).trans k1)
          · obtain ⟨D, hD⟩ : ∃ D, D = distH px py q r := ⟨_, rfl⟩
            have HC := Lib.hid (show ∀ w, Calls Tryd.prog 9 #[hx px py, hx q r] w fun e w' => e = .returned (.tuple #[.int .i64 D, .bool true]) ∧ Kp w w' from fun w => by have := distanceOf_any px py q r w; rw [hok, show distOf px py q r = D from by simp [distOf, hok, hD]] at this; exact this)
            have HDD : Hid (dAt l q r k = D) := Lib.hid (by rw [HD.out, hD])
            have HO2 : Hid (okH px py = true ∧ okH q r = true) := Lib.hid (by simpa [ok2] using hok)
            have hns : Hid (∀ j x, j < k + 1 → l[j]? = some x → okH x.1 x.2 = true) := Lib.hid fun j y hj hy => by
              rcases Nat.lt_or_ge j k with h | h
              · exact hokQ.out j y h hy
              · obtain rfl : j = k := by omega
                rw [HX.out] at hy
                obtain rfl := Option.some.inj hy
                exact HO2.out.1
            clear hok hD
            by_cases hk0' : k = 0
            · have hkz : ((k : Int) == 0) = true := by simp; omega
              have hk00 : k ≤ 0 := by omega
              clear hk0'
              go_wp2_with fail
              refine (HC.out _).mono ?_
              rintro e w1 ⟨rfl, k1⟩
              go_wp2_with fail
              go_roundw
              case rel =>
                have e : bestUp l q r (k + 1) = k := by rw [HU.out]; split <;> omega
                refine ⟨k + 1, D, by omega, by go_num, by rw [e], rfl, Lib.hid fun _ => ⟨by rw [e]; exact HDD.out.symm, HO2.out.2⟩, hns, (kQ.alloc _).trans k1⟩
              case measure => simp [intOf]; omega
            · have hkne : ((k : Int) == 0) = false := by simp; omega
              obtain ⟨hm, _⟩ := hmQ.out (by omega)
              have HM := Lib.hid hm
              clear hm
              by_cases hlt2 : D < m
              · go_wp2_with fail
                refine (HC.out _).mono ?_
                rintro e w1 ⟨rfl, k1⟩
                go_wp2_with fail
                go_roundw
                case rel =>
                  have e : bestUp l q r (k + 1) = k := by rw [HU.out, if_pos (by rw [HDD.out, ← HM.out]; exact hlt2)]
                  refine ⟨k + 1, D, by omega, by go_num, by rw [e], rfl, Lib.hid fun _ => ⟨by rw [e]; exact HDD.out.symm, HO2.out.2⟩, hns, (kQ.alloc _).trans k1⟩
                case measure => simp [intOf]; omega
              · go_wp2_with fail
                refine (HC.out _).mono ?_
                rintro e w1 ⟨rfl, k1⟩
                go_wp2_with fail
                go_roundw
                case rel =>
                  have e : bestUp l q r (k + 1) = bestUp l q r k := by rw [HU.out, if_neg (by rw [HDD.out, ← HM.out]; omega)]
                  refine ⟨k + 1, m, by omega, by go_num, by rw [e], rfl, Lib.hid fun _ => ⟨by rw [e]; exact HM.out, HO2.out.2⟩, hns, (kQ.alloc _).trans k1⟩
                case measure => simp [intOf]; omega
        · obtain rfl : k = n := by omega
          go_wp2_with fail
          go_ret2
          have e : nearOk l q r = true := by
            have h1 : allOk l = true := allOk_true fun i x hx => hokQ.out i x (by have := (List.getElem?_eq_some_iff.1 hx).1; have := HN.out; omega) hx
            have h2 := (hmQ.out (by omega)).2
            have h3 : 1 ≤ l.length ∧ l.length ≤ 60 := by rw [HN.out]; omega
            simp [nearOk, h1, h2, h3.1, h3.2]
          unfold NearPost nearI
          rw [e, HN.out]
          exact ⟨rfl, hk0.trans kQ⟩
    · have hg : (60 : Int) < n := by omega
      go_enter Tryd.func16, Tryd.ntmps16
      go_wp2_with fail
      go_ret2
      exact NearPost.no (nearOk_len (by rw [HN.out]; omega)) ((Kp.refl _).alloc _)
end Go.Proofs.YtmodcmkmfedgoaaDoor
