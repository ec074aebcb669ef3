/-
  IndexOf and HexAt, the program's and the reference's: what plain functions say, and nothing that was there is changed. The table of directions holds what the program's text lays.
-/
import Derived.Test.YtpfnljhnjembpaaDoorMapF
namespace Go.Proofs.YtpfnljhnjembpaaDoor
open Go.RowKit

theorem indexOf_any (W H : Int) (t r d : Value) (lt lr ld : List Int) (q x : Int) (w : World) (ht : Tab w) (hL : Lists w t r d lt lr ld) :
    Calls Tryd.prog 20 #[mp W H t r d, hx q x] w fun e w' => e = .returned (ib (mapOk W H lt lr ld && inM W H q x) (idxM W q x)) ∧ Kp w w' := by
  have HL := Lib.hid hL
  have HT := Lib.hid ht
  clear hL ht
  have s0 := keep5 ((Kp.refl _).alloc (.cells #[.int .i64 q, .int .i64 x] 35)) (new5 w (.int .i64 W) (.int .i64 H) t r d 27)
  cases hm : mapOk W H lt lr ld
  · rw [Bool.false_and]
    go_enter Tryd.func20, Tryd.ntmps20
    go_wp2_with fail
    refine (isMap_any _ _ _ _ _ lt lr ld _ (HT.out.k5 s0) (HL.out.keep s0.2.2.2.2.2)).mono ?_
    rintro e1 w1 ⟨rfl, k1⟩
    go_wp2_with fail
    go_ret2
    exact ⟨rfl, s0.2.2.2.2.2.trans k1⟩
  · rw [Bool.true_and]
    obtain ⟨a, b, c, e⟩ := mapOk_side hm
    go_enter Tryd.func20, Tryd.ntmps20
    go_wp2_with fail
    refine (isMap_any _ _ _ _ _ lt lr ld _ (HT.out.k5 s0) (HL.out.keep s0.2.2.2.2.2)).mono ?_
    rintro e1 w1 ⟨rfl, k1⟩
    have s1 := keep5 k1 s0
    have p0 : w1.cell? ⟨w.heap.size + 1, 0, none⟩ = some (.int .i64 q) := k1.cell (by simp [go_sem])
    have p1 : w1.cell? ⟨w.heap.size + 1, 1, none⟩ = some (.int .i64 x) := k1.cell (by simp [go_sem])
    clear s0 k1
    go_wp2_with fail
    refine (indexOfHex_any _ _ _ _ _ _ _ _ a b c e).mono ?_
    rintro e2 w2 ⟨rfl, k2⟩
    go_wp2_with fail
    go_ret2
    exact ⟨rfl, s1.2.2.2.2.2.trans k2⟩

theorem specIndexOf_any (W H : Int) (t r d : Value) (lt lr ld : List Int) (q x : Int) (w : World) (hL : Lists w t r d lt lr ld) :
    Calls Tryd.prog 18 #[mp W H t r d, hx q x] w fun e w' => e = .returned (ib (mapOk W H lt lr ld && inM W H q x) (idxM W q x)) ∧ Kp w w' := by
  have HL := Lib.hid hL
  clear hL
  have s0 := keep5 ((Kp.refl _).alloc (.cells #[.int .i64 q, .int .i64 x] 35)) (new5 w (.int .i64 W) (.int .i64 H) t r d 27)
  cases hm : mapOk W H lt lr ld
  · rw [Bool.false_and]
    go_enter Tryd.func18, Tryd.ntmps18
    go_wp2_with fail
    refine (mGood_any _ _ _ _ _ lt lr ld _ (HL.out.keep s0.2.2.2.2.2)).mono ?_
    rintro e1 w1 ⟨rfl, k1⟩
    go_wp2_with fail
    go_ret2
    exact ⟨rfl, s0.2.2.2.2.2.trans k1⟩
  · rw [Bool.true_and]
    obtain ⟨a, b, c, e⟩ := mapOk_side hm
    cases hi : inM W H q x
    · go_enter Tryd.func18, Tryd.ntmps18
      go_wp2_with fail
      refine (mGood_any _ _ _ _ _ lt lr ld _ (HL.out.keep s0.2.2.2.2.2)).mono ?_
      rintro e1 w1 ⟨rfl, k1⟩
      have s1 := keep5 k1 s0
      have p0 : w1.cell? ⟨w.heap.size + 1, 0, none⟩ = some (.int .i64 q) := k1.cell (by simp [go_sem])
      have p1 : w1.cell? ⟨w.heap.size + 1, 1, none⟩ = some (.int .i64 x) := k1.cell (by simp [go_sem])
      clear s0 k1
      go_wp2_with fail
      refine (mIndex_any _ _ _ _ _ _ _ _ a b c e).mono ?_
      rintro e2 w2 ⟨rfl, k2⟩
      rw [hi, orNo_false]
      go_wp2_with fail
      go_ret2
      exact ⟨rfl, s1.2.2.2.2.2.trans k2⟩
    · obtain ⟨n0, n1⟩ := idx_bd hi
      go_enter Tryd.func18, Tryd.ntmps18
      go_wp2_with fail
      refine (mGood_any _ _ _ _ _ lt lr ld _ (HL.out.keep s0.2.2.2.2.2)).mono ?_
      rintro e1 w1 ⟨rfl, k1⟩
      have s1 := keep5 k1 s0
      have p : w1.cell? ⟨w.heap.size + 1, 0, none⟩ = some (.int .i64 q) ∧ w1.cell? ⟨w.heap.size + 1, 1, none⟩ = some (.int .i64 x) := ⟨k1.cell (by simp [go_sem]), k1.cell (by simp [go_sem])⟩
      clear s0 k1
      go_wp2_with fail
      refine (mIndex_any _ _ _ _ _ _ _ _ a b c e).mono ?_
      rintro e2 w2 ⟨rfl, k2⟩
      have s2 := keep5 k2 s1
      have p' := k2.two p
      clear s1 p k2
      rw [hi, orNo_true]
      go_wp2_with fail
      refine (mIndex_any _ _ _ _ _ _ _ _ a b c e).mono ?_
      rintro e3 w3 ⟨rfl, k3⟩
      rw [hi, orNo_true]
      go_wp2_with fail
      go_ret2
      exact ⟨rfl, s2.2.2.2.2.2.trans k3⟩

theorem live2_keep {w w' : World} {b : Nat} {u0 u1 : Value} (k : Kp w w') (h : (w.cell? ⟨b, 0, none⟩ = some u0 ∧ w.frozen? ⟨b, 0, none⟩ = false) ∧ (w.cell? ⟨b, 1, none⟩ = some u1 ∧ w.frozen? ⟨b, 1, none⟩ = false)) :
    (w'.cell? ⟨b, 0, none⟩ = some u0 ∧ w'.frozen? ⟨b, 0, none⟩ = false) ∧ (w'.cell? ⟨b, 1, none⟩ = some u1 ∧ w'.frozen? ⟨b, 1, none⟩ = false) := ⟨k.liv h.1, k.liv h.2⟩

theorem hexAt_any (W H : Int) (t r d : Value) (lt lr ld : List Int) (i : Int) (w : World) (ht : Tab w) (hL : Lists w t r d lt lr ld) :
    Calls Tryd.prog 22 #[mp W H t r d, .int .i64 i] w fun e w' => e = .returned (hb3 (mapOk W H lt lr ld && onI W H i) (i % W) (i / W)) ∧ Kp w w' := by
  have HL := Lib.hid hL
  have HT := Lib.hid ht
  clear hL ht
  have s0 := keep5 ((Kp.refl _).alloc (.cells #[.int .i64 0, .int .i64 0] 35)) (new5 w (.int .i64 W) (.int .i64 H) t r d 27)
  cases hm : mapOk W H lt lr ld
  · rw [Bool.false_and]
    go_enter Tryd.func22, Tryd.ntmps22
    go_wp2_with fail
    refine (isMap_any _ _ _ _ _ lt lr ld _ (HT.out.k5 s0) (HL.out.keep s0.2.2.2.2.2)).mono ?_
    rintro e1 w1 ⟨rfl, k1⟩
    have l1 := live2_keep (b := w.heap.size + 1) (u0 := .int .i64 0) (u1 := .int .i64 0) k1 ⟨by simp [go_sem], by simp [go_sem]⟩
    have K1 := s0.2.2.2.2.2.trans k1
    clear s0 k1
    go_wp2_with fail
    exact bodyPost_ret (v := hb3 false (i % W) (i / W)) (by simp [results, Tryd.results22, go_sem, *, vI]) rfl ⟨rfl, (K1.setCell (by simp) _).setCell (by simp) _⟩
  · rw [Bool.true_and]
    obtain ⟨a, b, c, e⟩ := mapOk_side hm
    have hA := area_bd a b c e
    cases ho : onI W H i
    · go_enter Tryd.func22, Tryd.ntmps22
      go_wp2_with fail
      refine (isMap_any _ _ _ _ _ lt lr ld _ (HT.out.k5 s0) (HL.out.keep s0.2.2.2.2.2)).mono ?_
      rintro e1 w1 ⟨rfl, k1⟩
      have l1 := live2_keep (b := w.heap.size + 1) (u0 := .int .i64 0) (u1 := .int .i64 0) k1 ⟨by simp [go_sem], by simp [go_sem]⟩
      have s1 := keep5 k1 s0
      clear s0 k1
      go_wp2_with fail
      refine (isIndex_any _ _ _ _ _ _ _ a b c e).mono ?_
      rintro e2 w2 ⟨rfl, k2⟩
      have l2 := live2_keep k2 l1
      have K2 := s1.2.2.2.2.2.trans k2
      clear s1 l1 k2
      go_wp2_with fail
      exact bodyPost_ret (v := hb3 false (i % W) (i / W)) (by simp [results, Tryd.results22, go_sem, *, vI]) rfl ⟨rfl, (K2.setCell (by simp) _).setCell (by simp) _⟩
    · obtain ⟨i0, i1⟩ := onI_true ho
      go_enter Tryd.func22, Tryd.ntmps22
      go_wp2_with fail
      refine (isMap_any _ _ _ _ _ lt lr ld _ (HT.out.k5 s0) (HL.out.keep s0.2.2.2.2.2)).mono ?_
      rintro e1 w1 ⟨rfl, k1⟩
      have l1 := live2_keep (b := w.heap.size + 1) (u0 := .int .i64 0) (u1 := .int .i64 0) k1 ⟨by simp [go_sem], by simp [go_sem]⟩
      have s1 := keep5 k1 s0
      clear s0 k1
      go_wp2_with fail
      refine (isIndex_any _ _ _ _ _ _ _ a b c e).mono ?_
      rintro e2 w2 ⟨rfl, k2⟩
      have l2 := live2_keep k2 l1
      have s2 := keep5 k2 s1
      clear s1 l1 k2
      go_wp2_with fail
      refine (hexWithIndex_any _ _ _ _ _ _ _ a b i0 (by omega)).mono ?_
      rintro e3 w3 ⟨rfl, k3⟩
      have l3 := live2_keep k3 l2
      have K3 := s2.2.2.2.2.2.trans k3
      clear s2 l2 k3
      go_wp2_with fail
      exact bodyPost_ret (v := hb3 true (i % W) (i / W)) (by simp [results, Tryd.results22, go_sem, *, vI]) rfl ⟨rfl, (K3.setCell (by simp) _).setCell (by simp) _⟩

theorem specHexAt_any (W H : Int) (t r d : Value) (lt lr ld : List Int) (i : Int) (w : World) (hL : Lists w t r d lt lr ld) :
    Calls Tryd.prog 21 #[mp W H t r d, .int .i64 i] w fun e w' => e = .returned (hb3 (mapOk W H lt lr ld && onI W H i) (i % W) (i / W)) ∧ Kp w w' := by
  have HL := Lib.hid hL
  clear hL
  have s0 := keep5 ((Kp.refl _).alloc (.cells #[.int .i64 0, .int .i64 0] 35)) (new5 w (.int .i64 W) (.int .i64 H) t r d 27)
  cases hp : mapOk W H lt lr ld && onI W H i
  · have HP := Lib.hid hp
    clear hp
    go_enter Tryd.func21, Tryd.ntmps21
    go_wp2_with fail
    refine (mOn_any _ _ _ _ _ lt lr ld _ _ (HL.out.keep s0.2.2.2.2.2)).mono ?_
    rintro e1 w1 ⟨rfl, k1⟩
    have l1 := live2_keep (b := w.heap.size + 1) (u0 := .int .i64 0) (u1 := .int .i64 0) k1 ⟨by simp [go_sem], by simp [go_sem]⟩
    have K1 := s0.2.2.2.2.2.trans k1
    clear s0 k1
    rw [HP.out]
    go_wp2_with fail
    exact bodyPost_ret (v := hb3 false (i % W) (i / W)) (by simp [results, Tryd.results21, go_sem, *, vI]) rfl ⟨rfl, (K1.setCell (by simp) _).setCell (by simp) _⟩
  · have hs : mapOk W H lt lr ld = true ∧ onI W H i = true := by simpa using hp
    have HP := Lib.hid hp
    obtain ⟨hm, ho⟩ := hs
    obtain ⟨a, b, c, e⟩ := mapOk_side hm
    have hA := area_bd a b c e
    obtain ⟨i0, i1⟩ := onI_true ho
    clear hp hm ho
    go_enter Tryd.func21, Tryd.ntmps21
    go_wp2_with fail
    refine (mOn_any _ _ _ _ _ lt lr ld _ _ (HL.out.keep s0.2.2.2.2.2)).mono ?_
    rintro e1 w1 ⟨rfl, k1⟩
    have l1 := live2_keep (b := w.heap.size + 1) (u0 := .int .i64 0) (u1 := .int .i64 0) k1 ⟨by simp [go_sem], by simp [go_sem]⟩
    have s1 := keep5 k1 s0
    clear s0 k1
    rw [HP.out]
    go_wp2_with fail
    refine (mHex_any _ _ _ _ _ _ _ a b i0 (by omega)).mono ?_
    rintro e3 w3 ⟨rfl, k3⟩
    have l3 := live2_keep k3 l1
    have K3 := s1.2.2.2.2.2.trans k3
    clear s1 l1 k3
    go_wp2_with fail
    exact bodyPost_ret (v := hb3 true (i % W) (i / W)) (by simp [results, Tryd.results21, go_sem, *, vI]) rfl ⟨rfl, (K3.setCell (by simp) _).setCell (by simp) _⟩

end Go.Proofs.YtpfnljhnjembpaaDoor
