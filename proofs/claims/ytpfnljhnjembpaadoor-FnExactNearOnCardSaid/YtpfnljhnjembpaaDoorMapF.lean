/-
  The functions on places and edges of a map, the program's and the reference's, return what plain functions say, and change nothing that was there. The table of directions holds what the program's text lays.
-/
import Derived.Test.YtpfnljhnjembpaaDoorGood
namespace Go.Proofs.YtpfnljhnjembpaaDoor
open Go.RowKit

theorem mapOk_side {W H : Int} {lt lr ld : List Int} (h : mapOk W H lt lr ld = true) : 1 ≤ W ∧ W ≤ 10 ∧ 1 ≤ H ∧ H ≤ 10 := by
  simp only [mapOk, Bool.and_eq_true] at h
  exact ⟨(sideB_true h.1).1, (sideB_true h.1).2, (sideB_true h.2.1).1, (sideB_true h.2.1).2⟩

theorem nextTo_any (W H : Int) (t r d : Value) (lt lr ld : List Int) (i x : Int) (w : World) (ht : Tab w) (hL : Lists w t r d lt lr ld) :
    Calls Tryd.prog 25 #[mp W H t r d, .int .i64 i, .int .i64 x] w fun e w' => e = .returned (ib (mapOk W H lt lr ld && nbB W H i x) (nbI W i x)) ∧ Kp w w' := by
  have HL := Lib.hid hL
  have HT := Lib.hid ht
  clear hL ht
  have s0 := new5 w (.int .i64 W) (.int .i64 H) t r d 27
  cases hm : mapOk W H lt lr ld
  · rw [Bool.false_and]
    go_enter Tryd.func25, Tryd.ntmps25
    go_wp2_with fail
    refine (isMap_any _ _ _ _ _ lt lr ld _ (HT.out.k5 s0) (HL.out.keep s0.2.2.2.2.2)).mono ?_
    rintro e1 w1 ⟨rfl, k1⟩
    go_wp2_with fail
    go_ret2
    exact ⟨rfl, s0.2.2.2.2.2.trans k1⟩
  · rw [Bool.true_and]
    obtain ⟨a, b, c, e⟩ := mapOk_side hm
    go_enter Tryd.func25, Tryd.ntmps25
    go_wp2_with fail
    refine (isMap_any _ _ _ _ _ lt lr ld _ (HT.out.k5 s0) (HL.out.keep s0.2.2.2.2.2)).mono ?_
    rintro e1 w1 ⟨rfl, k1⟩
    have s1 := keep5 k1 s0
    clear s0 k1
    go_wp2_with fail
    refine (neighbourIndex_any _ _ _ _ _ _ _ _ a b c e (HT.out.k5 s1)).mono ?_
    rintro e2 w2 ⟨rfl, k2⟩
    go_wp2_with fail
    go_ret2
    exact ⟨rfl, s1.2.2.2.2.2.trans k2⟩

theorem edgeOf_any (W H : Int) (t r d : Value) (lt lr ld : List Int) (i x : Int) (w : World) (ht : Tab w) (hL : Lists w t r d lt lr ld) :
    Calls Tryd.prog 27 #[mp W H t r d, .int .i64 i, .int .i64 x] w fun e w' => e = .returned (ib (mapOk W H lt lr ld && nbB W H i x) (edgI W i x)) ∧ Kp w w' := by
  have HL := Lib.hid hL
  have HT := Lib.hid ht
  clear hL ht
  have s0 := new5 w (.int .i64 W) (.int .i64 H) t r d 27
  cases hm : mapOk W H lt lr ld
  · rw [Bool.false_and]
    go_enter Tryd.func27, Tryd.ntmps27
    go_wp2_with fail
    refine (isMap_any _ _ _ _ _ lt lr ld _ (HT.out.k5 s0) (HL.out.keep s0.2.2.2.2.2)).mono ?_
    rintro e1 w1 ⟨rfl, k1⟩
    go_wp2_with fail
    go_ret2
    exact ⟨rfl, s0.2.2.2.2.2.trans k1⟩
  · rw [Bool.true_and]
    obtain ⟨a, b, c, e⟩ := mapOk_side hm
    go_enter Tryd.func27, Tryd.ntmps27
    go_wp2_with fail
    refine (isMap_any _ _ _ _ _ lt lr ld _ (HT.out.k5 s0) (HL.out.keep s0.2.2.2.2.2)).mono ?_
    rintro e1 w1 ⟨rfl, k1⟩
    have s1 := keep5 k1 s0
    clear s0 k1
    go_wp2_with fail
    refine (edgeNumber_any _ _ _ _ _ _ _ _ a b c e (HT.out.k5 s1)).mono ?_
    rintro e2 w2 ⟨rfl, k2⟩
    go_wp2_with fail
    go_ret2
    exact ⟨rfl, s1.2.2.2.2.2.trans k2⟩

theorem endsOf_any (W H : Int) (t r d : Value) (lt lr ld : List Int) (x : Int) (w : World) (ht : Tab w) (hL : Lists w t r d lt lr ld) (hx : isI64 x) :
    Calls Tryd.prog 29 #[mp W H t r d, .int .i64 x] w fun e w' => e = .returned (iib (mapOk W H lt lr ld && edgeB W H x) (x / 3) (nbI W (x / 3) (x % 3))) ∧ Kp w w' := by
  have HL := Lib.hid hL
  have HT := Lib.hid ht
  have HX := Lib.hid hx
  clear hL ht hx
  have s0 := new5 w (.int .i64 W) (.int .i64 H) t r d 27
  cases hm : mapOk W H lt lr ld
  · rw [Bool.false_and]
    go_enter Tryd.func29, Tryd.ntmps29
    go_wp2_with fail
    refine (isMap_any _ _ _ _ _ lt lr ld _ (HT.out.k5 s0) (HL.out.keep s0.2.2.2.2.2)).mono ?_
    rintro e1 w1 ⟨rfl, k1⟩
    go_wp2_with fail
    go_ret3
    exact ⟨rfl, s0.2.2.2.2.2.trans k1⟩
  · rw [Bool.true_and]
    obtain ⟨a, b, c, e⟩ := mapOk_side hm
    go_enter Tryd.func29, Tryd.ntmps29
    go_wp2_with fail
    refine (isMap_any _ _ _ _ _ lt lr ld _ (HT.out.k5 s0) (HL.out.keep s0.2.2.2.2.2)).mono ?_
    rintro e1 w1 ⟨rfl, k1⟩
    have s1 := keep5 k1 s0
    clear s0 k1
    go_wp2_with fail
    refine (edgeEnds_any _ _ _ _ _ _ _ a b c e (HT.out.k5 s1) HX.out).mono ?_
    rintro e2 w2 ⟨rfl, k2⟩
    go_wp2_with fail
    go_ret3
    exact ⟨rfl, s1.2.2.2.2.2.trans k2⟩

theorem mOn_any (W H : Int) (t r d : Value) (lt lr ld : List Int) (i : Int) (w : World) (hL : Lists w t r d lt lr ld) :
    Calls Tryd.prog 53 #[mp W H t r d, .int .i64 i] w fun e w' => e = .returned (.bool (mapOk W H lt lr ld && onI W H i)) ∧ Kp w w' := by
  have HL := Lib.hid hL
  clear hL
  have s0 := new5 w (.int .i64 W) (.int .i64 H) t r d 27
  cases hm : mapOk W H lt lr ld
  · rw [Bool.false_and]
    go_enter Tryd.func53, Tryd.ntmps53
    go_wp2_with fail
    refine (mGood_any _ _ _ _ _ lt lr ld _ (HL.out.keep s0.2.2.2.2.2)).mono ?_
    rintro e1 w1 ⟨rfl, k1⟩
    go_wp2_with fail
    go_ret
    exact ⟨rfl, s0.2.2.2.2.2.trans k1⟩
  · rw [Bool.true_and]
    obtain ⟨a, b, c, e⟩ := mapOk_side hm
    have hA := area_bd a b c e
    go_enter Tryd.func53, Tryd.ntmps53
    go_wp2_with fail
    refine (mGood_any _ _ _ _ _ lt lr ld _ (HL.out.keep s0.2.2.2.2.2)).mono ?_
    rintro e1 w1 ⟨rfl, k1⟩
    have s1 := keep5 k1 s0
    clear s0 k1
    go_wp2_with fail
    refine (mSize_any _ _ _ _ _ _ a b c e).mono ?_
    rintro e2 w2 ⟨rfl, k2⟩
    go_wp2_with fail
    refine (l1In_lt _ (W * H) _ _ rfl).mono ?_
    rintro e3 w3 ⟨rfl, rfl⟩
    go_wp2_with fail
    go_ret
    exact ⟨rfl, s1.2.2.2.2.2.trans k2⟩

theorem l1In_dir (x : Int) (w : World) : Calls Tryd.prog 67 #[.int .i64 x, .int .i64 0, .int .i64 5] w fun e w' => e = .returned (.bool (dirB x)) ∧ w = w' := l1In_gen x 0 5 w

theorem mPair_any (W H : Int) (t r d : Value) (lt lr ld : List Int) (i x : Int) (w : World) (hL : Lists w t r d lt lr ld) :
    Calls Tryd.prog 57 #[mp W H t r d, .int .i64 i, .int .i64 x] w fun e w' => e = .returned (.bool (mapOk W H lt lr ld && nbB W H i x)) ∧ Kp w w' := by
  have HL := Lib.hid hL
  clear hL
  have s0 := new5 w (.int .i64 W) (.int .i64 H) t r d 27
  cases ho : mapOk W H lt lr ld && onI W H i
  · have e0 : (mapOk W H lt lr ld && nbB W H i x) = false := by
      unfold nbB
      rw [← Bool.and_assoc, ho, Bool.false_and]
    rw [e0]
    clear e0
    go_enter Tryd.func57, Tryd.ntmps57
    go_wp2_with fail
    refine (mOn_any _ _ _ _ _ lt lr ld _ _ (HL.out.keep s0.2.2.2.2.2)).mono ?_
    rintro e1 w1 ⟨rfl, k1⟩
    rw [ho]
    go_wp2_with fail
    go_ret
    exact ⟨rfl, s0.2.2.2.2.2.trans k1⟩
  · have hs : mapOk W H lt lr ld = true ∧ onI W H i = true := by simpa using ho
    obtain ⟨hm, hi⟩ := hs
    obtain ⟨a, b, c, e⟩ := mapOk_side hm
    obtain ⟨i0, i1⟩ := onI_true hi
    cases hd : dirB x
    · have e0 : (mapOk W H lt lr ld && nbB W H i x) = false := by simp [nbB, hd]
      rw [e0]
      have HO := Lib.hid ho
      clear e0 hm hi ho
      go_enter Tryd.func57, Tryd.ntmps57
      go_wp2_with fail
      refine (mOn_any _ _ _ _ _ lt lr ld _ _ (HL.out.keep s0.2.2.2.2.2)).mono ?_
      rintro e1 w1 ⟨rfl, k1⟩
      rw [HO.out]
      go_wp2_with fail
      refine (l1In_dir _ _).mono ?_
      rintro e3 w3 ⟨rfl, rfl⟩
      go_wp2_with fail
      go_ret
      exact ⟨rfl, s0.2.2.2.2.2.trans k1⟩
    · obtain ⟨x0, x5⟩ := dirB_true hd
      have e0 : (mapOk W H lt lr ld && nbB W H i x) = nbM W H i x := by simp [nbB, hd, hm, hi]
      rw [e0]
      have HO := Lib.hid ho
      clear e0 hm hi ho
      cases hn : nbM W H i x
      · go_enter Tryd.func57, Tryd.ntmps57
        go_wp2_with fail
        refine (mOn_any _ _ _ _ _ lt lr ld _ _ (HL.out.keep s0.2.2.2.2.2)).mono ?_
        rintro e1 w1 ⟨rfl, k1⟩
        have s1 := keep5 k1 s0
        clear s0 k1
        rw [HO.out]
        go_wp2_with fail
        refine (l1In_dir _ _).mono ?_
        rintro e3 w3 ⟨rfl, rfl⟩
        go_wp2_with fail
        refine (mNext_any _ _ _ _ _ _ _ _ a b c e i0 i1 x0 x5).mono ?_
        rintro e4 w4 ⟨rfl, k4⟩
        rw [hn, orNo_false]
        go_wp2_with fail
        go_ret
        exact ⟨rfl, s1.2.2.2.2.2.trans k4⟩
      · have n0 : 0 ≤ nbI W i x := (idx_bd hn).1
        go_enter Tryd.func57, Tryd.ntmps57
        go_wp2_with fail
        refine (mOn_any _ _ _ _ _ lt lr ld _ _ (HL.out.keep s0.2.2.2.2.2)).mono ?_
        rintro e1 w1 ⟨rfl, k1⟩
        have s1 := keep5 k1 s0
        clear s0 k1
        rw [HO.out]
        go_wp2_with fail
        refine (l1In_dir _ _).mono ?_
        rintro e3 w3 ⟨rfl, rfl⟩
        go_wp2_with fail
        refine (mNext_any _ _ _ _ _ _ _ _ a b c e i0 i1 x0 x5).mono ?_
        rintro e4 w4 ⟨rfl, k4⟩
        rw [hn, orNo_true]
        go_wp2_with fail
        go_ret
        exact ⟨rfl, s1.2.2.2.2.2.trans k4⟩

theorem specNextTo_any (W H : Int) (t r d : Value) (lt lr ld : List Int) (i x : Int) (w : World) (hL : Lists w t r d lt lr ld) :
    Calls Tryd.prog 24 #[mp W H t r d, .int .i64 i, .int .i64 x] w fun e w' => e = .returned (ib (mapOk W H lt lr ld && nbB W H i x) (nbI W i x)) ∧ Kp w w' := by
  have HL := Lib.hid hL
  clear hL
  have s0 := new5 w (.int .i64 W) (.int .i64 H) t r d 27
  cases hp : mapOk W H lt lr ld && nbB W H i x
  · have HP := Lib.hid hp
    clear hp
    go_enter Tryd.func24, Tryd.ntmps24
    go_wp2_with fail
    refine (mPair_any _ _ _ _ _ lt lr ld _ _ _ (HL.out.keep s0.2.2.2.2.2)).mono ?_
    rintro e1 w1 ⟨rfl, k1⟩
    rw [HP.out]
    go_wp2_with fail
    go_ret2
    exact ⟨rfl, s0.2.2.2.2.2.trans k1⟩
  · have HP := Lib.hid hp
    have hs : mapOk W H lt lr ld = true ∧ nbB W H i x = true := by simpa using hp
    obtain ⟨hm, hn⟩ := hs
    obtain ⟨a, b, c, e⟩ := mapOk_side hm
    obtain ⟨⟨i0, i1⟩, ⟨x0, x5⟩, _, _⟩ := nbB_true hn
    have hnm : nbM W H i x = true := by simp only [nbB, Bool.and_eq_true] at hn; exact hn.2.2
    have HN := Lib.hid hn
    clear hp hm hn
    go_enter Tryd.func24, Tryd.ntmps24
    go_wp2_with fail
    refine (mPair_any _ _ _ _ _ lt lr ld _ _ _ (HL.out.keep s0.2.2.2.2.2)).mono ?_
    rintro e1 w1 ⟨rfl, k1⟩
    have s1 := keep5 k1 s0
    clear s0 k1
    rw [HP.out]
    go_wp2_with fail
    refine (mNext_any _ _ _ _ _ _ _ _ a b c e i0 i1 x0 x5).mono ?_
    rintro e2 w2 ⟨rfl, k2⟩
    rw [hnm, orNo_true]
    go_wp2_with fail
    go_ret2
    exact ⟨rfl, s1.2.2.2.2.2.trans k2⟩

theorem specEdgeOf_any (W H : Int) (t r d : Value) (lt lr ld : List Int) (i x : Int) (w : World) (hL : Lists w t r d lt lr ld) :
    Calls Tryd.prog 26 #[mp W H t r d, .int .i64 i, .int .i64 x] w fun e w' => e = .returned (ib (mapOk W H lt lr ld && nbB W H i x) (edgI W i x)) ∧ Kp w w' := by
  have HL := Lib.hid hL
  clear hL
  have s0 := new5 w (.int .i64 W) (.int .i64 H) t r d 27
  cases hp : mapOk W H lt lr ld && nbB W H i x
  · have HP := Lib.hid hp
    clear hp
    go_enter Tryd.func26, Tryd.ntmps26
    go_wp2_with fail
    refine (mPair_any _ _ _ _ _ lt lr ld _ _ _ (HL.out.keep s0.2.2.2.2.2)).mono ?_
    rintro e1 w1 ⟨rfl, k1⟩
    rw [HP.out]
    go_wp2_with fail
    go_ret2
    exact ⟨rfl, s0.2.2.2.2.2.trans k1⟩
  · have HP := Lib.hid hp
    have hs : mapOk W H lt lr ld = true ∧ nbB W H i x = true := by simpa using hp
    obtain ⟨hm, hn⟩ := hs
    obtain ⟨a, b, c, e⟩ := mapOk_side hm
    obtain ⟨⟨i0, i1⟩, ⟨x0, x5⟩, _, _⟩ := nbB_true hn
    have hnm : nbM W H i x = true := by simp only [nbB, Bool.and_eq_true] at hn; exact hn.2.2
    have HN := Lib.hid hn
    clear hp hm hn
    go_enter Tryd.func26, Tryd.ntmps26
    go_wp2_with fail
    refine (mPair_any _ _ _ _ _ lt lr ld _ _ _ (HL.out.keep s0.2.2.2.2.2)).mono ?_
    rintro e1 w1 ⟨rfl, k1⟩
    have s1 := keep5 k1 s0
    clear s0 k1
    rw [HP.out]
    go_wp2_with fail
    refine (mEdge_any _ _ _ _ _ _ _ _ a b c e HN.out).mono ?_
    rintro e2 w2 ⟨rfl, k2⟩
    go_wp2_with fail
    go_ret2
    exact ⟨rfl, s1.2.2.2.2.2.trans k2⟩

theorem edgesOk_one (W H x : Int) : edgesOk W H [x] = edgeB W H x := by
  unfold edgesOk edgesFrom edgesFrom
  cases h : edgeB W H x
  · rfl
  · have := inB_true (edgeB_true h)
    simp
    omega
theorem one_new (w : World) (v : Value) (T : TypeId) (x : Int) (hv : v = .int .i64 x) : RdI (w.alloc (.cells #[v] T)) (.slice (some ⟨w.heap.size, 0, none⟩) 1 1) [x] := by
  subst hv
  refine ⟨_, _, rfl, fun _ => ⟨w.heap.size, 0, rfl, fun i y hy => ?_⟩⟩
  match i, hy with
  | 0, hy =>
    simp at hy
    subst hy
    simp [go_sem]
theorem specEndsOf_any (W H : Int) (t r d : Value) (lt lr ld : List Int) (x : Int) (w : World) (hL : Lists w t r d lt lr ld) (_hx : isI64 x) :
    Calls Tryd.prog 28 #[mp W H t r d, .int .i64 x] w fun e w' => e = .returned (iib (mapOk W H lt lr ld && edgeB W H x) (x / 3) (nbI W (x / 3) (x % 3))) ∧ Kp w w' := by
  have HL := Lib.hid hL
  clear hL
  have s0 := new5 w (.int .i64 W) (.int .i64 H) t r d 27
  cases hm : mapOk W H lt lr ld
  · rw [Bool.false_and]
    go_enter Tryd.func28, Tryd.ntmps28
    go_wp2_with fail
    refine (mGood_any _ _ _ _ _ lt lr ld _ (HL.out.keep s0.2.2.2.2.2)).mono ?_
    rintro e1 w1 ⟨rfl, k1⟩
    go_wp2_with fail
    go_ret3
    exact ⟨rfl, s0.2.2.2.2.2.trans k1⟩
  · rw [Bool.true_and]
    obtain ⟨a, b, c, e⟩ := mapOk_side hm
    have hA := area_bd a b c e
    have HE := Lib.hid (edgesOk_one W H x)
    cases he : edgeB W H x
    · go_enter Tryd.func28, Tryd.ntmps28
      go_wp2_with fail
      refine (mGood_any _ _ _ _ _ lt lr ld _ (HL.out.keep s0.2.2.2.2.2)).mono ?_
      rintro e1 w1 ⟨rfl, k1⟩
      have s1 := keep5 k1 s0
      clear s0 k1
      go_wp2_with fail
      refine (mEdges_any _ _ _ _ _ _ [x] _ a b c e (one_new w1 _ _ x rfl) (by simp)).mono ?_
      rintro e2 w2 ⟨rfl, k2⟩
      rw [HE.out, he]
      go_wp2_with fail
      go_ret3
      exact ⟨rfl, (s1.2.2.2.2.2.alloc _).trans k2⟩
    · obtain ⟨x0, x1⟩ := inB_true (edgeB_true he)
      have hn : nbM W H (x / 3) (x % 3) = true := (edgeB_in x0 x1).symm.trans he
      have q0 : 0 ≤ x / 3 := by omega
      have q1 : x / 3 < W * H := by omega
      have q2 : 0 ≤ x % 3 := by omega
      have q3 : x % 3 ≤ 5 := by omega
      go_enter Tryd.func28, Tryd.ntmps28
      go_wp2_with fail
      refine (mGood_any _ _ _ _ _ lt lr ld _ (HL.out.keep s0.2.2.2.2.2)).mono ?_
      rintro e1 w1 ⟨rfl, k1⟩
      have s1 := keep5 k1 s0
      clear s0 k1
      go_wp2_with fail
      refine (mEdges_any _ _ _ _ _ _ [x] _ a b c e (one_new w1 _ _ x rfl) (by simp)).mono ?_
      rintro e2 w2 ⟨rfl, k2⟩
      have s2 := keep5 (((Kp.refl w1).alloc _).trans k2) s1
      clear s1 k2
      rw [HE.out, he]
      go_wp2_with fail
      refine (mNext_any _ _ _ _ _ _ _ _ a b c e q0 q1 q2 q3).mono ?_
      rintro e4 w4 ⟨rfl, k4⟩
      rw [hn, orNo_true]
      go_wp2_with fail
      go_ret3
      exact ⟨rfl, s2.2.2.2.2.2.trans k4⟩

end Go.Proofs.YtpfnljhnjembpaaDoor
