/-
  Rivers and roads of a map, the program's and the reference's: what plain functions say, and nothing that was there is changed. The table of directions holds what the program's text lays.
-/
import Derived.Test.YtpfnljhnjembpaaDoorMapF
namespace Go.Proofs.YtpfnljhnjembpaaDoor
open Go.RowKit

def hasB (l : List Int) (m : Int) : Bool := l.contains m
theorem has_yes {x n : Int} {l : List Int} (h : x = n) : hasB (x :: l) n = true := by simp [hasB, h]
theorem has_no {x n : Int} {l : List Int} (h : ¬ x = n) : hasB (x :: l) n = hasB l n := by
  unfold hasB
  rw [List.contains_cons]
  have : (n == x) = false := by simpa using fun e : n = x => h e.symm
  rw [this, Bool.false_or]

theorem l1Has_any (v : Value) (l : List Int) (m : Int) (w : World) (h : RdI w v l) (hl : l.length ≤ 1048576) :
    Calls Tryd.prog 80 #[v, .int .i64 m] w fun e w' => e = .returned (.bool (hasB l m)) ∧ w = w' := by
  obtain ⟨A, cp, rfl, h⟩ := h
  have HA := Lib.hid h
  obtain ⟨R, hR⟩ : ∃ R, R = hasB l m := ⟨_, rfl⟩
  rw [← hR]
  have HR := Lib.hid hR
  clear h hR
  generalize hn : l.length = n at *
  have HN := Lib.hid hn
  clear hn
  go_enter Tryd.func80, Tryd.ntmps80
  go_wp2_with fail
  go_loop [6, 9] (fun _ i => ∃ k : Nat, k ≤ n ∧ i = .int .i64 k ∧ Hid (hasB (l.drop k) m = R)) (fun _ i => n - (intOf i).toNat)
  case atStart => exact ⟨0, by omega, rfl, Lib.hid HR.out.symm⟩
  case round =>
    obtain ⟨k, hk, rfl, hE⟩ := hrel
    by_cases hlt : k < n
    · obtain ⟨g, off, rfl, hc⟩ := HA.out (by omega)
      obtain ⟨x, hx⟩ : ∃ x, l[k]? = some x := ⟨l[k]'(by have := HN.out; omega), List.getElem?_eq_getElem _⟩
      have a0 := hc k x hx
      have HX := Lib.hid (drop_step hx)
      clear hc hx
      have hlt' : (k : Int) < n := by omega
      by_cases hok : x = m
      · have HE2 : Hid (R = true) := Lib.hid (by rw [← hE.out, HX.out]; exact has_yes hok)
        have he : (x == m) = true := by simpa using hok
        clear hok
        go_wp2_with fail
        go_ret
        exact ⟨ret_bool HE2.out.symm, rfl⟩
      · have HE2 : Hid (hasB (l.drop (k + 1)) m = R) := Lib.hid (by rw [← hE.out, HX.out]; exact (has_no hok).symm)
        have he : (x == m) = false := by simpa using hok
        clear hok
        go_wp2_with fail
        go_round
        case rel => exact ⟨k + 1, by omega, by go_num, HE2⟩
        case measure => simp [intOf]; omega
    · obtain rfl : k = n := by omega
      go_wp2_with fail
      go_ret
      refine ⟨ret_bool ?_, rfl⟩
      rw [← hE.out, List.drop_of_length_le (by rw [HN.out]; omega)]
      rfl

/-- A place at which the number stands, or a negative number. -/
def IndexPost (l : List Int) (m : Int) (w : World) (e : Ending) (w' : World) : Prop := ∃ j : Int, e = .returned (.int .i64 j) ∧ decide (0 ≤ j) = hasB l m ∧ w = w'

theorem index_any (v : Value) (l : List Int) (m : Int) (w : World) (h : RdI w v l) (hl : l.length ≤ 1048576) :
    Calls Tryd.prog 87 #[v, .int .i64 m] w (IndexPost l m w) := by
  obtain ⟨A, cp, rfl, h⟩ := h
  have HA := Lib.hid h
  obtain ⟨R, hR⟩ : ∃ R, R = hasB l m := ⟨_, rfl⟩
  have HR := Lib.hid hR
  have HP : Hid (∀ j : Int, decide (0 ≤ j) = R → IndexPost l m w (.returned (.int .i64 j)) w) := Lib.hid fun j hj => ⟨j, rfl, hj.trans hR, rfl⟩
  clear h hR
  generalize hn : l.length = n at *
  have HN := Lib.hid hn
  clear hn
  go_enter Tryd.func87, Tryd.ntmps87
  go_wp2_with fail
  go_loop [5, 8] (fun _ i => ∃ k : Nat, k ≤ n ∧ i = .int .i64 k ∧ Hid (hasB (l.drop k) m = R)) (fun _ i => n - (intOf i).toNat)
  case atStart => exact ⟨0, by omega, rfl, Lib.hid HR.out.symm⟩
  case round =>
    obtain ⟨k, hk, rfl, hE⟩ := hrel
    by_cases hlt : k < n
    · obtain ⟨g, off, rfl, hc⟩ := HA.out (by omega)
      obtain ⟨x, hx⟩ : ∃ x, l[k]? = some x := ⟨l[k]'(by have := HN.out; omega), List.getElem?_eq_getElem _⟩
      have a0 := hc k x hx
      have HX := Lib.hid (drop_step hx)
      clear hc hx
      have hlt' : (k : Int) < n := by omega
      by_cases hok : x = m
      · have HE2 : Hid (R = true) := Lib.hid (by rw [← hE.out, HX.out]; exact has_yes hok)
        have he : (m == x) = true := by simpa using hok.symm
        clear hok
        go_wp2_with fail
        go_ret
        exact HP.out _ (by rw [HE2.out]; simp)
      · have HE2 : Hid (hasB (l.drop (k + 1)) m = R) := Lib.hid (by rw [← hE.out, HX.out]; exact (has_no hok).symm)
        have he : (m == x) = false := by simpa using fun e : m = x => hok e.symm
        clear hok
        go_wp2_with fail
        go_round
        case rel => exact ⟨k + 1, by omega, by go_num, HE2⟩
        case measure => simp [intOf]; omega
    · obtain rfl : k = n := by omega
      go_wp2_with fail
      go_ret
      refine HP.out _ ?_
      rw [← hE.out, List.drop_of_length_le (by rw [HN.out]; omega)]
      rfl

theorem contains_any (v : Value) (l : List Int) (m : Int) (w : World) (h : RdI w v l) (hl : l.length ≤ 1048576) :
    Calls Tryd.prog 81 #[v, .int .i64 m] w fun e w' => e = .returned (.bool (hasB l m)) ∧ w = w' := by
  obtain ⟨R, hR⟩ : ∃ R, R = hasB l m := ⟨_, rfl⟩
  have C := index_any v l m w h hl
  unfold IndexPost at C
  rw [← hR] at C ⊢
  have HC := Lib.hid C
  clear hR C h
  go_enter Tryd.func81, Tryd.ntmps81
  go_wp2_with fail
  refine HC.out.mono ?_
  rintro e w1 ⟨j, rfl, hj, rfl⟩
  subst hj
  go_wp2_with fail
  go_ret
  exact ⟨rfl, rfl⟩

set_option maxHeartbeats 1000000 in
theorem mRiver_any (W H : Int) (t r d : Value) (lt lr ld : List Int) (i x : Int) (w : World) (hL : Lists w t r d lt lr ld) (a : 1 ≤ W) (b : W ≤ 10) (c : 1 ≤ H) (e : H ≤ 10) (hn : nbB W H i x = true) :
    Calls Tryd.prog 64 #[mp W H t r d, .int .i64 i, .int .i64 x] w fun e w' => e = .returned (.bool (hasB lr (edgI W i x))) ∧ Kp w w' := by
  have HL := Lib.hid hL
  obtain ⟨Ar, cr, rfl, _⟩ := hL.rr
  obtain ⟨Ad, cd, rfl, _⟩ := hL.rd
  have HN := Lib.hid hn
  generalize lr.length = nr at *
  generalize ld.length = nd at *
  clear hL hn
  have s0 := new5 w (.int .i64 W) (.int .i64 H) t (.slice Ar nr cr) (.slice Ad nd cd) 27
  go_enter Tryd.func64, Tryd.ntmps64
  go_wp2_with fail
  generalize w.alloc (.cells #[.int .i64 W, .int .i64 H, t, .slice Ar nr cr, .slice Ad nd cd] 27) = W0 at *
  have s1 := drew5 s0
  go_region_held3 (fun w' => w'.cell? ⟨w.heap.size, 0, none⟩ = some (.int .i64 W) ∧ w'.cell? ⟨w.heap.size, 1, none⟩ = some (.int .i64 H) ∧ w'.cell? ⟨w.heap.size, 2, none⟩ = some t ∧ w'.cell? ⟨w.heap.size, 3, none⟩ = some (.slice Ar nr cr) ∧ w'.cell? ⟨w.heap.size, 4, none⟩ = some (.slice Ad nd cd) ∧ Kp w w') (first | assumption | exact s1)
    (first
      | (go_at_call 60; refine (mEdge_any _ _ _ _ _ _ _ _ a b c e HN.out).mono ?_; rintro e wc ⟨rfl, kc⟩; have sc := keep5 kc s1)
      | (go_at_call 80; refine (l1Has_any _ lr _ _ (HL.out.k5 sc).rr HL.out.br).mono ?_; rintro e wd ⟨rfl, rfl⟩))
  all_goals
    go_wp2_with fail
    go_ret
    exact ⟨rfl, sc.2.2.2.2.2⟩

theorem specHasRiver_any (W H : Int) (t r d : Value) (lt lr ld : List Int) (i x : Int) (w : World) (hL : Lists w t r d lt lr ld) :
    Calls Tryd.prog 30 #[mp W H t r d, .int .i64 i, .int .i64 x] w fun e w' => e = .returned (.tuple #[.bool ((mapOk W H lt lr ld && nbB W H i x) && hasB lr (edgI W i x)), .bool (mapOk W H lt lr ld && nbB W H i x)]) ∧ Kp w w' := by
  have HL := Lib.hid hL
  clear hL
  have s0 := new5 w (.int .i64 W) (.int .i64 H) t r d 27
  cases hp : mapOk W H lt lr ld && nbB W H i x
  · rw [Bool.false_and]
    have HP := Lib.hid hp
    clear hp
    go_enter Tryd.func30, Tryd.ntmps30
    go_wp2_with fail
    refine (mPair_any _ _ _ _ _ lt lr ld _ _ _ (HL.out.keep s0.2.2.2.2.2)).mono ?_
    rintro e1 w1 ⟨rfl, k1⟩
    rw [HP.out]
    go_wp2_with fail
    go_ret2
    exact ⟨rfl, s0.2.2.2.2.2.trans k1⟩
  · rw [Bool.true_and]
    have HP := Lib.hid hp
    have hs : mapOk W H lt lr ld = true ∧ nbB W H i x = true := by simpa using hp
    obtain ⟨hm, hn⟩ := hs
    obtain ⟨a, b, c, e⟩ := mapOk_side hm
    have HN := Lib.hid hn
    clear hp hm hn
    generalize hR : hasB lr (edgI W i x) = R
    have HR := Lib.hid hR
    clear hR
    go_enter Tryd.func30, Tryd.ntmps30
    go_wp2_with fail
    refine (mPair_any _ _ _ _ _ lt lr ld _ _ _ (HL.out.keep s0.2.2.2.2.2)).mono ?_
    rintro e1 w1 ⟨rfl, k1⟩
    have s1 := keep5 k1 s0
    clear s0 k1
    rw [HP.out]
    go_wp2_with fail
    refine (mRiver_any _ _ _ _ _ lt lr ld _ _ _ (HL.out.keep s1.2.2.2.2.2) a b c e HN.out).mono ?_
    rintro e2 w2 ⟨rfl, k2⟩
    rw [HR.out]
    go_wp2_with fail
    go_ret2
    exact ⟨rfl, s1.2.2.2.2.2.trans k2⟩

set_option maxHeartbeats 1000000 in
theorem mRoad_any (W H : Int) (t r d : Value) (lt lr ld : List Int) (i x : Int) (w : World) (hL : Lists w t r d lt lr ld) (a : 1 ≤ W) (b : W ≤ 10) (c : 1 ≤ H) (e : H ≤ 10) (hn : nbB W H i x = true) :
    Calls Tryd.prog 66 #[mp W H t r d, .int .i64 i, .int .i64 x] w fun e w' => e = .returned (.bool (hasB ld (edgI W i x))) ∧ Kp w w' := by
  have HL := Lib.hid hL
  obtain ⟨Ar, cr, rfl, _⟩ := hL.rr
  obtain ⟨Ad, cd, rfl, _⟩ := hL.rd
  have HN := Lib.hid hn
  generalize lr.length = nr at *
  generalize ld.length = nd at *
  clear hL hn
  have s0 := new5 w (.int .i64 W) (.int .i64 H) t (.slice Ar nr cr) (.slice Ad nd cd) 27
  go_enter Tryd.func66, Tryd.ntmps66
  go_wp2_with fail
  generalize w.alloc (.cells #[.int .i64 W, .int .i64 H, t, .slice Ar nr cr, .slice Ad nd cd] 27) = W0 at *
  have s1 := drew5 s0
  go_region_held3 (fun w' => w'.cell? ⟨w.heap.size, 0, none⟩ = some (.int .i64 W) ∧ w'.cell? ⟨w.heap.size, 1, none⟩ = some (.int .i64 H) ∧ w'.cell? ⟨w.heap.size, 2, none⟩ = some t ∧ w'.cell? ⟨w.heap.size, 3, none⟩ = some (.slice Ar nr cr) ∧ w'.cell? ⟨w.heap.size, 4, none⟩ = some (.slice Ad nd cd) ∧ Kp w w') (first | assumption | exact s1)
    (first
      | (go_at_call 60; refine (mEdge_any _ _ _ _ _ _ _ _ a b c e HN.out).mono ?_; rintro e wc ⟨rfl, kc⟩; have sc := keep5 kc s1)
      | (go_at_call 80; refine (l1Has_any _ ld _ _ (HL.out.k5 sc).rd HL.out.bd).mono ?_; rintro e wd ⟨rfl, rfl⟩))
  all_goals
    go_wp2_with fail
    go_ret
    exact ⟨rfl, sc.2.2.2.2.2⟩

theorem specHasRoad_any (W H : Int) (t r d : Value) (lt lr ld : List Int) (i x : Int) (w : World) (hL : Lists w t r d lt lr ld) :
    Calls Tryd.prog 32 #[mp W H t r d, .int .i64 i, .int .i64 x] w fun e w' => e = .returned (.tuple #[.bool ((mapOk W H lt lr ld && nbB W H i x) && hasB ld (edgI W i x)), .bool (mapOk W H lt lr ld && nbB W H i x)]) ∧ Kp w w' := by
  have HL := Lib.hid hL
  clear hL
  have s0 := new5 w (.int .i64 W) (.int .i64 H) t r d 27
  cases hp : mapOk W H lt lr ld && nbB W H i x
  · rw [Bool.false_and]
    have HP := Lib.hid hp
    clear hp
    go_enter Tryd.func32, Tryd.ntmps32
    go_wp2_with fail
    refine (mPair_any _ _ _ _ _ lt lr ld _ _ _ (HL.out.keep s0.2.2.2.2.2)).mono ?_
    rintro e1 w1 ⟨rfl, k1⟩
    rw [HP.out]
    go_wp2_with fail
    go_ret2
    exact ⟨rfl, s0.2.2.2.2.2.trans k1⟩
  · rw [Bool.true_and]
    have HP := Lib.hid hp
    have hs : mapOk W H lt lr ld = true ∧ nbB W H i x = true := by simpa using hp
    obtain ⟨hm, hn⟩ := hs
    obtain ⟨a, b, c, e⟩ := mapOk_side hm
    have HN := Lib.hid hn
    clear hp hm hn
    generalize hR : hasB ld (edgI W i x) = R
    have HR := Lib.hid hR
    clear hR
    go_enter Tryd.func32, Tryd.ntmps32
    go_wp2_with fail
    refine (mPair_any _ _ _ _ _ lt lr ld _ _ _ (HL.out.keep s0.2.2.2.2.2)).mono ?_
    rintro e1 w1 ⟨rfl, k1⟩
    have s1 := keep5 k1 s0
    clear s0 k1
    rw [HP.out]
    go_wp2_with fail
    refine (mRoad_any _ _ _ _ _ lt lr ld _ _ _ (HL.out.keep s1.2.2.2.2.2) a b c e HN.out).mono ?_
    rintro e2 w2 ⟨rfl, k2⟩
    rw [HR.out]
    go_wp2_with fail
    go_ret2
    exact ⟨rfl, s1.2.2.2.2.2.trans k2⟩

theorem hasEdge_0 (W H : Int) (t r d : Value) (lt lr ld : List Int) (i x : Int) (w : World) (ht : Tab w) (hL : Lists w t r d lt lr ld) :
    Calls Tryd.prog 65 #[mp W H t r d, .int .i64 0, .int .i64 i, .int .i64 x] w fun e w' => e = .returned (.tuple #[.bool ((mapOk W H lt lr ld && nbB W H i x) && hasB lr (edgI W i x)), .bool (mapOk W H lt lr ld && nbB W H i x)]) ∧ Kp w w' := by
  have HL := Lib.hid hL
  have HT := Lib.hid ht
  obtain ⟨Ar, cr, rfl, _⟩ := hL.rr
  obtain ⟨Ad, cd, rfl, _⟩ := hL.rd
  generalize lr.length = nr at *
  generalize ld.length = nd at *
  clear hL ht
  have s0 := new5 w (.int .i64 W) (.int .i64 H) t (.slice Ar nr cr) (.slice Ad nd cd) 27
  obtain ⟨B, hB⟩ : ∃ B, (mapOk W H lt lr ld && nbB W H i x) = B := ⟨_, rfl⟩
  obtain ⟨E, hE⟩ : ∃ E, edgI W i x = E := ⟨_, rfl⟩
  rw [hB, hE]
  have HC : Hid (∀ t r d w, Tab w → Lists w t r d lt lr ld → Calls Tryd.prog 27 #[mp W H t r d, .int .i64 i, .int .i64 x] w fun e w' => e = .returned (ib B E) ∧ Kp w w') := Lib.hid fun t r d w ht h => by
    rw [← hB, ← hE]
    exact edgeOf_any W H t r d lt lr ld i x w ht h
  clear hB hE
  generalize hR : hasB lr E = R
  have HR := Lib.hid hR
  clear hR
  cases B
  · rw [Bool.false_and]
    go_enter Tryd.func65, Tryd.ntmps65
    go_wp2_with fail
    refine (HC.out _ _ _ _ (HT.out.k5 s0) (HL.out.keep s0.2.2.2.2.2)).mono ?_
    rintro e1 w1 ⟨rfl, k1⟩
    go_wp2_with fail
    go_ret2
    exact ⟨rfl, s0.2.2.2.2.2.trans k1⟩
  · rw [Bool.true_and]
    have ix := index0 (.slice Ar nr cr) (.slice Ad nd cd)
    go_enter Tryd.func65, Tryd.ntmps65
    go_wp2_with fail
    refine (HC.out _ _ _ _ (HT.out.k5 s0) (HL.out.keep s0.2.2.2.2.2)).mono ?_
    rintro e1 w1 ⟨rfl, k1⟩
    have s1 := keep5 k1 s0
    clear s0 k1
    rw [ib_true]
    go_wp2_with fail
    refine (edgeListsOf_any _ _ _ _ _ _ _ _ _ _).mono ?_
    rintro e2 w2 ⟨rfl, k2⟩
    have s2 := keep5 k2 s1
    clear s1 k2
    go_wp2_with fail
    refine (contains_any _ lr _ _ (HL.out.k5 s2).rr HL.out.br).mono ?_
    rintro e3 w3 ⟨rfl, rfl⟩
    rw [HR.out]
    go_wp2_with fail
    go_ret2
    exact ⟨rfl, s2.2.2.2.2.2⟩

theorem hasRiver_any (W H : Int) (t r d : Value) (lt lr ld : List Int) (i x : Int) (w : World) (ht : Tab w) (hL : Lists w t r d lt lr ld) :
    Calls Tryd.prog 31 #[mp W H t r d, .int .i64 i, .int .i64 x] w fun e w' => e = .returned (.tuple #[.bool ((mapOk W H lt lr ld && nbB W H i x) && hasB lr (edgI W i x)), .bool (mapOk W H lt lr ld && nbB W H i x)]) ∧ Kp w w' := by
  have s0 := new5 w (.int .i64 W) (.int .i64 H) t r d 27
  have HC := Lib.hid (hasEdge_0 W H t r d lt lr ld i x _ (ht.k5 s0) (hL.keep s0.2.2.2.2.2))
  clear hL ht
  obtain ⟨R, hR⟩ : ∃ R, ((mapOk W H lt lr ld && nbB W H i x) && hasB lr (edgI W i x)) = R := ⟨_, rfl⟩
  obtain ⟨B, hB⟩ : ∃ B, (mapOk W H lt lr ld && nbB W H i x) = B := ⟨_, rfl⟩
  rw [hR, hB] at HC ⊢
  clear hR hB
  go_enter Tryd.func31, Tryd.ntmps31
  go_wp2_with fail
  refine HC.out.mono ?_
  rintro e1 w1 ⟨rfl, k1⟩
  go_wp2_with fail
  go_ret2
  exact ⟨rfl, s0.2.2.2.2.2.trans k1⟩

theorem hasEdge_1 (W H : Int) (t r d : Value) (lt lr ld : List Int) (i x : Int) (w : World) (ht : Tab w) (hL : Lists w t r d lt lr ld) :
    Calls Tryd.prog 65 #[mp W H t r d, .int .i64 1, .int .i64 i, .int .i64 x] w fun e w' => e = .returned (.tuple #[.bool ((mapOk W H lt lr ld && nbB W H i x) && hasB ld (edgI W i x)), .bool (mapOk W H lt lr ld && nbB W H i x)]) ∧ Kp w w' := by
  have HL := Lib.hid hL
  have HT := Lib.hid ht
  obtain ⟨Ar, cr, rfl, _⟩ := hL.rr
  obtain ⟨Ad, cd, rfl, _⟩ := hL.rd
  generalize lr.length = nr at *
  generalize ld.length = nd at *
  clear hL ht
  have s0 := new5 w (.int .i64 W) (.int .i64 H) t (.slice Ar nr cr) (.slice Ad nd cd) 27
  obtain ⟨B, hB⟩ : ∃ B, (mapOk W H lt lr ld && nbB W H i x) = B := ⟨_, rfl⟩
  obtain ⟨E, hE⟩ : ∃ E, edgI W i x = E := ⟨_, rfl⟩
  rw [hB, hE]
  have HC : Hid (∀ t r d w, Tab w → Lists w t r d lt lr ld → Calls Tryd.prog 27 #[mp W H t r d, .int .i64 i, .int .i64 x] w fun e w' => e = .returned (ib B E) ∧ Kp w w') := Lib.hid fun t r d w ht h => by
    rw [← hB, ← hE]
    exact edgeOf_any W H t r d lt lr ld i x w ht h
  clear hB hE
  generalize hR : hasB ld E = R
  have HR := Lib.hid hR
  clear hR
  cases B
  · rw [Bool.false_and]
    go_enter Tryd.func65, Tryd.ntmps65
    go_wp2_with fail
    refine (HC.out _ _ _ _ (HT.out.k5 s0) (HL.out.keep s0.2.2.2.2.2)).mono ?_
    rintro e1 w1 ⟨rfl, k1⟩
    go_wp2_with fail
    go_ret2
    exact ⟨rfl, s0.2.2.2.2.2.trans k1⟩
  · rw [Bool.true_and]
    have ix := index1 (.slice Ar nr cr) (.slice Ad nd cd)
    go_enter Tryd.func65, Tryd.ntmps65
    go_wp2_with fail
    refine (HC.out _ _ _ _ (HT.out.k5 s0) (HL.out.keep s0.2.2.2.2.2)).mono ?_
    rintro e1 w1 ⟨rfl, k1⟩
    have s1 := keep5 k1 s0
    clear s0 k1
    rw [ib_true]
    go_wp2_with fail
    refine (edgeListsOf_any _ _ _ _ _ _ _ _ _ _).mono ?_
    rintro e2 w2 ⟨rfl, k2⟩
    have s2 := keep5 k2 s1
    clear s1 k2
    go_wp2_with fail
    refine (contains_any _ ld _ _ (HL.out.k5 s2).rd HL.out.bd).mono ?_
    rintro e3 w3 ⟨rfl, rfl⟩
    rw [HR.out]
    go_wp2_with fail
    go_ret2
    exact ⟨rfl, s2.2.2.2.2.2⟩

theorem hasRoad_any (W H : Int) (t r d : Value) (lt lr ld : List Int) (i x : Int) (w : World) (ht : Tab w) (hL : Lists w t r d lt lr ld) :
    Calls Tryd.prog 33 #[mp W H t r d, .int .i64 i, .int .i64 x] w fun e w' => e = .returned (.tuple #[.bool ((mapOk W H lt lr ld && nbB W H i x) && hasB ld (edgI W i x)), .bool (mapOk W H lt lr ld && nbB W H i x)]) ∧ Kp w w' := by
  have s0 := new5 w (.int .i64 W) (.int .i64 H) t r d 27
  have HC := Lib.hid (hasEdge_1 W H t r d lt lr ld i x _ (ht.k5 s0) (hL.keep s0.2.2.2.2.2))
  clear hL ht
  obtain ⟨R, hR⟩ : ∃ R, ((mapOk W H lt lr ld && nbB W H i x) && hasB ld (edgI W i x)) = R := ⟨_, rfl⟩
  obtain ⟨B, hB⟩ : ∃ B, (mapOk W H lt lr ld && nbB W H i x) = B := ⟨_, rfl⟩
  rw [hR, hB] at HC ⊢
  clear hR hB
  go_enter Tryd.func33, Tryd.ntmps33
  go_wp2_with fail
  refine HC.out.mono ?_
  rintro e1 w1 ⟨rfl, k1⟩
  go_wp2_with fail
  go_ret2
  exact ⟨rfl, s0.2.2.2.2.2.trans k1⟩

end Go.Proofs.YtpfnljhnjembpaaDoor
