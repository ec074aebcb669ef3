/-
  The mix of a text, and the seed of a label: both sides. Nothing that was there is changed. The named variables hold what the program's text lays.
-/
import Derived.Test.YtmhkjcgdjoeldaaDoorDiB
namespace Go.Proofs.YtmhkjcgdjoeldaaDoor
open Go.RowKit

theorem own_one (w : World) (base : Nat) (x : Int) (hb : base ≤ w.heap.size) : OwnI (w.alloc (.cells #[.int .i64 x] 3)) base (.slice (some ⟨w.heap.size, 0, none⟩) 1 1) [x] :=
  World.ownsRow_lit w #[.int .i64 x] 1 hb (by simp [maxLen]) rfl
theorem OwnI.app {w : World} {base : Nat} {v : Value} {x : Int} {l : List Int} (h : w.ownsRow base 3 1 v (1 + l.length) (cellsI [x] ++ cellsI l)) : OwnI w base v (x :: l) := by
  unfold OwnI
  rw [show (x :: l).length = 1 + l.length by simp; omega, show cellsI (x :: l) = cellsI [x] ++ cellsI l from rfl]
  exact h
theorem cells_one (l : List Int) : ∀ u ∈ cellsI l, u.oneCell' = true := by
  intro u hu
  simp only [cellsI, List.mem_map] at hu
  obtain ⟨x, _, rfl⟩ := hu
  rfl
theorem cells_len (l : List Int) : (cellsI l).length = l.length * 1 := by simp [cellsI]

def chiB (sd : Int) (s : ByteArray) : Bool := seedB sd && decide (s.size ≤ 40)
theorem mix_short {sd : Int} {L : List Int} (h : L.length ≤ 40) : mixB (sd :: L) = true := by simp [mixB]; omega

set_option maxRecDepth 100000 in
set_option maxHeartbeats 4000000 in
theorem dChild_any (sd : Int) (s : ByteArray) (w : World) (hs : s.size ≤ 40) :
    Calls Tryd.prog 34 #[.int .i64 sd, .string s] w fun e w' => e = .returned (.int .i64 (hashN (mixL (sd :: byL s s.size)))) ∧ Kp w w' := by
  obtain ⟨j0, hj0, hz0, hs0, hb0⟩ := info_parts infoInt
  have HL := Lib.hid (byL_len s s.size)
  have CB := Lib.hid (fun w => dBytes_any s w (by omega))
  have HLit := Lib.hid (own_one w w.heap.size sd (Nat.le_refl _))
  have K0 : Kp w (w.alloc (.cells #[.int .i64 sd] 3)) := (Kp.refl _).alloc _
  generalize byL s s.size = L at *
  have CM := Lib.hid (fun v w h => dHash_any v (sd :: L) w h (by have := HL.out; simp; omega))
  generalize hashN (mixL (sd :: L)) = X at *
  go_enter Tryd.func34, Tryd.ntmps34
  go_wp2_with fail
  refine (CB.out _).mono ?_
  rintro e1 w1 ⟨v1, rfl, o1, k1⟩
  have HLit1 := Lib.hid (HLit.out.keep k1)
  have K1 := K0.trans k1
  have hz1 := K1.size
  clear K0 HLit
  rcases o1.2 with ⟨rfl, hn⟩ | ⟨g, cap, cur, rfl, -⟩
  · have R3 : Hid (RdI w1 (.slice (some ⟨w.heap.size, 0, none⟩) 1 1) (sd :: L)) := Lib.hid (by
      rw [List.eq_nil_of_length_eq_zero hn]
      exact HLit1.out.rd)
    go_wp2_with fail
    refine (CM.out _ _ R3.out).mono ?_
    rintro e4 w4 ⟨rfl, rfl⟩
    go_wp2_with fail
    go_ret
    exact ⟨rfl, K1⟩
  · have HO1 := Lib.hid o1
    clear o1
    go_wp2_with (at_builtin; refine wpList_append_own_at _ rfl (.tmp 6) (.tmp 8) 28 rfl w.heap.size 3 j0 (.int .i64 0) 1 8 Tryd.underlying28 hj0 hz0 hs0 hb0 rfl (by decide) _ 1 (cellsI [sd]) rfl HLit1.out ⟨g, 0, none⟩ L.length cap (cellsI L) rfl (cells_len L) (World.ownsRow.cells HO1.out rfl) (cells_one L) (by have := HL.out; simp only [maxLen]; omega) (by have := HL.out; omega) hz1 ?_; intro v' w3 hown2 hgrow2 hnil2 hat2; clear hnil2 hat2; have O3 : Hid (OwnI w3 w.heap.size v' (sd :: L)) := Lib.hid (OwnI.app hown2); have K3 : Kp w w3 := K1.grown hgrow2 (fun k e => (World.ownsRow.lt HLit1.out k e).1); clear hown2 hgrow2)
    refine (CM.out _ _ O3.out.rd).mono ?_
    rintro e4 w4 ⟨rfl, rfl⟩
    go_wp2_with fail
    go_ret
    exact ⟨rfl, K3⟩

set_option maxRecDepth 100000 in
set_option maxHeartbeats 4000000 in
theorem childSeedS_any (sd : Int) (s : ByteArray) (w : World) (hs : s.size ≤ 1048576) :
    Calls Tryd.prog 18 #[.int .i64 sd, .string s] w fun e w' => e = .returned (ib (chiB sd s) (hashN (mixL (sd :: byL s s.size)))) ∧ Kp w w' := by
  have C0 := Lib.hid (dSeed_any sd w)
  cases h0 : seedB sd
  · rw [h0] at C0
    have hO : chiB sd s = false := by simp [chiB, h0]
    rw [hO]
    go_enter Tryd.func18, Tryd.ntmps18
    go_wp2_with fail
    refine C0.out.mono ?_
    rintro e1 w1 ⟨rfl, rfl⟩
    go_wp2_with fail
    go_ret2
    exact ⟨rfl, Kp.refl _⟩
  · rw [h0] at C0
    by_cases hl : s.size ≤ 40
    · have hO : chiB sd s = true := by simp [chiB, h0, hl]
      rw [hO]
      have hl' : (s.size : Int) ≤ 40 := by omega
      have CD := Lib.hid (dChild_any sd s w hl)
      generalize hashN (mixL (sd :: byL s s.size)) = X at *
      go_enter Tryd.func18, Tryd.ntmps18
      go_wp2_with fail
      refine C0.out.mono ?_
      rintro e1 w1 ⟨rfl, rfl⟩
      go_wp2_with fail
      refine CD.out.mono ?_
      rintro e2 w2 ⟨rfl, k2⟩
      go_wp2_with fail
      go_ret2
      exact ⟨rfl, k2⟩
    · have hO : chiB sd s = false := by simp [chiB, hl]
      rw [hO]
      have hl' : 40 < (s.size : Int) := by omega
      go_enter Tryd.func18, Tryd.ntmps18
      go_wp2_with fail
      refine C0.out.mono ?_
      rintro e1 w1 ⟨rfl, rfl⟩
      go_wp2_with fail
      go_ret2
      exact ⟨rfl, Kp.refl _⟩

set_option maxRecDepth 100000 in
set_option maxHeartbeats 4000000 in
theorem childSeedP_any (sd : Int) (s : ByteArray) (w : World) (hs : s.size ≤ 1048576) (hg0 : SpanAt w 5 0 4611686016279904236) (hg1 : SpanAt w 6 0 40) (hg2 : SpanAt w 4 0 200) (hT : Lib.Utf8Tabs 7 8 w) :
    Calls Tryd.prog 17 #[.int .i64 sd, .string s] w fun e w' => e = .returned (ib (chiB sd s) (hashN (mixL (sd :: byL s s.size)))) ∧ Kp w w' := by
  have C0 := Lib.hid (fun w => has_any 0 4611686016279904236 sd w)
  have C1 := Lib.hid (fun w => has_any 0 40 (s.size : Int) w)
  have HG2 := Lib.hid hg2
  have HT := Lib.hid hT
  clear hg2 hT
  cases h0 : spB 0 4611686016279904236 sd
  · rw [h0] at C0
    have hO : chiB sd s = false := by simp [chiB, seedB, h0]
    rw [hO]
    obtain ⟨b0, c0⟩ := hg0
    go_enter Tryd.func17, Tryd.ntmps17
    go_wp2_with fail
    refine (C0.out _).mono ?_
    rintro e1 w1 ⟨rfl, k1⟩
    go_wp2_with fail
    go_ret2
    exact ⟨rfl, k1⟩
  · rw [h0] at C0
    by_cases hl : s.size ≤ 40
    · have hO : chiB sd s = true := by simp [chiB, seedB, h0, hl]
      rw [hO]
      have h1 : spB 0 40 (s.size : Int) = true := by simp [spB]; omega
      rw [h1] at C1
      obtain ⟨j0, hj0, hz0, hs0, hb0⟩ := info_parts infoInt
      have HL := Lib.hid (byL_len s s.size)
      have CB := Lib.hid (fun w hT => bytesOf_any s w hs hT)
      generalize byL s s.size = L at *
      have CM := Lib.hid (fun v w h g => mixNumbersP_any v (sd :: L) w h (by have := HL.out; simp; omega) g)
      rw [mix_short (by have := HL.out; omega)] at CM
      generalize hashN (mixL (sd :: L)) = X at *
      obtain ⟨b0, c0⟩ := hg0
      go_enter Tryd.func17, Tryd.ntmps17
      go_wp2_with fail
      refine (C0.out _).mono ?_
      rintro e1 w1 ⟨rfl, k1⟩
      obtain ⟨b1, c1⟩ := k1.two hg1
      go_wp2_with fail
      refine (C1.out _).mono ?_
      rintro e2 w2 ⟨rfl, k2⟩
      have K2 := k1.trans k2
      have hz2 := K2.size
      have HLit := Lib.hid (own_one w2 w.heap.size sd hz2)
      have K3 : Kp w (w2.alloc (.cells #[.int .i64 sd] 3)) := K2.alloc _
      go_wp2_with fail
      refine (CB.out _ (by first | exact Lib.Utf8Tabs_below HT.out K3 | exact Utf8Tabs_below HT.out K3)).mono ?_
      rintro e4 w4 ⟨v4, rfl, o4, k4⟩
      have HLit1 := Lib.hid (HLit.out.keep k4)
      have K4 := K3.trans k4
      have hz4 := K4.size
      clear K3 HLit
      rcases o4.2 with ⟨rfl, hn⟩ | ⟨g, cap, cur, rfl, -⟩
      · have R3 : Hid (RdI w4 (.slice (some ⟨w2.heap.size, 0, none⟩) 1 1) (sd :: L)) := Lib.hid (by
          rw [List.eq_nil_of_length_eq_zero hn]
          exact HLit1.out.rd)
        go_wp2_with fail
        refine (CM.out _ _ R3.out (K4.two HG2.out)).mono ?_
        rintro e5 w5 ⟨rfl, k5⟩
        go_wp2_with fail
        go_ret2
        exact ⟨rfl, K4.trans k5⟩
      · have HO1 := Lib.hid o4
        clear o4
        go_wp2_with (at_builtin; refine wpList_append_own_at _ rfl (.tmp 18) (.tmp 20) 28 rfl w.heap.size 3 j0 (.int .i64 0) 1 8 Tryd.underlying28 hj0 hz0 hs0 hb0 rfl (by decide) _ 1 (cellsI [sd]) rfl HLit1.out ⟨g, 0, none⟩ L.length cap (cellsI L) rfl (cells_len L) (World.ownsRow.cells HO1.out rfl) (cells_one L) (by have := HL.out; simp only [maxLen]; omega) (by have := HL.out; omega) hz4 ?_; intro v' w3 hown2 hgrow2 hnil2 hat2; clear hnil2 hat2; have O3 : Hid (OwnI w3 w.heap.size v' (sd :: L)) := Lib.hid (OwnI.app hown2); have K5 : Kp w w3 := K4.grown hgrow2 (fun k e => (World.ownsRow.lt HLit1.out k e).1); clear hown2 hgrow2)
        refine (CM.out _ _ O3.out.rd (K5.two HG2.out)).mono ?_
        rintro e5 w5 ⟨rfl, k5⟩
        go_wp2_with fail
        go_ret2
        exact ⟨rfl, K5.trans k5⟩
    · have hO : chiB sd s = false := by simp [chiB, hl]
      rw [hO]
      have h1 : spB 0 40 (s.size : Int) = false := by simp [spB]; omega
      rw [h1] at C1
      obtain ⟨b0, c0⟩ := hg0
      go_enter Tryd.func17, Tryd.ntmps17
      go_wp2_with fail
      refine (C0.out _).mono ?_
      rintro e1 w1 ⟨rfl, k1⟩
      obtain ⟨b1, c1⟩ := k1.two hg1
      go_wp2_with fail
      refine (C1.out _).mono ?_
      rintro e2 w2 ⟨rfl, k2⟩
      go_wp2_with fail
      go_ret2
      exact ⟨rfl, k1.trans k2⟩

end Go.Proofs.YtmhkjcgdjoeldaaDoor
