/-
  The law on sums holds at all bytes: counts of sums at drawn numbers are the reference's and symmetric, a count is the difference of two counts from a sum on, greatest faces, mixes and seeds of labels are the reference's. The named variables hold what the program's text lays (the card ties them).
-/
import Derived.Test.YtmhkjcgdjoeldaaDoorDiU
import Derived.Test.YtmhkjcgdjoeldaaDoorDiN
import Derived.Test.YtmhkjcgdjoeldaaDoorDiC
import Derived.Test.YtmhkjcgdjoeldaaDoorDrS
import Derived.Test.YtmhkjcgdjoeldaaDoorTabDs
import Derived.ChangeSlices
import Derived.OpenShut
namespace Go.Proofs.YtmhkjcgdjoeldaaDoor.fnSumsLaw
open Go.ChangeShapes Go.WideShapes Go.ChangeAt Go.RowKit Go.Joins

theorem cellsByte : Tryd.prog.cellsOf 5 = 1 := by kernel_rfl
set_option maxRecDepth 100000 in
/-- An argument that is a slice of bytes. -/
theorem rdBy_of_trod {H : Type} {enc : TypeId × Value → H} {W : World} {base : Nat} {v : Value} {d : DataW H} {p : List MemPlace}
    (hv : Value.okWide Tryd.prog W .any base 22 v) (h : DataW.Trod enc Tryd.prog W 0 (fun _ => true) true 22 v d p) : ∃ A n c, v = .slice A n c ∧ RdBy W A n ∧ n ≤ 9223372036854775807 := by
  obtain ⟨a0, len, cap, rfl⟩ := okWide_slice Tryd.underlying22 hv
  obtain ⟨fuel, hf⟩ := h
  rcases open_ints Tryd.underlying22 Tryd.underlying5 cellsByte hf with ⟨hcs, hx⟩ | ⟨a, len', cap', zs, hcs, _, hl, hm, hz, hx, hcell, hwz⟩
  · simp only [Value.cells, List.cons.injEq, Value.slice.injEq, and_true] at hcs
    obtain ⟨rfl, rfl, rfl⟩ := hcs
    exact ⟨none, 0, 0, rfl, fun h0 => absurd h0 (by omega), by omega⟩
  · simp only [Value.cells, List.cons.injEq, Value.slice.injEq, and_true] at hcs
    obtain ⟨rfl, rfl, rfl⟩ := hcs
    have hzl : len ≤ zs.length := by rw [hz]; simpa using hl
    refine ⟨some a, len, cap, rfl, fun h0 => ?_, by unfold maxLen at hm; omega⟩
    obtain ⟨b, off, rfl, hc⟩ := ints_at hcell (by omega)
    refine ⟨b, off, rfl, fun i hi => ?_⟩
    have hil : i < zs.length := by omega
    have hb := bounds_u8 (hwz (zs.getD i 0) (by rw [List.getD_eq_getElem?_getD, List.getElem?_eq_getElem hil]; exact List.getElem_mem hil))
    exact ⟨_, hb.1, hb.2, hc i hil⟩
theorem big_any (A1 A2 : Option Addr) (n1 c1 n2 c2 : Nat) (w : World) (h1 : n1 ≤ 9223372036854775807) (h2 : n2 ≤ 9223372036854775807) :
    Calls Tryd.prog 4 #[.slice A1 n1 c1, .slice A2 n2 c2] w fun e w' => e = .returned (.bool (decide (¬ n1 + n2 ≤ 1048576))) ∧ w = w' := by
  by_cases ha : n1 ≤ 1048576
  · have ha' : (n1 : Int) ≤ 1048576 := by omega
    have ew : IntKind.i64.wrap (1048576 - (n1 : Int)) = 1048576 - (n1 : Int) := IntWalk.i64_in _ (by omega)
    by_cases hb : n1 + n2 ≤ 1048576
    · have hb' : (n2 : Int) ≤ 1048576 - (n1 : Int) := by omega
      have hO : decide (¬ n1 + n2 ≤ 1048576) = false := by simpa using hb
      rw [hO]
      clear hO
      go_enter Tryd.func4, Tryd.ntmps4
      go_wp2_with fail
      go_ret
      exact ⟨by first | rfl | exact ret_bool (by simp; omega), rfl⟩
    · have hb' : 1048576 - (n1 : Int) < (n2 : Int) := by omega
      have hO : decide (¬ n1 + n2 ≤ 1048576) = true := by simpa using hb
      rw [hO]
      clear hO
      go_enter Tryd.func4, Tryd.ntmps4
      go_wp2_with fail
      go_ret
      exact ⟨by first | rfl | exact ret_bool (by simp; omega), rfl⟩
  · have ha' : 1048576 < (n1 : Int) := by omega
    have hO : decide (¬ n1 + n2 ≤ 1048576) = true := by simp; omega
    rw [hO]
    clear hO
    go_enter Tryd.func4, Tryd.ntmps4
    go_wp2_with fail
    go_ret
    exact ⟨by first | rfl | exact ret_bool (by simp; omega), rfl⟩

set_option maxRecDepth 100000 in
set_option maxHeartbeats 64000000 in
theorem walk (A1 A2 : Option Addr) (n1 c1 n2 c2 : Nat) (w : World) (hb1 : RdBy w A1 n1) (hb2 : RdBy w A2 n2) (h1 : n1 ≤ 9223372036854775807) (h2 : n2 ≤ 9223372036854775807) (hg : SpanAt w 0 0 8 ∧ SpanAt w 1 (-100) 100 ∧ SpanAt w 2 1 8 ∧ SpanAt w 3 1 6 ∧ SpanAt w 4 0 200 ∧ SpanAt w 5 0 4611686016279904236 ∧ SpanAt w 6 0 40 ∧ Lib.Utf8Tabs 7 8 w) :
    Calls Tryd.prog 3 #[.slice A1 n1 c1, .slice A2 n2 c2] w fun e' w' => e' = .returned (.bool true) ∧ Kp w w' := by
  have CB := Lib.hid (big_any A1 A2 n1 c1 n2 c2 w h1 h2)
  have HB1 := Lib.hid hb1
  have HB2 := Lib.hid hb2
  have HG := Lib.hid hg
  clear hb1 hb2 hg
  by_cases hbig : ¬ n1 + n2 ≤ 1048576
  · rw [decide_eq_true hbig] at CB
    go_enter Tryd.func3, Tryd.ntmps3
    go_wp2_with fail
    refine CB.out.mono ?_
    rintro e0 w0 ⟨rfl, rfl⟩
    go_wp2_with fail
    go_ret
    exact ⟨rfl, Kp.refl _⟩
  rw [decide_eq_false hbig] at CB
  clear hbig
  go_enter Tryd.func3, Tryd.ntmps3
  go_wp2_with fail
  refine CB.out.mono ?_
  rintro e0 w0 ⟨rfl, rfl⟩
  clear CB
  go_wp2_with fail
  refine (drawSumWays_any A1 n1 c1 w HB1.out h1).mono ?_
  rintro e1 w1 ⟨n, m, rfl, k1⟩
  have HGK := Lib.hid (show ∀ w', Kp w w' → SpanAt w' 0 0 8 ∧ SpanAt w' 1 (-100) 100 ∧ SpanAt w' 2 1 8 ∧ SpanAt w' 3 1 6 ∧ SpanAt w' 4 0 200 ∧ SpanAt w' 5 0 4611686016279904236 ∧ SpanAt w' 6 0 40 ∧ Lib.Utf8Tabs 7 8 w' from fun w' k => ⟨(k).two HG.out.1, (k).two HG.out.2.1, (k).two HG.out.2.2.1, (k).two HG.out.2.2.2.1, (k).two HG.out.2.2.2.2.1, (k).two HG.out.2.2.2.2.2.1, (k).two HG.out.2.2.2.2.2.2.1, (by first | exact Lib.Utf8Tabs_below HG.out.2.2.2.2.2.2.2 (k) | exact Utf8Tabs_below HG.out.2.2.2.2.2.2.2 (k))⟩)
  have CSP := Lib.hid (fun (w : World) (h : SpanAt w 0 0 8 ∧ SpanAt w 1 (-100) 100 ∧ SpanAt w 2 1 8 ∧ SpanAt w 3 1 6 ∧ SpanAt w 4 0 200 ∧ SpanAt w 5 0 4611686016279904236 ∧ SpanAt w 6 0 40 ∧ Lib.Utf8Tabs 7 8 w) (m : Int) => sumWaysP_any n m w (h.1) (h.2.1))
  have CSW := Lib.hid (fun w => sumWaysS_any n m w)
  have CAL := Lib.hid (fun (w : World) (h : SpanAt w 0 0 8 ∧ SpanAt w 1 (-100) 100 ∧ SpanAt w 2 1 8 ∧ SpanAt w 3 1 6 ∧ SpanAt w 4 0 200 ∧ SpanAt w 5 0 4611686016279904236 ∧ SpanAt w 6 0 40 ∧ Lib.Utf8Tabs 7 8 w) (m : Int) => (show Calls Tryd.prog 8 #[.int .i64 n, .int .i64 m] w fun e w' => e = .returned (ib (swB n m) (alN n m)) ∧ Kp w w' from waysAtLeastP_any n m w (h.1) (h.2.1)))
  have CAS := Lib.hid (fun (w : World) => (show Calls Tryd.prog 9 #[.int .i64 n, .int .i64 m] w fun e w' => e = .returned (ib (swB n m) (alN n m)) ∧ Kp w w' from waysAtLeastS_any n m w))
  go_wp2_with fail
  have C1 := Lib.hid (CSP.out w1 (HGK.out w1 k1) m)
  cases hB : swB n m
  · rw [hB] at C1 CSW CAS
    have C3 := Lib.hid (fun w h => CAL.out w h m)
    rw [hB] at C3
    unfold ib at C1 CSW CAS C3
    simp only [vI_false] at C1 CSW CAS C3
    clear CSP
    refine C1.out.mono ?_
    rintro e2 w2 ⟨rfl, k2⟩
    have K2 := k1.trans k2
    clear C1 k1 k2
    go_wp2_with fail
    refine (CSW.out _).mono ?_
    rintro e3 w3 ⟨rfl, k3⟩
    have K3 := K2.trans k3
    clear K2 k3
    go_wp2_with fail
    refine (C3.out _ (HGK.out _ K3)).mono ?_
    rintro e4 w4 ⟨rfl, k4⟩
    have K4 := K3.trans k4
    clear C3 K3 k4
    go_wp2_with fail
    refine (CAS.out _).mono ?_
    rintro e5 w5 ⟨rfl, k5⟩
    have K5 := K4.trans k5
    clear K4 k5
    try clear CAL
    try clear CAS
    try clear CSW
    go_wp2_with fail
    refine (drawGreatestOf_any A2 n2 c2 w5 (HB2.out.keep K5) h2).mono ?_
    rintro e30 w30 ⟨gk, gx, rfl, k30⟩
    have K30 := K5.trans k30
    have G30 := Lib.hid (show SpanAt w30 0 0 8 ∧ SpanAt w30 1 (-100) 100 ∧ SpanAt w30 2 1 8 ∧ SpanAt w30 3 1 6 ∧ SpanAt w30 4 0 200 ∧ SpanAt w30 5 0 4611686016279904236 ∧ SpanAt w30 6 0 40 ∧ Lib.Utf8Tabs 7 8 w30 from ⟨(K30).two HG.out.1, (K30).two HG.out.2.1, (K30).two HG.out.2.2.1, (K30).two HG.out.2.2.2.1, (K30).two HG.out.2.2.2.2.1, (K30).two HG.out.2.2.2.2.2.1, (K30).two HG.out.2.2.2.2.2.2.1, (by first | exact Lib.Utf8Tabs_below HG.out.2.2.2.2.2.2.2 (K30) | exact Utf8Tabs_below HG.out.2.2.2.2.2.2.2 (K30))⟩)
    have CG := Lib.hid (greatestOfP_any gk gx w30 (G30.out.2.2.1) (G30.out.2.2.2.1))
    have CGS := Lib.hid (fun w => greatestOfS_any gk gx w)
    generalize greN gk gx = X1 at *
    generalize greB gk gx = B1 at *
    unfold ib at CG CGS
    generalize vI B1 X1 = Y1 at *
    have eB1 : (B1 == B1) = true := by simp
    have eY1 : (Y1 == Y1) = true := by simp
    go_wp2_with fail
    refine CG.out.mono ?_
    rintro e31 w31 ⟨rfl, k31⟩
    have K31 := K30.trans k31
    clear CG k31 K30 k30
    go_wp2_with fail
    refine (CGS.out _).mono ?_
    rintro e32 w32 ⟨rfl, rfl⟩
    clear CGS
    go_wp2_with fail
    refine (drawMixNumbers_any A2 n2 c2 w31 (HB2.out.keep K31) h2).mono ?_
    rintro e33 w33 ⟨v33, L, rfl, r33, hL, k33⟩
    have K33 := K31.trans k33
    have G33 := Lib.hid (show SpanAt w33 0 0 8 ∧ SpanAt w33 1 (-100) 100 ∧ SpanAt w33 2 1 8 ∧ SpanAt w33 3 1 6 ∧ SpanAt w33 4 0 200 ∧ SpanAt w33 5 0 4611686016279904236 ∧ SpanAt w33 6 0 40 ∧ Lib.Utf8Tabs 7 8 w33 from ⟨(K33).two HG.out.1, (K33).two HG.out.2.1, (K33).two HG.out.2.2.1, (K33).two HG.out.2.2.2.1, (K33).two HG.out.2.2.2.2.1, (K33).two HG.out.2.2.2.2.2.1, (K33).two HG.out.2.2.2.2.2.2.1, (by first | exact Lib.Utf8Tabs_below HG.out.2.2.2.2.2.2.2 (K33) | exact Utf8Tabs_below HG.out.2.2.2.2.2.2.2 (K33))⟩)
    have CM := Lib.hid (fun w h g => mixNumbersP_any v33 L w h (by omega) g)
    have CMS := Lib.hid (fun w h => mixNumbersS_any v33 L w h (by omega))
    have R33 := Lib.hid r33
    generalize hashN (mixL L) = X2 at *
    generalize mixB L = B2 at *
    unfold ib at CM CMS
    generalize vI B2 X2 = Y2 at *
    have eB2 : (B2 == B2) = true := by simp
    have eY2 : (Y2 == Y2) = true := by simp
    clear r33 K31 k33 G30
    go_wp2_with fail
    refine (CM.out _ R33.out (G33.out.2.2.2.2.1)).mono ?_
    rintro e34 w34 ⟨rfl, k34⟩
    have K34 := K33.trans k34
    have R34 := Lib.hid (R33.out.keep k34)
    clear CM K33 k34 R33
    go_wp2_with fail
    refine (CMS.out _ R34.out).mono ?_
    rintro e35 w35 ⟨rfl, rfl⟩
    clear CMS
    go_wp2_with fail
    refine (drawChildSeed_any A2 n2 c2 w34 (HB2.out.keep K34) h2).mono ?_
    rintro e36 w36 ⟨sd, st, rfl, hst, k36⟩
    have K36 := K34.trans k36
    have G36 := Lib.hid (show SpanAt w36 0 0 8 ∧ SpanAt w36 1 (-100) 100 ∧ SpanAt w36 2 1 8 ∧ SpanAt w36 3 1 6 ∧ SpanAt w36 4 0 200 ∧ SpanAt w36 5 0 4611686016279904236 ∧ SpanAt w36 6 0 40 ∧ Lib.Utf8Tabs 7 8 w36 from ⟨(K36).two HG.out.1, (K36).two HG.out.2.1, (K36).two HG.out.2.2.1, (K36).two HG.out.2.2.2.1, (K36).two HG.out.2.2.2.2.1, (K36).two HG.out.2.2.2.2.2.1, (K36).two HG.out.2.2.2.2.2.2.1, (by first | exact Lib.Utf8Tabs_below HG.out.2.2.2.2.2.2.2 (K36) | exact Utf8Tabs_below HG.out.2.2.2.2.2.2.2 (K36))⟩)
    have CC := Lib.hid (childSeedP_any sd st w36 (by omega) (G36.out.2.2.2.2.2.1) (G36.out.2.2.2.2.2.2.1) (G36.out.2.2.2.2.1) (G36.out.2.2.2.2.2.2.2))
    have CCS := Lib.hid (fun w => childSeedS_any sd st w (by omega))
    generalize hashN (mixL (sd :: byL st st.size)) = X3 at *
    generalize chiB sd st = B3 at *
    unfold ib at CC CCS
    generalize vI B3 X3 = Y3 at *
    have eB3 : (B3 == B3) = true := by simp
    have eY3 : (Y3 == Y3) = true := by simp
    clear K34 k36 G33 R34
    go_wp2_with fail
    refine CC.out.mono ?_
    rintro e37 w37 ⟨rfl, k37⟩
    have K37 := K36.trans k37
    clear CC K36 k37
    go_wp2_with fail
    refine (CCS.out _).mono ?_
    rintro e38 w38 ⟨rfl, k38⟩
    have K38 := K37.trans k38
    clear CCS K37 k38
    go_wp2_with fail
    go_ret
    exact ⟨rfl, K38⟩
  · have hsw := hB
    simp only [swB, Bool.and_eq_true] at hsw
    have hn := sp_bd hsw.1
    have hm := sp_bd hsw.2
    have HSYM := Lib.hid (sum_sym hB)
    have HAB := Lib.hid (al_bd hB)
    have HDF := Lib.hid (al_diff n m)
    rw [hB] at C1 CSW CAS
    have C3 := Lib.hid (fun w h => CAL.out w h m)
    rw [hB] at C3
    clear hsw
    unfold ib at C1 CSW CAS C3
    simp only [vI_true] at C1 CSW CAS C3
    have e7 : IntKind.i64.wrap (7 * n) = 7 * n := IntWalk.i64_in _ (by omega)
    have es : IntKind.i64.wrap (7 * n - m) = 7 * n - m := IntWalk.i64_in _ (by omega)
    have hlo : -100 ≤ 7 * n - m := by omega
    have C2 : Hid (7 * n - m ≤ 100 → ∀ w, (SpanAt w 0 0 8 ∧ SpanAt w 1 (-100) 100 ∧ SpanAt w 2 1 8 ∧ SpanAt w 3 1 6 ∧ SpanAt w 4 0 200 ∧ SpanAt w 5 0 4611686016279904236 ∧ SpanAt w 6 0 40 ∧ Lib.Utf8Tabs 7 8 w) → Calls Tryd.prog 6 #[.int .i64 n, .int .i64 (7 * n - m)] w fun e w' => e = .returned (.tuple #[.int .i64 (sumN n m), .bool true]) ∧ Kp w w') := Lib.hid (fun hhi w h => by
      have h9 := CSP.out w h (7 * n - m)
      have h8 : swB n (7 * n - m) = true := by simp [swB, spB]; omega
      rw [h8, HSYM.out] at h9
      exact h9)
    have C4 : Hid (m < 100 → ∀ w, (SpanAt w 0 0 8 ∧ SpanAt w 1 (-100) 100 ∧ SpanAt w 2 1 8 ∧ SpanAt w 3 1 6 ∧ SpanAt w 4 0 200 ∧ SpanAt w 5 0 4611686016279904236 ∧ SpanAt w 6 0 40 ∧ Lib.Utf8Tabs 7 8 w) → ∃ Ab : Int, IntKind.i64.wrap (alN n m - Ab) = sumN n m ∧ Calls Tryd.prog 8 #[.int .i64 n, .int .i64 (m + 1)] w fun e w' => e = .returned (.tuple #[.int .i64 Ab, .bool true]) ∧ Kp w w') := Lib.hid (fun hhi w h => by
      have h9 := CAL.out w h (m + 1)
      have h8 : swB n (m + 1) = true := by simp [swB, spB]; omega
      rw [h8] at h9
      refine ⟨alN n (m + 1), ?_, h9⟩
      have h7 := al_bd h8
      have h6 := HAB.out
      rw [IntWalk.i64_in _ (by omega)]
      exact HDF.out)
    have em : IntKind.i64.wrap (m + 1) = m + 1 := IntWalk.i64_in _ (by omega)
    clear HSYM HAB HDF CSP CAL hB
    generalize sumN n m = S at *
    generalize alN n m = Aa at *
    have eS : (S != S) = false := by simp
    have eA : (Aa != Aa) = false := by simp
    refine C1.out.mono ?_
    rintro e2 w2 ⟨rfl, k2⟩
    have K2 := k1.trans k2
    clear C1 k1 k2
    go_wp2_with fail
    refine (CSW.out _).mono ?_
    rintro e3 w3 ⟨rfl, k3⟩
    have K3 := K2.trans k3
    clear K2 k3
    by_cases hhi : 7 * n - m ≤ 100
    · have C5 := Lib.hid (C2.out hhi w3 (HGK.out _ K3))
      go_wp2_with fail
      refine C5.out.mono ?_
      rintro e9 w9 ⟨rfl, k9⟩
      have K9 := K3.trans k9
      clear C5 k9 K3
      go_wp2_with fail
      refine (C3.out _ (HGK.out _ K9)).mono ?_
      rintro e4 w4 ⟨rfl, k4⟩
      have K4 := K9.trans k4
      clear C3 k4
      go_wp2_with fail
      refine (CAS.out _).mono ?_
      rintro e5 w5 ⟨rfl, k5⟩
      have K5 := K4.trans k5
      clear K4 k5
      by_cases hm100 : m < 100
      · obtain ⟨Ab, eAb, C6⟩ := C4.out hm100 w5 (HGK.out _ K5)
        have HC6 := Lib.hid C6
        clear C6
        go_wp2_with fail
        refine HC6.out.mono ?_
        rintro e6 w6 ⟨rfl, k6⟩
        have K6 := K5.trans k6
        clear HC6 k6 K5 C4 C2
        try clear CAL
        try clear CAS
        try clear CSW
        go_wp2_with fail
        refine (drawGreatestOf_any A2 n2 c2 w6 (HB2.out.keep K6) h2).mono ?_
        rintro e30 w30 ⟨gk, gx, rfl, k30⟩
        have K30 := K6.trans k30
        have G30 := Lib.hid (show SpanAt w30 0 0 8 ∧ SpanAt w30 1 (-100) 100 ∧ SpanAt w30 2 1 8 ∧ SpanAt w30 3 1 6 ∧ SpanAt w30 4 0 200 ∧ SpanAt w30 5 0 4611686016279904236 ∧ SpanAt w30 6 0 40 ∧ Lib.Utf8Tabs 7 8 w30 from ⟨(K30).two HG.out.1, (K30).two HG.out.2.1, (K30).two HG.out.2.2.1, (K30).two HG.out.2.2.2.1, (K30).two HG.out.2.2.2.2.1, (K30).two HG.out.2.2.2.2.2.1, (K30).two HG.out.2.2.2.2.2.2.1, (by first | exact Lib.Utf8Tabs_below HG.out.2.2.2.2.2.2.2 (K30) | exact Utf8Tabs_below HG.out.2.2.2.2.2.2.2 (K30))⟩)
        have CG := Lib.hid (greatestOfP_any gk gx w30 (G30.out.2.2.1) (G30.out.2.2.2.1))
        have CGS := Lib.hid (fun w => greatestOfS_any gk gx w)
        generalize greN gk gx = X1 at *
        generalize greB gk gx = B1 at *
        unfold ib at CG CGS
        generalize vI B1 X1 = Y1 at *
        have eB1 : (B1 == B1) = true := by simp
        have eY1 : (Y1 == Y1) = true := by simp
        go_wp2_with fail
        refine CG.out.mono ?_
        rintro e31 w31 ⟨rfl, k31⟩
        have K31 := K30.trans k31
        clear CG k31 K30 k30
        go_wp2_with fail
        refine (CGS.out _).mono ?_
        rintro e32 w32 ⟨rfl, rfl⟩
        clear CGS
        go_wp2_with fail
        refine (drawMixNumbers_any A2 n2 c2 w31 (HB2.out.keep K31) h2).mono ?_
        rintro e33 w33 ⟨v33, L, rfl, r33, hL, k33⟩
        have K33 := K31.trans k33
        have G33 := Lib.hid (show SpanAt w33 0 0 8 ∧ SpanAt w33 1 (-100) 100 ∧ SpanAt w33 2 1 8 ∧ SpanAt w33 3 1 6 ∧ SpanAt w33 4 0 200 ∧ SpanAt w33 5 0 4611686016279904236 ∧ SpanAt w33 6 0 40 ∧ Lib.Utf8Tabs 7 8 w33 from ⟨(K33).two HG.out.1, (K33).two HG.out.2.1, (K33).two HG.out.2.2.1, (K33).two HG.out.2.2.2.1, (K33).two HG.out.2.2.2.2.1, (K33).two HG.out.2.2.2.2.2.1, (K33).two HG.out.2.2.2.2.2.2.1, (by first | exact Lib.Utf8Tabs_below HG.out.2.2.2.2.2.2.2 (K33) | exact Utf8Tabs_below HG.out.2.2.2.2.2.2.2 (K33))⟩)
        have CM := Lib.hid (fun w h g => mixNumbersP_any v33 L w h (by omega) g)
        have CMS := Lib.hid (fun w h => mixNumbersS_any v33 L w h (by omega))
        have R33 := Lib.hid r33
        generalize hashN (mixL L) = X2 at *
        generalize mixB L = B2 at *
        unfold ib at CM CMS
        generalize vI B2 X2 = Y2 at *
        have eB2 : (B2 == B2) = true := by simp
        have eY2 : (Y2 == Y2) = true := by simp
        clear r33 K31 k33 G30
        go_wp2_with fail
        refine (CM.out _ R33.out (G33.out.2.2.2.2.1)).mono ?_
        rintro e34 w34 ⟨rfl, k34⟩
        have K34 := K33.trans k34
        have R34 := Lib.hid (R33.out.keep k34)
        clear CM K33 k34 R33
        go_wp2_with fail
        refine (CMS.out _ R34.out).mono ?_
        rintro e35 w35 ⟨rfl, rfl⟩
        clear CMS
        go_wp2_with fail
        refine (drawChildSeed_any A2 n2 c2 w34 (HB2.out.keep K34) h2).mono ?_
        rintro e36 w36 ⟨sd, st, rfl, hst, k36⟩
        have K36 := K34.trans k36
        have G36 := Lib.hid (show SpanAt w36 0 0 8 ∧ SpanAt w36 1 (-100) 100 ∧ SpanAt w36 2 1 8 ∧ SpanAt w36 3 1 6 ∧ SpanAt w36 4 0 200 ∧ SpanAt w36 5 0 4611686016279904236 ∧ SpanAt w36 6 0 40 ∧ Lib.Utf8Tabs 7 8 w36 from ⟨(K36).two HG.out.1, (K36).two HG.out.2.1, (K36).two HG.out.2.2.1, (K36).two HG.out.2.2.2.1, (K36).two HG.out.2.2.2.2.1, (K36).two HG.out.2.2.2.2.2.1, (K36).two HG.out.2.2.2.2.2.2.1, (by first | exact Lib.Utf8Tabs_below HG.out.2.2.2.2.2.2.2 (K36) | exact Utf8Tabs_below HG.out.2.2.2.2.2.2.2 (K36))⟩)
        have CC := Lib.hid (childSeedP_any sd st w36 (by omega) (G36.out.2.2.2.2.2.1) (G36.out.2.2.2.2.2.2.1) (G36.out.2.2.2.2.1) (G36.out.2.2.2.2.2.2.2))
        have CCS := Lib.hid (fun w => childSeedS_any sd st w (by omega))
        generalize hashN (mixL (sd :: byL st st.size)) = X3 at *
        generalize chiB sd st = B3 at *
        unfold ib at CC CCS
        generalize vI B3 X3 = Y3 at *
        have eB3 : (B3 == B3) = true := by simp
        have eY3 : (Y3 == Y3) = true := by simp
        clear K34 k36 G33 R34
        go_wp2_with fail
        refine CC.out.mono ?_
        rintro e37 w37 ⟨rfl, k37⟩
        have K37 := K36.trans k37
        clear CC K36 k37
        go_wp2_with fail
        refine (CCS.out _).mono ?_
        rintro e38 w38 ⟨rfl, k38⟩
        have K38 := K37.trans k38
        clear CCS K37 k38
        go_wp2_with fail
        go_ret
        exact ⟨rfl, K38⟩
      · clear C4 C2
        try clear CAL
        try clear CAS
        try clear CSW
        go_wp2_with fail
        refine (drawGreatestOf_any A2 n2 c2 w5 (HB2.out.keep K5) h2).mono ?_
        rintro e30 w30 ⟨gk, gx, rfl, k30⟩
        have K30 := K5.trans k30
        have G30 := Lib.hid (show SpanAt w30 0 0 8 ∧ SpanAt w30 1 (-100) 100 ∧ SpanAt w30 2 1 8 ∧ SpanAt w30 3 1 6 ∧ SpanAt w30 4 0 200 ∧ SpanAt w30 5 0 4611686016279904236 ∧ SpanAt w30 6 0 40 ∧ Lib.Utf8Tabs 7 8 w30 from ⟨(K30).two HG.out.1, (K30).two HG.out.2.1, (K30).two HG.out.2.2.1, (K30).two HG.out.2.2.2.1, (K30).two HG.out.2.2.2.2.1, (K30).two HG.out.2.2.2.2.2.1, (K30).two HG.out.2.2.2.2.2.2.1, (by first | exact Lib.Utf8Tabs_below HG.out.2.2.2.2.2.2.2 (K30) | exact Utf8Tabs_below HG.out.2.2.2.2.2.2.2 (K30))⟩)
        have CG := Lib.hid (greatestOfP_any gk gx w30 (G30.out.2.2.1) (G30.out.2.2.2.1))
        have CGS := Lib.hid (fun w => greatestOfS_any gk gx w)
        generalize greN gk gx = X1 at *
        generalize greB gk gx = B1 at *
        unfold ib at CG CGS
        generalize vI B1 X1 = Y1 at *
        have eB1 : (B1 == B1) = true := by simp
        have eY1 : (Y1 == Y1) = true := by simp
        go_wp2_with fail
        refine CG.out.mono ?_
        rintro e31 w31 ⟨rfl, k31⟩
        have K31 := K30.trans k31
        clear CG k31 K30 k30
        go_wp2_with fail
        refine (CGS.out _).mono ?_
        rintro e32 w32 ⟨rfl, rfl⟩
        clear CGS
        go_wp2_with fail
        refine (drawMixNumbers_any A2 n2 c2 w31 (HB2.out.keep K31) h2).mono ?_
        rintro e33 w33 ⟨v33, L, rfl, r33, hL, k33⟩
        have K33 := K31.trans k33
        have G33 := Lib.hid (show SpanAt w33 0 0 8 ∧ SpanAt w33 1 (-100) 100 ∧ SpanAt w33 2 1 8 ∧ SpanAt w33 3 1 6 ∧ SpanAt w33 4 0 200 ∧ SpanAt w33 5 0 4611686016279904236 ∧ SpanAt w33 6 0 40 ∧ Lib.Utf8Tabs 7 8 w33 from ⟨(K33).two HG.out.1, (K33).two HG.out.2.1, (K33).two HG.out.2.2.1, (K33).two HG.out.2.2.2.1, (K33).two HG.out.2.2.2.2.1, (K33).two HG.out.2.2.2.2.2.1, (K33).two HG.out.2.2.2.2.2.2.1, (by first | exact Lib.Utf8Tabs_below HG.out.2.2.2.2.2.2.2 (K33) | exact Utf8Tabs_below HG.out.2.2.2.2.2.2.2 (K33))⟩)
        have CM := Lib.hid (fun w h g => mixNumbersP_any v33 L w h (by omega) g)
        have CMS := Lib.hid (fun w h => mixNumbersS_any v33 L w h (by omega))
        have R33 := Lib.hid r33
        generalize hashN (mixL L) = X2 at *
        generalize mixB L = B2 at *
        unfold ib at CM CMS
        generalize vI B2 X2 = Y2 at *
        have eB2 : (B2 == B2) = true := by simp
        have eY2 : (Y2 == Y2) = true := by simp
        clear r33 K31 k33 G30
        go_wp2_with fail
        refine (CM.out _ R33.out (G33.out.2.2.2.2.1)).mono ?_
        rintro e34 w34 ⟨rfl, k34⟩
        have K34 := K33.trans k34
        have R34 := Lib.hid (R33.out.keep k34)
        clear CM K33 k34 R33
        go_wp2_with fail
        refine (CMS.out _ R34.out).mono ?_
        rintro e35 w35 ⟨rfl, rfl⟩
        clear CMS
        go_wp2_with fail
        refine (drawChildSeed_any A2 n2 c2 w34 (HB2.out.keep K34) h2).mono ?_
        rintro e36 w36 ⟨sd, st, rfl, hst, k36⟩
        have K36 := K34.trans k36
        have G36 := Lib.hid (show SpanAt w36 0 0 8 ∧ SpanAt w36 1 (-100) 100 ∧ SpanAt w36 2 1 8 ∧ SpanAt w36 3 1 6 ∧ SpanAt w36 4 0 200 ∧ SpanAt w36 5 0 4611686016279904236 ∧ SpanAt w36 6 0 40 ∧ Lib.Utf8Tabs 7 8 w36 from ⟨(K36).two HG.out.1, (K36).two HG.out.2.1, (K36).two HG.out.2.2.1, (K36).two HG.out.2.2.2.1, (K36).two HG.out.2.2.2.2.1, (K36).two HG.out.2.2.2.2.2.1, (K36).two HG.out.2.2.2.2.2.2.1, (by first | exact Lib.Utf8Tabs_below HG.out.2.2.2.2.2.2.2 (K36) | exact Utf8Tabs_below HG.out.2.2.2.2.2.2.2 (K36))⟩)
        have CC := Lib.hid (childSeedP_any sd st w36 (by omega) (G36.out.2.2.2.2.2.1) (G36.out.2.2.2.2.2.2.1) (G36.out.2.2.2.2.1) (G36.out.2.2.2.2.2.2.2))
        have CCS := Lib.hid (fun w => childSeedS_any sd st w (by omega))
        generalize hashN (mixL (sd :: byL st st.size)) = X3 at *
        generalize chiB sd st = B3 at *
        unfold ib at CC CCS
        generalize vI B3 X3 = Y3 at *
        have eB3 : (B3 == B3) = true := by simp
        have eY3 : (Y3 == Y3) = true := by simp
        clear K34 k36 G33 R34
        go_wp2_with fail
        refine CC.out.mono ?_
        rintro e37 w37 ⟨rfl, k37⟩
        have K37 := K36.trans k37
        clear CC K36 k37
        go_wp2_with fail
        refine (CCS.out _).mono ?_
        rintro e38 w38 ⟨rfl, k38⟩
        have K38 := K37.trans k38
        clear CCS K37 k38
        go_wp2_with fail
        go_ret
        exact ⟨rfl, K38⟩
    · skip
      go_wp2_with fail
      refine (C3.out _ (HGK.out _ K3)).mono ?_
      rintro e4 w4 ⟨rfl, k4⟩
      have K4 := K3.trans k4
      clear C3 k4
      go_wp2_with fail
      refine (CAS.out _).mono ?_
      rintro e5 w5 ⟨rfl, k5⟩
      have K5 := K4.trans k5
      clear K4 k5
      by_cases hm100 : m < 100
      · obtain ⟨Ab, eAb, C6⟩ := C4.out hm100 w5 (HGK.out _ K5)
        have HC6 := Lib.hid C6
        clear C6
        go_wp2_with fail
        refine HC6.out.mono ?_
        rintro e6 w6 ⟨rfl, k6⟩
        have K6 := K5.trans k6
        clear HC6 k6 K5 C4 C2
        try clear CAL
        try clear CAS
        try clear CSW
        go_wp2_with fail
        refine (drawGreatestOf_any A2 n2 c2 w6 (HB2.out.keep K6) h2).mono ?_
        rintro e30 w30 ⟨gk, gx, rfl, k30⟩
        have K30 := K6.trans k30
        have G30 := Lib.hid (show SpanAt w30 0 0 8 ∧ SpanAt w30 1 (-100) 100 ∧ SpanAt w30 2 1 8 ∧ SpanAt w30 3 1 6 ∧ SpanAt w30 4 0 200 ∧ SpanAt w30 5 0 4611686016279904236 ∧ SpanAt w30 6 0 40 ∧ Lib.Utf8Tabs 7 8 w30 from ⟨(K30).two HG.out.1, (K30).two HG.out.2.1, (K30).two HG.out.2.2.1, (K30).two HG.out.2.2.2.1, (K30).two HG.out.2.2.2.2.1, (K30).two HG.out.2.2.2.2.2.1, (K30).two HG.out.2.2.2.2.2.2.1, (by first | exact Lib.Utf8Tabs_below HG.out.2.2.2.2.2.2.2 (K30) | exact Utf8Tabs_below HG.out.2.2.2.2.2.2.2 (K30))⟩)
        have CG := Lib.hid (greatestOfP_any gk gx w30 (G30.out.2.2.1) (G30.out.2.2.2.1))
        have CGS := Lib.hid (fun w => greatestOfS_any gk gx w)
        generalize greN gk gx = X1 at *
        generalize greB gk gx = B1 at *
        unfold ib at CG CGS
        generalize vI B1 X1 = Y1 at *
        have eB1 : (B1 == B1) = true := by simp
        have eY1 : (Y1 == Y1) = true := by simp
        go_wp2_with fail
        refine CG.out.mono ?_
        rintro e31 w31 ⟨rfl, k31⟩
        have K31 := K30.trans k31
        clear CG k31 K30 k30
        go_wp2_with fail
        refine (CGS.out _).mono ?_
        rintro e32 w32 ⟨rfl, rfl⟩
        clear CGS
        go_wp2_with fail
        refine (drawMixNumbers_any A2 n2 c2 w31 (HB2.out.keep K31) h2).mono ?_
        rintro e33 w33 ⟨v33, L, rfl, r33, hL, k33⟩
        have K33 := K31.trans k33
        have G33 := Lib.hid (show SpanAt w33 0 0 8 ∧ SpanAt w33 1 (-100) 100 ∧ SpanAt w33 2 1 8 ∧ SpanAt w33 3 1 6 ∧ SpanAt w33 4 0 200 ∧ SpanAt w33 5 0 4611686016279904236 ∧ SpanAt w33 6 0 40 ∧ Lib.Utf8Tabs 7 8 w33 from ⟨(K33).two HG.out.1, (K33).two HG.out.2.1, (K33).two HG.out.2.2.1, (K33).two HG.out.2.2.2.1, (K33).two HG.out.2.2.2.2.1, (K33).two HG.out.2.2.2.2.2.1, (K33).two HG.out.2.2.2.2.2.2.1, (by first | exact Lib.Utf8Tabs_below HG.out.2.2.2.2.2.2.2 (K33) | exact Utf8Tabs_below HG.out.2.2.2.2.2.2.2 (K33))⟩)
        have CM := Lib.hid (fun w h g => mixNumbersP_any v33 L w h (by omega) g)
        have CMS := Lib.hid (fun w h => mixNumbersS_any v33 L w h (by omega))
        have R33 := Lib.hid r33
        generalize hashN (mixL L) = X2 at *
        generalize mixB L = B2 at *
        unfold ib at CM CMS
        generalize vI B2 X2 = Y2 at *
        have eB2 : (B2 == B2) = true := by simp
        have eY2 : (Y2 == Y2) = true := by simp
        clear r33 K31 k33 G30
        go_wp2_with fail
        refine (CM.out _ R33.out (G33.out.2.2.2.2.1)).mono ?_
        rintro e34 w34 ⟨rfl, k34⟩
        have K34 := K33.trans k34
        have R34 := Lib.hid (R33.out.keep k34)
        clear CM K33 k34 R33
        go_wp2_with fail
        refine (CMS.out _ R34.out).mono ?_
        rintro e35 w35 ⟨rfl, rfl⟩
        clear CMS
        go_wp2_with fail
        refine (drawChildSeed_any A2 n2 c2 w34 (HB2.out.keep K34) h2).mono ?_
        rintro e36 w36 ⟨sd, st, rfl, hst, k36⟩
        have K36 := K34.trans k36
        have G36 := Lib.hid (show SpanAt w36 0 0 8 ∧ SpanAt w36 1 (-100) 100 ∧ SpanAt w36 2 1 8 ∧ SpanAt w36 3 1 6 ∧ SpanAt w36 4 0 200 ∧ SpanAt w36 5 0 4611686016279904236 ∧ SpanAt w36 6 0 40 ∧ Lib.Utf8Tabs 7 8 w36 from ⟨(K36).two HG.out.1, (K36).two HG.out.2.1, (K36).two HG.out.2.2.1, (K36).two HG.out.2.2.2.1, (K36).two HG.out.2.2.2.2.1, (K36).two HG.out.2.2.2.2.2.1, (K36).two HG.out.2.2.2.2.2.2.1, (by first | exact Lib.Utf8Tabs_below HG.out.2.2.2.2.2.2.2 (K36) | exact Utf8Tabs_below HG.out.2.2.2.2.2.2.2 (K36))⟩)
        have CC := Lib.hid (childSeedP_any sd st w36 (by omega) (G36.out.2.2.2.2.2.1) (G36.out.2.2.2.2.2.2.1) (G36.out.2.2.2.2.1) (G36.out.2.2.2.2.2.2.2))
        have CCS := Lib.hid (fun w => childSeedS_any sd st w (by omega))
        generalize hashN (mixL (sd :: byL st st.size)) = X3 at *
        generalize chiB sd st = B3 at *
        unfold ib at CC CCS
        generalize vI B3 X3 = Y3 at *
        have eB3 : (B3 == B3) = true := by simp
        have eY3 : (Y3 == Y3) = true := by simp
        clear K34 k36 G33 R34
        go_wp2_with fail
        refine CC.out.mono ?_
        rintro e37 w37 ⟨rfl, k37⟩
        have K37 := K36.trans k37
        clear CC K36 k37
        go_wp2_with fail
        refine (CCS.out _).mono ?_
        rintro e38 w38 ⟨rfl, k38⟩
        have K38 := K37.trans k38
        clear CCS K37 k38
        go_wp2_with fail
        go_ret
        exact ⟨rfl, K38⟩
      · exfalso
        omega

set_option maxRecDepth 100000 in
theorem contract (H : Type) (enc : TypeId × Value → H) (W : World) (base : Nat) (args : Array Value) (ds gs : List (DataW H)) (before : List MemPlace)
    (hval : ∀ (j : Nat) t v, Tryd.f3.params[j]? = some t → args[j]? = some v → Value.okWide Tryd.prog W .any base t v)
    (hW : DataW.Whole enc Tryd.prog Tryd.f3.params.toList Rows.fnSumsSpec.vars false W args.toList ds gs before) (hL : laidMetH Tryd.prog Rows.fnSumsRow.laid W) :
    Calls Tryd.prog 3 args W fun e W' => ∃ v, e = .returned v ∧ Rows.fnSumsSpec.post enc Tryd.prog Tryd.f3 false true false false W args v W' := by
  have hW' := hW
  obtain ⟨p, q, hA0, hV, rfl, hfz, hnd⟩ := hW
  have hA : DataW.TrodAll enc Tryd.prog W 0 (fun _ => true) true Tryd.f3.params.toList args.toList ds p := hA0
  rw [Tryd.params3] at hA hval
  obtain ⟨v0, v1, d0, d1, p0, p1, rfl, rfl, rfl, h0, h1⟩ := trodAll_two hA
  obtain ⟨_, _, _, _, _, _, _, rfl⟩ := lenvD7 (trodVars_len hV)
  obtain ⟨A0, m0, q0, rfl, hr0, hm0⟩ := rdBy_of_trod (hval 0 22 v0 rfl rfl) h0
  obtain ⟨A1, m1, q1, rfl, hr1, hm1⟩ := rdBy_of_trod (hval 1 22 v1 rfl rfl) h1
  refine (walk A0 A1 m0 q0 m1 q1 W hr0 hr1 hm0 hm1 (laidFnSums hL)).mono fun e W' ⟨he, hg⟩ => ?_
  subst he
  exact ⟨_, rfl, law_post hW' laidOut (by kernel_rfl) (by kernel_rfl) (by kernel_rfl) Tryd.underlying4 rfl hg⟩

theorem laid_met (os : Os) : laidMet Tryd.prog Rows.fnSumsRow.laid ((laidWorldDi os).forCall (fun _ _ => 0) ⟨#[], #[.slice none 0 0, .slice none 0 0], []⟩).memory :=
  laidMet_of_run' 8 (by kernel_rfl) (by kernel_rfl)
theorem reads (os : Os) {H : Type} (enc : TypeId × Value → H) : ∃ ds gs places, DataW.whole enc Tryd.prog ((laidWorldDi os).forCall (fun _ _ => 0) ⟨#[], #[.slice none 0 0, .slice none 0 0], []⟩).memory Tryd.f3.params.toList Rows.fnSumsSpec.vars false #[.slice none 0 0, .slice none 0 0].toList 8 = some (ds, gs, places) :=
  ⟨[.nil, .nil], [Rows.laid_loop_example_g00886_impl_diceSpan, Rows.laid_loop_example_g00886_impl_diceSumSpan, Rows.laid_loop_example_g00886_impl_someDiceSpan, Rows.laid_loop_example_g00886_impl_faceSpan, Rows.laid_loop_example_g00886_impl_mixedSpan, Rows.laid_loop_example_g00886_impl_seedSpan, Rows.laid_loop_example_g00886_impl_labelSpan], MemPlace.row ⟨0, 0, none⟩ 2 ++ (MemPlace.row ⟨1, 0, none⟩ 2 ++ (MemPlace.row ⟨2, 0, none⟩ 2 ++ (MemPlace.row ⟨3, 0, none⟩ 2 ++ (MemPlace.row ⟨4, 0, none⟩ 2 ++ (MemPlace.row ⟨5, 0, none⟩ 2 ++ (MemPlace.row ⟨6, 0, none⟩ 2)))))), by kernel_rfl⟩

set_option maxRecDepth 100000 in
theorem lifted (os : Os) (started : os.Started) (H : Type) (enc : TypeId × Value → H) (F : Stop.Interp) :
    ReturnsInHanded {} Tryd.checked os 3 .any ((OpenSpec.ofChange Rows.fnSumsSpec).preRow enc Tryd.prog Tryd.f3 Rows.fnSumsRow.domain false Rows.fnSumsRow.laid) (((OpenSpec.ofChange Rows.fnSumsSpec).at F).post enc Tryd.prog Tryd.f3 false true false false) := by
  obtain ⟨ds, gs, places, hx⟩ := reads os enc
  refine returnsInHanded_of_row (C := Tryd.checked) (s := OpenSpec.ofChange Rows.fnSumsSpec) own started (by kernel_rfl) Tryd.func3
    (witness_row_at (enc := enc) (C := Tryd.checked) false (laidWorldDi os) #[.slice none 0 0, .slice none 0 0] rfl (by kernel_rfl) (by kernel_rfl) (by kernel_rfl)
      (OpenSpec.preRow_of_cond 8 hx (by kernel_rfl) (fun k hk => by cases hk) (by kernel_rfl) (laid_met os))) ?_
  intro W base args ds gs before hval hW _ _ _ hL _ _
  exact contract H enc W base args ds gs before hval hW hL

theorem said : Rows.FnSumsSaid :=
  OpenClaim.holds_of_cond 3 Tryd.f3 rfl rfl rfl rfl rfl rfl rfl ⟨rfl, rfl, rfl, rfl, rfl⟩ rfl rfl rfl rfl rfl (by kernel_rfl) Tryd.func3 (by kernel_rfl)
    (of_decide_eq_true (by kernel_rfl)) (by unfold Func.isWrapper; first | (rw [if_pos (by decide +kernel)]; kernel_rfl) | (rw [if_neg (by decide +kernel)]; exact ⟨rfl, rfl⟩))
    (fun os started H enc _ F => by rw [OpenClaim.pre_eq_preRow]; exact lifted os started H enc F)

theorem plain (f : FuncId) (fn : Func) (hf : Tryd.pinned.checked.prog.funcNamed "loop.example/g00886/laws.FnSums" = some f) (hfn : Tryd.pinned.checked.prog.funcs[f]? = some fn) :
    false = Tryd.pinned.checked.prog.looks [] ∧ ∀ (j : Nat) t, fn.params[j]? = some t → Tryd.pinned.checked.prog.wantsStandIn t = false := by
  obtain rfl : f = 3 := Option.some.inj ((show Tryd.prog.funcNamed "loop.example/g00886/laws.FnSums" = some 3 by kernel_rfl).symm.trans hf) |>.symm
  obtain rfl : fn = Tryd.f3 := (Option.some.inj (Tryd.func3.symm.trans hfn)).symm
  refine ⟨by kernel_rfl, fun j t ht => ?_⟩
  rw [Tryd.params3] at ht
  have hm := Array.mem_of_getElem? ht
  simp only [List.mem_toArray, List.mem_cons, List.not_mem_nil, or_false] at hm
  rcases hm with rfl | rfl
  · exact (show Tryd.prog.wantsStandIn 22 = false by kernel_rfl)
  · exact (show Tryd.prog.wantsStandIn 22 = false by kernel_rfl)

/-- The card: the row, with what it lists tied to the program's text. -/
theorem card : Rows.FnSumsCardSaid :=
  Claim7.holds_tied_plain_at .later [] _ _ _ _ said (fun _ h => by cases h) (by kernel_rfl) (fun _ h => by cases h) fnSums_row_tie rfl ⟨rfl, rfl⟩ (by kernel_rfl) rfl plain (by kernel_rfl)
#print axioms card

end Go.Proofs.YtmhkjcgdjoeldaaDoor.fnSumsLaw
