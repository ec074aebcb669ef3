/-
  The law on lines holds at every argument: the program's line is the reference's, the line back has the same hexes, each hex of step i has distance i from the beginning and n - i from the end. No condition.
-/
import Derived.Test.YtpfnljhnjembpaaLaw
import Derived.Test.YtpfnljhnjembpaaLineMath
import Derived.Test.YtpfnljhnjembpaaCurHex
import Derived.Test.YtpfnljhnjembpaaSame
import Derived.ChangeSlices
import Derived.OpenShut
namespace Go.Proofs.Ytpfnljhnjembpaa.fnLinesLaw
open Go.ChangeShapes Go.WideShapes Go.ChangeAt Go.RowKit Go.Joins

/-- What the law asks of a line and of the line back. -/
theorem facts {aq ar bq br : Int} {N : Nat} (ha : okH aq ar = true) (hb : okH bq br = true) (hN : (N : Int) = distH aq ar bq br) :
    (∀ (i : Nat) l, (lineF aq ar bq br (onep N) (N + 1))[i]? = some l → ∀ z ∈ l, okH z.1 z.2 = true ∧ distH aq ar z.1 z.2 = i ∧ distH z.1 z.2 bq br = (N : Int) - i) ∧
    (∀ i : Nat, i ≤ N → (lineF bq br aq ar (onep N) (N + 1))[N - i]? = (lineF aq ar bq br (onep N) (N + 1))[i]?) := by
  have A1 := okH_true ha
  have B1 := okH_true hb
  by_cases h0 : N = 0
  · subst h0
    have hab : aq = bq ∧ ar = br := by
      have := dist_inv (show ((0 : Nat) : Int) = distI (bq - aq) (br - ar) from hN)
      omega
    obtain ⟨rfl, rfl⟩ := hab
    have e : lineF aq ar aq ar (onep (0 : Nat)) (0 + 1) = [[(aq, ar)]] := by
      simp only [lineF, onep]
      rw [if_pos (by decide)]
      simp [cellsL_one]
    refine ⟨fun i l hl z hz => ?_, fun i hi => ?_⟩
    · rw [e] at hl
      match i, hl with
      | 0, hl =>
        simp at hl
        subst hl
        simp at hz
        subst hz
        refine ⟨ha, ?_, ?_⟩
        · rw [← hN]
        · rw [← hN]
          simp
    · obtain rfl : i = 0 := by omega
      rfl
  · have hp : onep N = N := by unfold onep; rw [if_neg (by omega)]
    rw [hp]
    refine ⟨fun i l hl z hz => ?_, fun i hi => ?_⟩
    · have hi : i < N + 1 := by
        have := (List.getElem?_eq_some_iff.1 hl).1
        rwa [lineF_len] at this
      rw [lineF_at _ _ _ _ _ _ _ hi] at hl
      obtain rfl := Option.some.inj hl
      exact onL_dist hN (by omega) (by omega) A1 B1 (onL_of (by omega) hN (by omega) (by omega) hz)
    · rw [lineF_at _ _ _ _ _ _ _ (by omega), lineF_at _ _ _ _ _ _ _ (by omega), back_pt aq bq N i hi, back_pt ar br N i hi]

set_option maxRecDepth 100000 in
set_option maxHeartbeats 16000000 in
theorem walk (A B : Option Addr) (n m c d : Nat) (w : World) (hb : RdBy w A n) (hn : n ≤ 9223372036854775807) :
    Calls Try.prog 3 #[.slice A n c, .slice B m d] w fun e w' => e = .returned (.bool true) ∧ Kp w w' := by
  by_cases hbig : n + m ≤ 1048576
  · have CD := drawLineOf_any A n c w hb (by omega)
    unfold TwoPost at CD
    have HC := Lib.hid CD
    have CBig := Lib.hid (big_no A B n m c d w hbig)
    clear CD hb hn
    go_enter Try.func3, Try.ntmps3
    go_wp2_with fail
    refine CBig.out.mono ?_
    rintro e0 w0 ⟨rfl, rfl⟩
    go_wp2_with fail
    refine HC.out.mono ?_
    rintro e1 w1 ⟨aq, ar, bq, br, rfl, bd1, bd2, k1⟩
    have K1 : Kp w ((w1.alloc (.cells #[.int .i64 aq, .int .i64 ar] 25)).alloc (.cells #[.int .i64 bq, .int .i64 br] 25)) := (k1.alloc _).alloc _
    have c1 : ((w1.alloc (.cells #[.int .i64 aq, .int .i64 ar] 25)).alloc (.cells #[.int .i64 bq, .int .i64 br] 25)).cell? ⟨w1.heap.size, 0, none⟩ = some (.int .i64 aq) ∧ ((w1.alloc (.cells #[.int .i64 aq, .int .i64 ar] 25)).alloc (.cells #[.int .i64 bq, .int .i64 br] 25)).cell? ⟨w1.heap.size, 1, none⟩ = some (.int .i64 ar) ∧ ((w1.alloc (.cells #[.int .i64 aq, .int .i64 ar] 25)).alloc (.cells #[.int .i64 bq, .int .i64 br] 25)).cell? ⟨w1.heap.size + 1, 0, none⟩ = some (.int .i64 bq) ∧ ((w1.alloc (.cells #[.int .i64 aq, .int .i64 ar] 25)).alloc (.cells #[.int .i64 bq, .int .i64 br] 25)).cell? ⟨w1.heap.size + 1, 1, none⟩ = some (.int .i64 br) := ⟨by simp [go_sem], by simp [go_sem], by simp [go_sem], by simp [go_sem]⟩
    clear k1 HC CBig
    have CI : Hid (∀ aq ar bq br w, Calls Try.prog 7 #[hx aq ar, hx bq br] w fun e w' => ∃ v vs, e = .returned (.tuple #[v, .bool (ok2 aq ar bq br)]) ∧ OwnHH w' w.heap.size v (if ok2 aq ar bq br = true then lineL aq ar bq br else []) vs ∧ Kp w w') := Lib.hid fun aq ar bq br w => lineOf_any aq ar bq br w
    have CS : Hid (∀ w, Calls Try.prog 8 #[hx aq ar, hx bq br] w fun e w' => ∃ v vs, e = .returned (.tuple #[v, .bool (ok2 aq ar bq br)]) ∧ OwnHH w' w.heap.size v (if ok2 aq ar bq br = true then lineL aq ar bq br else []) vs ∧ Kp w w') := Lib.hid fun w => specLineOf_any aq ar bq br w
    go_wp2_with fail
    generalize w1.heap.size = b5 at *
    generalize ((w1.alloc (.cells #[.int .i64 aq, .int .i64 ar] 25)).alloc (.cells #[.int .i64 bq, .int .i64 br] 25)) = W1 at *
    cases hok : ok2 aq ar bq br
    · have CI0 := CI.out aq ar bq br
      have CS0 := CS.out
      rw [hok] at CI0 CS0
      have CI1 := Lib.hid CI0
      have CS1 := Lib.hid CS0
      clear CI CS CI0 CS0 hok
      refine (CI1.out _).mono ?_
      rintro e2 w2 ⟨v2, vs2, rfl, o2, k2⟩
      have c2 := k2.four c1
      have O2 := Lib.hid o2.rd
      clear c1 o2
      go_wp2_with fail
      refine (CS1.out _).mono ?_
      rintro e3 w3 ⟨v3, vs3, rfl, o3, k3⟩
      have O3 := Lib.hid o3.rd
      have O2b := Lib.hid (O2.out.keep k3)
      clear o3 O2 c2
      go_wp2_with fail
      refine (pSameLines_same v2 v3 [] _ O2b.out O3.out (by simp) (fun l h => by cases h)).mono ?_
      rintro e4 w4 ⟨rfl, k4⟩
      go_wp2_with fail
      go_ret
      exact ⟨rfl, ((K1.trans k2).trans k3).trans k4⟩
    · have hs : okH aq ar = true ∧ okH bq br = true := by simpa [ok2] using hok
      have D1 := dist_bd hs.1 hs.2
      obtain ⟨N, hN⟩ : ∃ N : Nat, (N : Int) = distH aq ar bq br := ⟨(distH aq ar bq br).toNat, by omega⟩
      have hok' : ok2 bq br aq ar = true := by simp [ok2, hs.1, hs.2]
      have F := facts hs.1 hs.2 hN
      obtain ⟨L, hL⟩ : ∃ L, L = lineF aq ar bq br (onep N) (N + 1) := ⟨_, rfl⟩
      obtain ⟨Lb, hLb⟩ : ∃ L, L = lineF bq br aq ar (onep N) (N + 1) := ⟨_, rfl⟩
      have e1 : lineL aq ar bq br = L := by rw [hL]; exact lineL_eq hN
      have e2 : lineL bq br aq ar = Lb := by rw [hLb]; exact lineL_eq (by rw [distH_comm]; exact hN)
      have hlen : L.length = N + 1 := by rw [hL, lineF_len]
      have hlenb : Lb.length = N + 1 := by rw [hLb, lineF_len]
      have hin : ∀ l ∈ L, l.length ≤ 1000 := fun l h => by rw [hL] at h; have := lineF_in _ _ _ _ _ _ l h; omega
      rw [← hL, ← hLb] at F
      have CI1 : Hid (∀ w, Calls Try.prog 7 #[hx aq ar, hx bq br] w fun e w' => ∃ v vs, e = .returned (.tuple #[v, .bool true]) ∧ OwnHH w' w.heap.size v L vs ∧ Kp w w') := Lib.hid (by
        have := CI.out aq ar bq br
        rw [hok, e1] at this
        exact this)
      have CB1 : Hid (∀ w, Calls Try.prog 7 #[hx bq br, hx aq ar] w fun e w' => ∃ v vs, e = .returned (.tuple #[v, .bool true]) ∧ OwnHH w' w.heap.size v Lb vs ∧ Kp w w') := Lib.hid (by
        have := CI.out bq br aq ar
        rw [hok', e2] at this
        exact this)
      have CS1 : Hid (∀ w, Calls Try.prog 8 #[hx aq ar, hx bq br] w fun e w' => ∃ v vs, e = .returned (.tuple #[v, .bool true]) ∧ OwnHH w' w.heap.size v L vs ∧ Kp w w') := Lib.hid (by
        have := CS.out
        rw [hok, e1] at this
        exact this)
      have HD : Hid (∀ (i : Nat) l z, L[i]? = some l → z ∈ l → (∀ w, Calls Try.prog 11 #[hx aq ar, hx z.1 z.2] w fun e w' => e = .returned (.tuple #[.int .i64 i, .bool true]) ∧ Kp w w') ∧ (∀ w, Calls Try.prog 11 #[hx z.1 z.2, hx bq br] w fun e w' => e = .returned (.tuple #[.int .i64 ((N : Int) - i), .bool true]) ∧ Kp w w')) := Lib.hid fun i l z hl hz => by
        obtain ⟨f1, f2, f3⟩ := F.1 i l hl z hz
        refine ⟨fun w => ?_, fun w => ?_⟩
        · have := distanceOf_any aq ar z.1 z.2 w
          obtain ⟨g1, g2⟩ := distOf_yes hs.1 f1
          rw [g1, g2, f2] at this
          exact this
        · have := distanceOf_any z.1 z.2 bq br w
          obtain ⟨g1, g2⟩ := distOf_yes f1 hs.2
          rw [g1, g2, f3] at this
          exact this
      have HF := Lib.hid F.2
      have HLn := Lib.hid hlen
      have HLb := Lib.hid hlenb
      have HIn := Lib.hid hin
      have hN2 : N ≤ 160 := by omega
      clear CI CS hok hok' hs D1 hN F hL hLb e1 e2 hlen hlenb hin
      refine (CI1.out _).mono ?_
      rintro e2 w2 ⟨v2, vs2, rfl, o2, k2⟩
      have c2 := k2.four c1
      have O2 := Lib.hid o2.rd
      clear c1 o2
      go_wp2_with fail
      refine (CS1.out _).mono ?_
      rintro e3 w3 ⟨v3, vs3, rfl, o3, k3⟩
      have c3 := k3.four c2
      have O3 := Lib.hid o3.rd
      have O2b := Lib.hid (O2.out.keep k3)
      clear o3 O2 c2
      go_wp2_with fail
      refine (pSameLines_same v2 v3 L _ O2b.out O3.out (by have := HLn.out; omega) HIn.out).mono ?_
      rintro e4 w4 ⟨rfl, k4⟩
      have c4 := k4.four c3
      have O3b := Lib.hid (O3.out.keep k4)
      have K4 : Kp w w4 := ((K1.trans k2).trans k3).trans k4
      clear c3 O3 O2b K1 k2 k3 k4 CI1 CS1
      go_wp2_with fail
      refine (CB1.out _).mono ?_
      rintro e5 w5 ⟨v5, vs5, rfl, o5, k5⟩
      have c5 := k5.four c4
      have R3 := O3b.out.keep k5
      have R5 := o5.rd
      have K5 : Kp w w5 := K4.trans k5
      obtain ⟨A3, x3, z3, rfl, hl3, h3, r3⟩ := R3
      obtain ⟨A5, x5, z5, hv5, hl5, h5, r5⟩ := R5
      rw [HLn.out] at h3 hl3 ⊢
      rw [HLb.out] at hv5 h5 hl5
      rw [hv5]
      have H3 := Lib.hid h3
      have H5 := Lib.hid h5
      have Q3 := Lib.hid (And.intro hl3 r3)
      have Q5 := Lib.hid (And.intro hl5 r5)
      obtain ⟨nl, hnl⟩ : ∃ nl, nl = N + 1 := ⟨_, rfl⟩
      rw [← hnl] at H3 H5 Q3 Q5 ⊢
      have HNL := Lib.hid hnl
      have hnl2 : (nl : Int) = N + 1 := by omega
      have HNI := Lib.hid hnl2
      have hnl3 : nl ≤ 161 := by omega
      have hnl4 : 1 ≤ nl := by omega
      clear c4 o5 O3b k5 K4 CB1 hl3 h3 r3 hv5 hl5 h5 r5 hnl hnl2
      go_wp2_with fail
      go_loopw [13, 14, 69] (fun _ _ i wr => ∃ k : Nat, k ≤ nl ∧ i = .int .i64 k ∧ Kp w5 wr) (fun _ _ i _ => nl - (intOf i).toNat)
      case atStart => exact ⟨0, by omega, rfl, Kp.refl _⟩
      case round =>
        obtain ⟨k, hk, rfl, kr⟩ := hrel
        by_cases hlt : k < nl
        · have hlt' : (k : Int) < nl := by omega
          obtain ⟨g3, o3, rfl, c3'⟩ := H3.out (by omega)
          obtain ⟨g5, o5, rfl, c5'⟩ := H5.out (by omega)
          obtain ⟨x, hx⟩ : ∃ x, z3[k]? = some x := ⟨z3[k]'(by have := Q3.out.1; omega), List.getElem?_eq_getElem _⟩
          obtain ⟨y, hy⟩ : ∃ y, z5[nl - 1 - k]? = some y := ⟨z5[nl - 1 - k]'(by have := Q5.out.1; omega), List.getElem?_eq_getElem _⟩
          obtain ⟨l, hl⟩ : ∃ l, L[k]? = some l := ⟨L[k]'(by have := HLn.out; have := HNL.out; omega), List.getElem?_eq_getElem _⟩
          have hlb : Lb[nl - 1 - k]? = some l := by
            have := HF.out k (by have := HNL.out; omega)
            rw [show nl - 1 - k = N - k by have := HNL.out; omega, this, hl]
          have a0 := kr.cell (c3' k x hx)
          have b0 := kr.cell (c5' (nl - 1 - k) y hy)
          have et : ((nl : Int) - 1 - k).toNat = nl - 1 - k := by omega
          have b1 : wr.cell? ⟨g5, o5 + ((nl : Int) - 1 - k).toNat, none⟩ = some y := by rw [et]; exact b0
          have b2 : wr.cell? ⟨g5, o5 + (((nl : Int) - 1).toNat - k), none⟩ = some y := by rw [show ((nl : Int) - 1).toNat - k = nl - 1 - k by omega]; exact b0
          have RX := Lib.hid ((Q3.out.2 k x l hx hl).keep kr)
          have RY := Lib.hid ((Q5.out.2 _ y l hy hlb).keep kr)
          have hll := HIn.out l (List.mem_of_getElem? hl)
          have HZ := Lib.hid (fun z (hz : z ∈ l) => HD.out k l z hl hz)
          have i0 : 0 ≤ (nl : Int) - 1 - k := by omega
          have i1 : (nl : Int) - 1 - k < nl := by omega
          obtain ⟨M, hM⟩ : ∃ M, M = (N : Int) - k := ⟨_, rfl⟩
          rw [← hM] at HZ
          have hsum : ((k : Int) + M != (nl : Int) - 1) = false := by
            have := HNI.out
            simp
            omega
          have hMb : -1000 ≤ M ∧ M ≤ 1000 := by have := HNI.out; omega
          clear c3' c5' hx hy hl hlb et hM
          go_wp2_with fail
          refine (pSameHexes_same y x l _ RY.out RX.out hll).mono ?_
          rintro e6 w6 ⟨rfl, k6⟩
          have K6 : Kp w5 w6 := kr.trans k6
          obtain ⟨Ax, cx, rfl, hcx⟩ := RX.out.keep k6
          have HX := Lib.hid hcx
          obtain ⟨ll, hlll⟩ : ∃ ll, l.length = ll := ⟨_, rfl⟩
          have HLL := Lib.hid hlll
          rw [hlll] at HX hll ⊢
          clear a0 b0 b1 b2 RX RY kr k6 hcx hlll
          go_wp2_with fail
          go_loopw [16, 17, 18, 19, 20, 87] (fun _ _ _ _ _ i wr => ∃ j : Nat, j ≤ ll ∧ i = .int .i64 j ∧ Kp w6 wr) (fun _ _ _ _ _ i _ => ll - (intOf i).toNat)
          case atStart => exact ⟨0, by omega, rfl, Kp.refl _⟩
          case round =>
            obtain ⟨j, hj, rfl, kj⟩ := hrel
            by_cases hltj : j < ll
            · have hltj' : (j : Int) < ll := by omega
              obtain ⟨gx, ox, rfl, cxx⟩ := HX.out (by omega)
              obtain ⟨z, hz⟩ : ∃ z, l[j]? = some z := ⟨l[j]'(by have := HLL.out; omega), List.getElem?_eq_getElem _⟩
              have p0 := kj.cell (cxx j z hz).1
              have p1 := kj.cell (cxx j z hz).2
              have HZ1 := Lib.hid (HZ.out z (List.mem_of_getElem? hz))
              obtain ⟨zx, zy⟩ := z
              simp only at p0 p1
              have cj := (K6.trans kj).four c5
              have ka := (Kp.refl wr).alloc (.cells #[.int .i64 zx, .int .i64 zy] 25)
              have ca := ka.four cj
              clear cxx hz
              go_wp2_with fail
              refine (HZ1.out.1 _).mono ?_
              rintro e7 w7 ⟨rfl, k7⟩
              have c7 := k7.four ca
              have h7 : w7.cell? ⟨wr.heap.size, 0, none⟩ = some (.int .i64 zx) ∧ w7.cell? ⟨wr.heap.size, 1, none⟩ = some (.int .i64 zy) := ⟨k7.cell (by simp [go_sem]), k7.cell (by simp [go_sem])⟩
              have K7 : Kp w6 w7 := (kj.trans ka).trans k7
              clear p0 p1 cj ca ka k7 kj
              go_wp2_with fail
              refine (HZ1.out.2 _).mono ?_
              rintro e8 w8 ⟨rfl, k8⟩
              have K8 : Kp w6 w8 := K7.trans k8
              clear c7 h7 k8 K7
              go_wp2_with fail
              go_roundw
              case rel => exact ⟨j + 1, by omega, by go_num, K8⟩
              case measure => simp [intOf]; omega
            · obtain rfl : j = ll := by omega
              go_wp2_with fail
              go_roundw
              case rel => exact ⟨k + 1, by omega, by go_num, K6.trans kj⟩
              case measure => simp [intOf]; omega
        · obtain rfl : k = nl := by omega
          go_wp2_with fail
          go_ret
          exact ⟨rfl, K5.trans kr⟩
  · have CBig := Lib.hid (big_yes A B n m c d w hbig hn)
    clear hb hn hbig
    go_enter Try.func3, Try.ntmps3
    go_wp2_with fail
    refine CBig.out.mono ?_
    rintro e0 w0 ⟨rfl, rfl⟩
    go_wp2_with fail
    go_ret
    exact ⟨rfl, Kp.refl _⟩

theorem cellsByte : Try.prog.cellsOf 5 = 1 := by kernel_rfl
set_option maxRecDepth 100000 in
/-- An argument that is a slice of bytes. -/
theorem rdBy_of_trod {H : Type} {enc : TypeId × Value → H} {W : World} {base : Nat} {v : Value} {d : DataW H} {p : List MemPlace}
    (hv : Value.okWide Try.prog W .any base 22 v) (h : DataW.Trod enc Try.prog W 0 (fun _ => true) true 22 v d p) : ∃ A n c, v = .slice A n c ∧ RdBy W A n ∧ n ≤ 9223372036854775807 := by
  obtain ⟨a0, len, cap, rfl⟩ := okWide_slice Try.underlying22 hv
  obtain ⟨fuel, hf⟩ := h
  rcases open_ints Try.underlying22 Try.underlying5 cellsByte hf with ⟨hcs, hx⟩ | ⟨a, len', cap', zs, hcs, _, hl, hm, hz, hx, hcell, hwz⟩
  · simp only [Value.cells, List.cons.injEq, Value.slice.injEq, and_true] at hcs
    obtain ⟨rfl, rfl, rfl⟩ := hcs
    exact ⟨none, 0, 0, rfl, fun h0 => absurd h0 (by omega), by omega⟩
  · simp only [Value.cells, List.cons.injEq, Value.slice.injEq, and_true] at hcs
    obtain ⟨rfl, rfl, rfl⟩ := hcs
    have hzl : len ≤ zs.length := by rw [hz]; simpa using hl
    refine ⟨some a, len, cap, rfl, fun h0 => ?_, by unfold maxLen at hm; omega⟩
    obtain ⟨b, off, rfl, hc⟩ := ints_at hcell (by omega)
    refine ⟨b, off, rfl, fun i hi => ?_⟩
    have hil : i < zs.length := by omega
    have hb := bounds_u8 (hwz (zs.getD i 0) (by rw [List.getD_eq_getElem?_getD, List.getElem?_eq_getElem hil]; exact List.getElem_mem hil))
    exact ⟨_, hb.1, hb.2, hc i hil⟩

set_option maxRecDepth 100000 in
theorem lifted (os : Os) (started : os.Started) (H : Type) (enc : TypeId × Value → H) :
    ReturnsInHanded {} Try.checked os 3 .any (Rows.fnLinesSpec.pre6 enc Try.prog Try.f3 Rows.fnLinesRow.domain false) (Rows.fnLinesSpec.post enc Try.prog Try.f3 false true false false) := by
  refine returnsInHanded_of_change (C := Try.checked) own started (by kernel_rfl) Try.func3
    (ChangeSpec.witness6 (enc := enc) (C := Try.checked) false ⟨#[], #[.slice none 0 0, .slice none 0 0], []⟩ 8 (by kernel_rfl) (by kernel_rfl) (by kernel_rfl) (by kernel_rfl)) ?_
  intro W base args ds gs before hval0 hW _ _
  have hval : ∀ (j : Nat) t v, Try.f3.params[j]? = some t → args[j]? = some v → Value.okWide Try.prog W .any base t v := hval0
  have hW' := hW
  obtain ⟨p, q, hA0, hV, rfl, _, _⟩ := hW
  have hA : DataW.TrodAll enc Try.prog W 0 (fun _ => true) true Try.f3.params.toList args.toList ds p := hA0
  rw [Try.params3] at hA hval
  obtain ⟨v0, v1, d0, d1, p0, p1, rfl, rfl, rfl, h0, h1⟩ := trodAll_two hA
  obtain ⟨rfl, rfl⟩ := trodVars_none hV
  obtain ⟨A0, n0, c0, rfl, hR0, hn0⟩ := rdBy_of_trod (hval 0 22 v0 rfl rfl) h0
  obtain ⟨A1, n1, c1, rfl, _, _⟩ := rdBy_of_trod (hval 1 22 v1 rfl rfl) h1
  refine (walk A0 A1 n0 n1 c0 c1 W hR0 hn0).mono fun e W' ⟨he, hg⟩ => ?_
  subst he
  exact ⟨_, rfl, law_post hW' laidOut (by kernel_rfl) (by kernel_rfl) (by kernel_rfl) Try.underlying4 rfl hg⟩

theorem proved : Rows.FnLinesSaid :=
  OpenClaim.holds_of_wide 3 Try.f3 rfl rfl rfl rfl rfl rfl rfl ⟨rfl, rfl, rfl, rfl, rfl⟩ rfl rfl rfl rfl rfl (by kernel_rfl) Try.func3 (by kernel_rfl)
    (of_decide_eq_true (by kernel_rfl)) (by unfold Func.isWrapper; first | (rw [if_pos (by decide +kernel)]; kernel_rfl) | (rw [if_neg (by decide +kernel)]; exact ⟨rfl, rfl⟩))
    (fun os started H enc _ => lifted os started H enc)
#print axioms proved
end Go.Proofs.Ytpfnljhnjembpaa.fnLinesLaw
