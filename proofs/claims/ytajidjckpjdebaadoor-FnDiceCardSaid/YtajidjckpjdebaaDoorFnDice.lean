/-
  The law on dice holds at all bytes: what is thrown, shuffled and drawn below a number at drawn seeds is the reference's; dice are faces, a shuffle has each number once, faces' counts add up. The named variables hold what the program's text lays (the card ties them).
-/
import Derived.Test.YtajidjckpjdebaaDoorSaI
import Derived.Test.YtajidjckpjdebaaDoorDiQ
import Derived.Test.YtajidjckpjdebaaDoorBoL
import Derived.Test.YtajidjckpjdebaaDoorDrN
import Derived.Test.YtajidjckpjdebaaDoorTabDd
import Derived.ChangeSlices
import Derived.OpenShut
namespace Go.Proofs.YtajidjckpjdebaaDoor.fnDiceLaw
open Go.ChangeShapes Go.WideShapes Go.ChangeAt Go.RowKit Go.Joins

theorem cellsByte : Tryd.prog.cellsOf 5 = 1 := by kernel_rfl
set_option maxRecDepth 100000 in
/-- An argument that is a slice of bytes. -/
theorem rdBy_of_trod {H : Type} {enc : TypeId × Value → H} {W : World} {base : Nat} {v : Value} {d : DataW H} {p : List MemPlace}
    (hv : Value.okWide Tryd.prog W .any base 22 v) (h : DataW.Trod enc Tryd.prog W 0 (fun _ => true) true 22 v d p) : ∃ A n c, v = .slice A n c ∧ RdBy W A n ∧ n ≤ 9223372036854775807 := by
  obtain ⟨a0, len, cap, rfl⟩ := okWide_slice Tryd.underlying22 hv
  obtain ⟨fuel, hf⟩ := h
  rcases open_ints Tryd.underlying22 Tryd.underlying5 cellsByte hf with ⟨hcs, hx⟩ | ⟨a, len', cap', zs, hcs, _, hl, hm, hz, hx, hcell, hwz⟩
  · simp only [Value.cells, List.cons.injEq, Value.slice.injEq, and_true] at hcs
    obtain ⟨rfl, rfl, rfl⟩ := hcs
    exact ⟨none, 0, 0, rfl, fun h0 => absurd h0 (by omega), by omega⟩
  · simp only [Value.cells, List.cons.injEq, Value.slice.injEq, and_true] at hcs
    obtain ⟨rfl, rfl, rfl⟩ := hcs
    have hzl : len ≤ zs.length := by rw [hz]; simpa using hl
    refine ⟨some a, len, cap, rfl, fun h0 => ?_, by unfold maxLen at hm; omega⟩
    obtain ⟨b, off, rfl, hc⟩ := ints_at hcell (by omega)
    refine ⟨b, off, rfl, fun i hi => ?_⟩
    have hil : i < zs.length := by omega
    have hb := bounds_u8 (hwz (zs.getD i 0) (by rw [List.getD_eq_getElem?_getD, List.getElem?_eq_getElem hil]; exact List.getElem_mem hil))
    exact ⟨_, hb.1, hb.2, hc i hil⟩
theorem big_any (A1 A2 : Option Addr) (n1 c1 n2 c2 : Nat) (w : World) (h1 : n1 ≤ 9223372036854775807) (h2 : n2 ≤ 9223372036854775807) :
    Calls Tryd.prog 4 #[.slice A1 n1 c1, .slice A2 n2 c2] w fun e w' => e = .returned (.bool (decide (¬ n1 + n2 ≤ 1048576))) ∧ w = w' := by
  by_cases ha : n1 ≤ 1048576
  · have ha' : (n1 : Int) ≤ 1048576 := by omega
    have ew : IntKind.i64.wrap (1048576 - (n1 : Int)) = 1048576 - (n1 : Int) := IntWalk.i64_in _ (by omega)
    by_cases hb : n1 + n2 ≤ 1048576
    · have hb' : (n2 : Int) ≤ 1048576 - (n1 : Int) := by omega
      have hO : decide (¬ n1 + n2 ≤ 1048576) = false := by simpa using hb
      rw [hO]
      clear hO
      go_enter Tryd.func4, Tryd.ntmps4
      go_wp2_with fail
      go_ret
      exact ⟨by first | rfl | exact ret_bool (by simp; omega), rfl⟩
    · have hb' : 1048576 - (n1 : Int) < (n2 : Int) := by omega
      have hO : decide (¬ n1 + n2 ≤ 1048576) = true := by simpa using hb
      rw [hO]
      clear hO
      go_enter Tryd.func4, Tryd.ntmps4
      go_wp2_with fail
      go_ret
      exact ⟨by first | rfl | exact ret_bool (by simp; omega), rfl⟩
  · have ha' : 1048576 < (n1 : Int) := by omega
    have hO : decide (¬ n1 + n2 ≤ 1048576) = true := by simp; omega
    rw [hO]
    clear hO
    go_enter Tryd.func4, Tryd.ntmps4
    go_wp2_with fail
    go_ret
    exact ⟨by first | rfl | exact ret_bool (by simp; omega), rfl⟩

theorem die_in {s i n : Int} {k : Nat} (h : dicB s i n = true) (hk : (k : Int) < n) : dieB s (i + k) = true ∧ isI64 (i + k) := by
  simp only [dicB, Bool.and_eq_true, decide_eq_true_eq] at h
  have h1 := sp_bd h.2.1
  have h2 := sp_bd h.2.2.1
  have : numB (i + k) = true := by simp [numB, spB]; omega
  exact ⟨by simp [dieB, h.1, this], by unfold isI64; omega⟩
theorem dic_len (s i n : Int) : ∀ k, k < (if dicB s i n = true then diceL s i n.toNat else []).length → dicB s i n = true ∧ (k : Int) < n ∧ (if dicB s i n = true then diceL s i n.toNat else [])[k]? = some (dieN s (i + k)) := fun k hk => by
  by_cases h : dicB s i n = true
  · rw [if_pos h, diceL_len] at hk
    rw [if_pos h]
    exact ⟨h, by omega, diceL_get s i n.toNat k hk⟩
  · rw [if_neg h] at hk
    simp at hk
/-- What has come up among the first q numbers. -/
def seenF (l : List Int) (q : Nat) (x : Nat) : Bool := decide (∃ j, j < q ∧ getI l j = (x : Int))
theorem seenF_no {l : List Int} {n q : Nat} (h : Inj n l) (hq : q < n) {X : Nat} (hX : getI l q = (X : Int)) : seenF l q X = false := by
  unfold seenF
  rw [decide_eq_false_iff_not]
  rintro ⟨j, hj, e⟩
  have := h.2.2 j q (by omega) hq (e.trans hX.symm)
  omega
theorem seenF_more {l : List Int} {q : Nat} {X : Nat} (hX : getI l q = (X : Int)) (j : Nat) : (if j = X then true else seenF l q j) = seenF l (q + 1) j := by
  unfold seenF
  by_cases h : j = X
  · rw [if_pos h]
    exact (decide_eq_true ⟨q, by omega, by rw [hX, h]⟩).symm
  · rw [if_neg h]
    apply decide_eq_decide.2
    constructor
    · rintro ⟨i, hi, e⟩
      exact ⟨i, by omega, e⟩
    · rintro ⟨i, hi, e⟩
      refine ⟨i, ?_, e⟩
      rcases Nat.lt_or_ge i q with h1 | h1
      · exact h1
      · obtain rfl : i = q := by omega
        omega
theorem shu_inj (s n : Int) : Inj (if shuB s n = true then shuL s n.toNat else []).length (if shuB s n = true then shuL s n.toNat else []) := by
  by_cases h : shuB s n = true
  · rw [if_pos h, shuL_len]
    exact inj_shuL s n.toNat
  · rw [if_neg h]
    exact ⟨rfl, fun j hj => by simp at hj, fun i j hi => by simp at hi⟩
theorem shu_len (s n : Int) : (if shuB s n = true then shuL s n.toNat else []).length ≤ 40 := by
  split
  · rename_i h
    have h2 : spB 0 40 n = true := by simp only [shuB, Bool.and_eq_true] at h; exact h.2
    have := sp_bd h2
    rw [shuL_len]
    omega
  · simp
theorem dic_short (s i n : Int) : (if dicB s i n = true then diceL s i n.toNat else []).length ≤ 8 := by
  split
  · rename_i h
    simp only [dicB, Bool.and_eq_true] at h
    have := sp_bd h.2.2.1
    rw [diceL_len]
    omega
  · simp
theorem fac_facts (s n : Int) : (if facB s n = true then facL s n.toNat else []).length ≤ 600 ∧ NB 1000000 (if facB s n = true then facL s n.toNat else []) ∧ (facB s n = true → sumT (if facB s n = true then facL s n.toNat else []) (if facB s n = true then facL s n.toNat else []).length = n) := by
  by_cases h : facB s n = true
  · have h2 : spB 0 600 n = true := by simp only [facB, Bool.and_eq_true] at h; exact h.2
    have := sp_bd h2
    rw [if_pos h]
    refine ⟨by rw [facL_len]; omega, (facL_bd s n.toNat).le (by omega), fun _ => ?_⟩
    rw [facL_len, facL_sum]
    omega
  · rw [if_neg h]
    exact ⟨by simp, fun k x hx => by simp at hx, fun h9 => absurd h9 h⟩
theorem bel_facts {s i n : Int} (h : belB s i n = true) : 0 ≤ belN s i n ∧ belN s i n < n := by
  simp only [belB, Bool.and_eq_true] at h
  exact belN_bd s i n (sp_bd h.2.2).1

set_option maxRecDepth 100000 in
set_option maxHeartbeats 32000000 in
theorem walk (A1 A2 : Option Addr) (n1 c1 n2 c2 : Nat) (w : World) (hb1 : RdBy w A1 n1) (hb2 : RdBy w A2 n2) (h1 : n1 ≤ 9223372036854775807) (h2 : n2 ≤ 9223372036854775807) (hg : SpanAt w 0 0 4611686016279904236 ∧ SpanAt w 1 0 1000000 ∧ SpanAt w 2 0 8 ∧ SpanAt w 3 0 40 ∧ SpanAt w 4 1 1000000 ∧ SpanAt w 5 0 600) :
    Calls Tryd.prog 3 #[.slice A1 n1 c1, .slice A2 n2 c2] w fun e' w' => e' = .returned (.bool true) ∧ Kp w w' := by
  have CB := Lib.hid (big_any A1 A2 n1 c1 n2 c2 w h1 h2)
  have HB1 := Lib.hid hb1
  have HB2 := Lib.hid hb2
  have HG := Lib.hid hg
  clear hb1 hb2 hg
  by_cases hbig : ¬ n1 + n2 ≤ 1048576
  · rw [decide_eq_true hbig] at CB
    go_enter Tryd.func3, Tryd.ntmps3
    go_wp2_with fail
    refine CB.out.mono ?_
    rintro e0 w0 ⟨rfl, rfl⟩
    go_wp2_with fail
    go_ret
    exact ⟨rfl, Kp.refl _⟩
  rw [decide_eq_false hbig] at CB
  clear hbig
  go_enter Tryd.func3, Tryd.ntmps3
  go_wp2_with fail
  refine CB.out.mono ?_
  rintro e0 w0 ⟨rfl, rfl⟩
  clear CB
  go_wp2_with fail
  refine (drawDiceFrom_any A1 n1 c1 w HB1.out h1).mono ?_
  rintro e1 w1 ⟨s, i, n, rfl, k1⟩
  have G1 := Lib.hid (show SpanAt w1 0 0 4611686016279904236 ∧ SpanAt w1 1 0 1000000 ∧ SpanAt w1 2 0 8 ∧ SpanAt w1 3 0 40 ∧ SpanAt w1 4 1 1000000 ∧ SpanAt w1 5 0 600 from ⟨(k1).two HG.out.1, (k1).two HG.out.2.1, (k1).two HG.out.2.2.1, (k1).two HG.out.2.2.2.1, (k1).two HG.out.2.2.2.2.1, (k1).two HG.out.2.2.2.2.2⟩)
  go_wp2_with fail
  have CP := diceFromP_any s i n w1 (G1.out.1) (G1.out.2.1) (G1.out.2.2.1)
  have CS := fun w => diceFromS_any s i n w
  have CD := Lib.hid (fun (k : Nat) (w : World) (h : SpanAt w 0 0 4611686016279904236 ∧ SpanAt w 1 0 1000000 ∧ SpanAt w 2 0 8 ∧ SpanAt w 3 0 40 ∧ SpanAt w 4 1 1000000 ∧ SpanAt w 5 0 600) => dieAtP_any s (i + k) w (h.1) (h.2.1))
  have HDL := Lib.hid (dic_len s i n)
  have HDI := Lib.hid (fun (k : Nat) (h : dicB s i n = true) (hk : (k : Int) < n) => die_in (s := s) (i := i) (n := n) h hk)
  have hlen := dic_short s i n
  unfold ListPostI at CP CS
  generalize (if dicB s i n = true then diceL s i n.toNat else []) = L at *
  generalize dicB s i n = B at *
  have HCS := Lib.hid CS
  clear CS
  refine CP.mono ?_
  clear CP
  rintro e2 w2 ⟨v2, rfl, o2, k2⟩
  have R2 := Lib.hid o2.rd
  have K2 := k1.trans k2
  clear o2 k1
  go_wp2_with fail
  refine (HCS.out _).mono ?_
  rintro e3 w3 ⟨v3, rfl, o3, k3⟩
  have R3 := Lib.hid o3.rd
  have R2' := Lib.hid (R2.out.keep k3)
  have K3 := K2.trans k3
  have eB : (B != B) = false := by simp
  clear o3 R2 HCS
  go_wp2_with fail
  refine (sameInts_any v2 v3 L _ R2'.out R3.out (by omega)).mono ?_
  rintro e4 w4 ⟨rfl, k4⟩
  have R4 := Lib.hid (R3.out.keep k4)
  have K4 := K3.trans k4
  obtain ⟨A4, c4, hv3, -⟩ := R4.out
  subst hv3
  have HLN : Hid (L.length ≤ 8) := Lib.hid hlen
  clear hlen R3 R2' K3 k3 k4 K2 eB
  obtain ⟨q0, hq0⟩ : ∃ q, L.length = q := ⟨_, rfl⟩
  have HQ := Lib.hid hq0
  rw [hq0] at R4 ⊢
  clear hq0
  have hq8 : q0 ≤ 8 := by
    have h8 := HLN.out
    have h9 := HQ.out
    omega
  have G4 := Lib.hid (show SpanAt w4 0 0 4611686016279904236 ∧ SpanAt w4 1 0 1000000 ∧ SpanAt w4 2 0 8 ∧ SpanAt w4 3 0 40 ∧ SpanAt w4 4 1 1000000 ∧ SpanAt w4 5 0 600 from ⟨(K4).two HG.out.1, (K4).two HG.out.2.1, (K4).two HG.out.2.2.1, (K4).two HG.out.2.2.2.1, (K4).two HG.out.2.2.2.2.1, (K4).two HG.out.2.2.2.2.2⟩)
  go_wp2_with fail
  go_loopw [12, 13, 14, 15, 72] (fun _ _ _ _ iv wr => ∃ k : Nat, k ≤ q0 ∧ iv = .int .i64 k ∧ Kp w4 wr) (fun _ _ _ _ iv _ => q0 - (intOf iv).toNat)
  case atStart => exact ⟨0, by omega, rfl, Kp.refl _⟩
  case round =>
    obtain ⟨k, hk, rfl, kr⟩ := hrel
    by_cases hlt : k < q0
    · have hlt' : (k : Int) < q0 := by omega
      obtain ⟨hB, hkn, hget⟩ := HDL.out k (by rw [HQ.out]; exact hlt)
      obtain ⟨hdi, h64⟩ := HDI.out k hB hkn
      clear hB
      obtain ⟨A5, c5, hv5, hA⟩ := R4.out
      simp only [Value.slice.injEq] at hv5
      obtain ⟨rfl, -, rfl⟩ := hv5
      obtain ⟨g, off, rfl, hc⟩ := hA (by rw [HQ.out]; omega)
      have a0 := kr.cell (hc k _ hget)
      have hbd := dieN_bd s (i + k)
      have CE := Lib.hid (CD.out k wr ⟨(kr).two G4.out.1, (kr).two G4.out.2.1, (kr).two G4.out.2.2.1, (kr).two G4.out.2.2.2.1, (kr).two G4.out.2.2.2.2.1, (kr).two G4.out.2.2.2.2.2⟩)
      rw [hdi] at CE
      unfold ib at CE
      rw [vI_true] at CE
      have ew : IntKind.i64.wrap (i + (k : Int)) = i + (k : Int) := IntWalk.i64_in _ (by unfold isI64 at h64; omega)
      generalize dieN s (i + (k : Int)) = D at *
      have eD : (D != D) = false := by simp
      have d1 : decide (D < 1) = false := by simp; omega
      have d2 : decide (6 < D) = false := by simp; omega
      obtain ⟨hbd1, hbd2⟩ := hbd
      clear hc hA hget hdi h64
      go_wp2_with fail
      refine CE.out.mono ?_
      rintro e5 w5 ⟨rfl, k5⟩
      have K5 := kr.trans k5
      clear CE kr k5 a0
      go_wp2_with fail
      go_roundw
      case rel => exact ⟨k + 1, by omega, by go_num, K5⟩
      case measure => simp [intOf]; omega
    · obtain rfl : k = q0 := by omega
      have K5 := K4.trans kr
      have G5 := Lib.hid (show SpanAt wr 0 0 4611686016279904236 ∧ SpanAt wr 1 0 1000000 ∧ SpanAt wr 2 0 8 ∧ SpanAt wr 3 0 40 ∧ SpanAt wr 4 1 1000000 ∧ SpanAt wr 5 0 600 from ⟨(K5).two HG.out.1, (K5).two HG.out.2.1, (K5).two HG.out.2.2.1, (K5).two HG.out.2.2.2.1, (K5).two HG.out.2.2.2.2.1, (K5).two HG.out.2.2.2.2.2⟩)
      clear K4 kr R4 HDL HDI CD G4 G1
      go_wp2_with fail
      refine (drawShuffleBy_any A2 n2 c2 wr (HB2.out.keep K5) h2).mono ?_
      rintro e6 w6 ⟨s2, m2, rfl, k6⟩
      have K6 := K5.trans k6
      have G6 := Lib.hid (show SpanAt w6 0 0 4611686016279904236 ∧ SpanAt w6 1 0 1000000 ∧ SpanAt w6 2 0 8 ∧ SpanAt w6 3 0 40 ∧ SpanAt w6 4 1 1000000 ∧ SpanAt w6 5 0 600 from ⟨(k6).two G5.out.1, (k6).two G5.out.2.1, (k6).two G5.out.2.2.1, (k6).two G5.out.2.2.2.1, (k6).two G5.out.2.2.2.2.1, (k6).two G5.out.2.2.2.2.2⟩)
      have CP2 := shuffleByP_any s2 m2 w6 (G6.out.1) (G6.out.2.2.2.1) (G6.out.2.1) (G6.out.2.2.2.2.1)
      have CS2 := fun w => shuffleByS_any s2 m2 w
      have hinj := shu_inj s2 m2
      have hl2 := shu_len s2 m2
      clear K5 k6 G5
      unfold ListPostI at CP2 CS2
      generalize (if shuB s2 m2 = true then shuL s2 m2.toNat else []) = L2 at *
      generalize shuB s2 m2 = B2 at *
      have HCS2 := Lib.hid CS2
      have HCP2 := Lib.hid CP2
      clear CS2 CP2
      obtain ⟨q2, hq2⟩ : ∃ q, L2.length = q := ⟨_, rfl⟩
      have HQ2 := Lib.hid hq2
      have hq40 : q2 ≤ 40 := by omega
      rw [hq2] at hinj
      have HINJ := Lib.hid hinj
      have eB2 : (B2 != B2) = false := by simp
      clear hinj hq2 hl2
      go_wp2_with fail
      refine HCP2.out.mono ?_
      rintro e7 w7 ⟨v7, rfl, o7, k7⟩
      have R7 := Lib.hid o7.rd
      have K7 := K6.trans k7
      clear o7 HCP2 k7 K6
      go_wp2_with fail
      refine (HCS2.out _).mono ?_
      rintro e8 w8 ⟨v8, rfl, o8, k8⟩
      have R8 := Lib.hid o8.rd
      have R7' := Lib.hid (R7.out.keep k8)
      have K8 := K7.trans k8
      clear o8 HCS2 R7 k8 K7
      go_wp2_with fail
      refine (sameInts_any v7 v8 L2 _ R7'.out R8.out (by have := HQ2.out; omega)).mono ?_
      rintro e9 w9 ⟨rfl, k9⟩
      have R9 := Lib.hid (R8.out.keep k9)
      have K9 := K8.trans k9
      obtain ⟨A9, c9, hv8, -⟩ := R9.out
      rw [HQ2.out] at hv8
      subst hv8
      clear R8 R7' K8 k9 eB2
      have hmk := mkBools q2 (by omega) w9
      have HZ : Hid (OwnBo (w9.alloc (.cells (madeCells #[.bool false] q2) 4)) w9.heap.size (.slice (some ⟨w9.heap.size, 0, none⟩) q2 q2) q2 (seenF L2 0)) := Lib.hid (by
        have h := ownBo_zero w9 q2 (by omega)
        have e : seenF L2 0 = fun _ => false := by
          funext x
          unfold seenF
          rw [decide_eq_false_iff_not]
          rintro ⟨j, hj, _⟩
          omega
        rw [e]
        exact h)
      have KZ : Kp w9 (w9.alloc (.cells (madeCells #[.bool false] q2) 4)) := (Kp.refl _).alloc _
      go_upto_region 21 with fail
      clear hmk
      generalize w9.alloc (.cells (madeCells #[.bool false] q2) 4) = W9 at *
      go_wp2_with fail
      go_loopw [24, 132] (fun _ iv wz => ∃ k : Nat, k ≤ q2 ∧ iv = .int .i64 k ∧ Hid (OwnBo wz w9.heap.size (.slice (some ⟨w9.heap.size, 0, none⟩) q2 q2) q2 (seenF L2 k)) ∧ Kp w9 wz) (fun _ iv _ => q2 - (intOf iv).toNat)
      case atStart => exact ⟨0, by omega, rfl, HZ, KZ⟩
      case round =>
        clear HZ KZ
        obtain ⟨k, hk, rfl, hP, kr⟩ := hrel
        by_cases hlt : k < q2
        · have hlt' : (k : Int) < q2 := by omega
          obtain ⟨A5, c5, hv5, hA⟩ := R9.out
          simp only [Value.slice.injEq] at hv5
          obtain ⟨rfl, -, rfl⟩ := hv5
          obtain ⟨g, off, rfl, hc⟩ := hA (by rw [HQ2.out]; omega)
          have a0 := kr.cell (hc k _ (getI_some (by rw [HQ2.out]; exact hlt)))
          obtain ⟨x0, x1⟩ := HINJ.out.2.1 k hlt
          obtain ⟨X, hX⟩ : ∃ X : Nat, getI L2 k = (X : Int) := ⟨(getI L2 k).toNat, by omega⟩
          have HX := Lib.hid hX
          rw [hX] at a0 x1
          have hXq : X < q2 := by omega
          have s0 := hP.out.at hXq
          rw [seenF_no HINJ.out hlt HX.out] at s0
          obtain ⟨⟨u1, a1⟩, f1, o1⟩ := hP.out.put hXq true
          have O1 : Hid (OwnBo (wr.setCell ⟨w9.heap.size, X, none⟩ (.bool true)) w9.heap.size (.slice (some ⟨w9.heap.size, 0, none⟩) q2 q2) q2 (seenF L2 (k + 1))) := Lib.hid (by
            rw [show seenF L2 (k + 1) = fun j => if j = X then true else seenF L2 k j from funext fun j => (seenF_more HX.out j).symm]
            exact o1)
          have K1 : Kp w9 (wr.setCell ⟨w9.heap.size, X, none⟩ (.bool true)) := kr.setCell (by simp) _
          clear hc hA hX o1 hP a1 x0
          go_wp2_with fail
          go_roundw
          case rel => exact ⟨k + 1, by omega, by go_num, O1, K1⟩
          case measure => simp [intOf]; omega
        · obtain rfl : k = q2 := by omega
          have K10 := K9.trans kr
          have G10 := Lib.hid (show SpanAt wr 0 0 4611686016279904236 ∧ SpanAt wr 1 0 1000000 ∧ SpanAt wr 2 0 8 ∧ SpanAt wr 3 0 40 ∧ SpanAt wr 4 1 1000000 ∧ SpanAt wr 5 0 600 from ⟨(K10).two HG.out.1, (K10).two HG.out.2.1, (K10).two HG.out.2.2.1, (K10).two HG.out.2.2.2.1, (K10).two HG.out.2.2.2.2.1, (K10).two HG.out.2.2.2.2.2⟩)
          clear K9 kr hP R9 G6
          go_wp2_with fail
          refine (drawNumberBelow_any A2 n2 c2 wr (HB2.out.keep K10) h2).mono ?_
          rintro e11 w11 ⟨a, b, c, rfl, k11⟩
          have K11 := K10.trans k11
          have G11 := Lib.hid (show SpanAt w11 0 0 4611686016279904236 ∧ SpanAt w11 1 0 1000000 ∧ SpanAt w11 2 0 8 ∧ SpanAt w11 3 0 40 ∧ SpanAt w11 4 1 1000000 ∧ SpanAt w11 5 0 600 from ⟨(k11).two G10.out.1, (k11).two G10.out.2.1, (k11).two G10.out.2.2.1, (k11).two G10.out.2.2.2.1, (k11).two G10.out.2.2.2.2.1, (k11).two G10.out.2.2.2.2.2⟩)
          have CP3 := Lib.hid (numberBelowP_any a b c w11 (G11.out.1) (G11.out.2.1) (G11.out.2.2.2.2.1))
          have CS3 := Lib.hid (fun w => numberBelowS_any a b c w)
          have hbf : vI (belB a b c) (belN a b c) = vI (belB a b c) (belN a b c) ∧ (belB a b c = true → 0 ≤ vI (belB a b c) (belN a b c) ∧ vI (belB a b c) (belN a b c) < c) := ⟨rfl, fun h => by
            rw [h]
            exact bel_facts h⟩
          unfold ib at CP3 CS3
          generalize vI (belB a b c) (belN a b c) = Y3 at *
          generalize belB a b c = B3 at *
          obtain ⟨-, hbf⟩ := hbf
          have HBF := Lib.hid hbf
          have eB3 : (B3 == B3) = true := by simp
          have eY3 : (Y3 == Y3) = true := by simp
          clear hbf K10 k11 G10
          go_wp2_with fail
          refine CP3.out.mono ?_
          rintro e12 w12 ⟨rfl, k12⟩
          have K12 := K11.trans k12
          clear CP3 K11 k12
          go_wp2_with fail
          refine (CS3.out _).mono ?_
          rintro e13 w13 ⟨rfl, k13⟩
          have K13 := K12.trans k13
          clear CS3 K12 k13
          go_wp2_with fail
          refine (drawFacesOf_any A2 n2 c2 w13 (HB2.out.keep K13) h2).mono ?_
          rintro e14 w14 ⟨f, n4, rfl, k14⟩
          have K14 := K13.trans k14
          have G14 := Lib.hid (show SpanAt w14 0 0 4611686016279904236 ∧ SpanAt w14 1 0 1000000 ∧ SpanAt w14 2 0 8 ∧ SpanAt w14 3 0 40 ∧ SpanAt w14 4 1 1000000 ∧ SpanAt w14 5 0 600 from ⟨(K14).two HG.out.1, (K14).two HG.out.2.1, (K14).two HG.out.2.2.1, (K14).two HG.out.2.2.2.1, (K14).two HG.out.2.2.2.2.1, (K14).two HG.out.2.2.2.2.2⟩)
          have CP4 := facesOfP_any f n4 w14 (G14.out.1) (G14.out.2.2.2.2.2)
          have CS4 := fun w => facesOfS_any f n4 w
          have hff := fac_facts f n4
          unfold ListPostI at CP4 CS4
          generalize (if facB f n4 = true then facL f n4.toNat else []) = L4 at *
          generalize facB f n4 = B4 at *
          have HCP4 := Lib.hid CP4
          have HCS4 := Lib.hid CS4
          have HFF := Lib.hid hff
          have eB4 : (B4 == B4) = true := by simp
          clear CP4 CS4 hff K13 k14 G11
          go_wp2_with fail
          refine HCP4.out.mono ?_
          rintro e15 w15 ⟨v15, rfl, o15, k15⟩
          have R15 := Lib.hid o15.rd
          have K15 := K14.trans k15
          clear o15 HCP4 K14 k15
          go_wp2_with fail
          refine (HCS4.out _).mono ?_
          rintro e16 w16 ⟨v16, rfl, o16, k16⟩
          have R16 := Lib.hid o16.rd
          have R15' := Lib.hid (R15.out.keep k16)
          have K16 := K15.trans k16
          clear o16 HCS4 R15 K15 k16
          have CE := Lib.hid (sameInts_any v15 v16 L4 w16 R15'.out R16.out (by have := HFF.out.1; omega))
          have CQ := Lib.hid (fun w h => pSum_any v15 L4 w h HFF.out.1 HFF.out.2.1)
          cases B3
          · go_wp2_with fail
            refine CE.out.mono ?_
            rintro e17 w17 ⟨rfl, k17⟩
            have R17 := Lib.hid (R15'.out.keep k17)
            have K17 := K16.trans k17
            cases B4
            · go_wp2_with fail
              go_ret
              exact ⟨rfl, K17⟩
            · have hsum := HFF.out.2.2 rfl
              have eS : (sumT L4 L4.length == n4) = true := by simpa using hsum
              clear hsum
              go_wp2_with fail
              refine (CQ.out _ R17.out).mono ?_
              rintro e18 w18 ⟨rfl, rfl⟩
              go_wp2_with fail
              go_ret
              exact ⟨rfl, K17⟩
          · obtain ⟨y0, y1⟩ := HBF.out rfl
            go_wp2_with fail
            refine CE.out.mono ?_
            rintro e17 w17 ⟨rfl, k17⟩
            have R17 := Lib.hid (R15'.out.keep k17)
            have K17 := K16.trans k17
            cases B4
            · go_wp2_with fail
              go_ret
              exact ⟨rfl, K17⟩
            · have hsum := HFF.out.2.2 rfl
              have eS : (sumT L4 L4.length == n4) = true := by simpa using hsum
              clear hsum
              go_wp2_with fail
              refine (CQ.out _ R17.out).mono ?_
              rintro e18 w18 ⟨rfl, rfl⟩
              go_wp2_with fail
              go_ret
              exact ⟨rfl, K17⟩


set_option maxRecDepth 100000 in
theorem contract (H : Type) (enc : TypeId × Value → H) (W : World) (base : Nat) (args : Array Value) (ds gs : List (DataW H)) (before : List MemPlace)
    (hval : ∀ (j : Nat) t v, Tryd.f3.params[j]? = some t → args[j]? = some v → Value.okWide Tryd.prog W .any base t v)
    (hW : DataW.Whole enc Tryd.prog Tryd.f3.params.toList Rows.fnDiceSpec.vars false W args.toList ds gs before) (hL : laidMetH Tryd.prog Rows.fnDiceRow.laid W) :
    Calls Tryd.prog 3 args W fun e W' => ∃ v, e = .returned v ∧ Rows.fnDiceSpec.post enc Tryd.prog Tryd.f3 false true false false W args v W' := by
  have hW' := hW
  obtain ⟨p, q, hA0, hV, rfl, hfz, hnd⟩ := hW
  have hA : DataW.TrodAll enc Tryd.prog W 0 (fun _ => true) true Tryd.f3.params.toList args.toList ds p := hA0
  rw [Tryd.params3] at hA hval
  obtain ⟨v0, v1, d0, d1, p0, p1, rfl, rfl, rfl, h0, h1⟩ := trodAll_two hA
  obtain ⟨_, _, _, _, _, _, rfl⟩ := lenvD6 (trodVars_len hV)
  obtain ⟨A0, m0, q0, rfl, hr0, hm0⟩ := rdBy_of_trod (hval 0 22 v0 rfl rfl) h0
  obtain ⟨A1, m1, q1, rfl, hr1, hm1⟩ := rdBy_of_trod (hval 1 22 v1 rfl rfl) h1
  refine (walk A0 A1 m0 q0 m1 q1 W hr0 hr1 hm0 hm1 (laidFnDice hL)).mono fun e W' ⟨he, hg⟩ => ?_
  subst he
  exact ⟨_, rfl, law_post hW' laidOut (by kernel_rfl) (by kernel_rfl) (by kernel_rfl) Tryd.underlying4 rfl hg⟩

theorem laid_met (os : Os) : laidMet Tryd.prog Rows.fnDiceRow.laid ((laidWorldDi os).forCall (fun _ _ => 0) ⟨#[], #[.slice none 0 0, .slice none 0 0], []⟩).memory :=
  laidMet_of_run' 8 (by kernel_rfl) (by kernel_rfl)
theorem reads (os : Os) {H : Type} (enc : TypeId × Value → H) : ∃ ds gs places, DataW.whole enc Tryd.prog ((laidWorldDi os).forCall (fun _ _ => 0) ⟨#[], #[.slice none 0 0, .slice none 0 0], []⟩).memory Tryd.f3.params.toList Rows.fnDiceSpec.vars false #[.slice none 0 0, .slice none 0 0].toList 8 = some (ds, gs, places) :=
  ⟨[.nil, .nil], [Rows.laid_loop_example_g00886_impl_seedSpan, Rows.laid_loop_example_g00886_impl_dieNumberSpan, Rows.laid_loop_example_g00886_impl_diceSpan, Rows.laid_loop_example_g00886_impl_shuffledSpan, Rows.laid_loop_example_g00886_impl_belowSpan, Rows.laid_loop_example_g00886_impl_thrownSpan], MemPlace.row ⟨0, 0, none⟩ 2 ++ (MemPlace.row ⟨1, 0, none⟩ 2 ++ (MemPlace.row ⟨2, 0, none⟩ 2 ++ (MemPlace.row ⟨3, 0, none⟩ 2 ++ (MemPlace.row ⟨4, 0, none⟩ 2 ++ (MemPlace.row ⟨5, 0, none⟩ 2))))), by kernel_rfl⟩

set_option maxRecDepth 100000 in
theorem lifted (os : Os) (started : os.Started) (H : Type) (enc : TypeId × Value → H) (F : Stop.Interp) :
    ReturnsInHanded {} Tryd.checked os 3 .any ((OpenSpec.ofChange Rows.fnDiceSpec).preRow enc Tryd.prog Tryd.f3 Rows.fnDiceRow.domain false Rows.fnDiceRow.laid) (((OpenSpec.ofChange Rows.fnDiceSpec).at F).post enc Tryd.prog Tryd.f3 false true false false) := by
  obtain ⟨ds, gs, places, hx⟩ := reads os enc
  refine returnsInHanded_of_row (C := Tryd.checked) (s := OpenSpec.ofChange Rows.fnDiceSpec) own started (by kernel_rfl) Tryd.func3
    (witness_row_at (enc := enc) (C := Tryd.checked) false (laidWorldDi os) #[.slice none 0 0, .slice none 0 0] rfl (by kernel_rfl) (by kernel_rfl) (by kernel_rfl)
      (OpenSpec.preRow_of_cond 8 hx (by kernel_rfl) (fun k hk => by cases hk) (by kernel_rfl) (laid_met os))) ?_
  intro W base args ds gs before hval hW _ _ _ hL _ _
  exact contract H enc W base args ds gs before hval hW hL

theorem said : Rows.FnDiceSaid :=
  OpenClaim.holds_of_cond 3 Tryd.f3 rfl rfl rfl rfl rfl rfl rfl ⟨rfl, rfl, rfl, rfl, rfl⟩ rfl rfl rfl rfl rfl (by kernel_rfl) Tryd.func3 (by kernel_rfl)
    (of_decide_eq_true (by kernel_rfl)) (by unfold Func.isWrapper; first | (rw [if_pos (by decide +kernel)]; kernel_rfl) | (rw [if_neg (by decide +kernel)]; exact ⟨rfl, rfl⟩))
    (fun os started H enc _ F => by rw [OpenClaim.pre_eq_preRow]; exact lifted os started H enc F)

theorem plain (f : FuncId) (fn : Func) (hf : Tryd.pinned.checked.prog.funcNamed "loop.example/g00886/laws.FnDice" = some f) (hfn : Tryd.pinned.checked.prog.funcs[f]? = some fn) :
    false = Tryd.pinned.checked.prog.looks [] ∧ ∀ (j : Nat) t, fn.params[j]? = some t → Tryd.pinned.checked.prog.wantsStandIn t = false := by
  obtain rfl : f = 3 := Option.some.inj ((show Tryd.prog.funcNamed "loop.example/g00886/laws.FnDice" = some 3 by kernel_rfl).symm.trans hf) |>.symm
  obtain rfl : fn = Tryd.f3 := (Option.some.inj (Tryd.func3.symm.trans hfn)).symm
  refine ⟨by kernel_rfl, fun j t ht => ?_⟩
  rw [Tryd.params3] at ht
  have hm := Array.mem_of_getElem? ht
  simp only [List.mem_toArray, List.mem_cons, List.not_mem_nil, or_false] at hm
  rcases hm with rfl | rfl
  · exact (show Tryd.prog.wantsStandIn 22 = false by kernel_rfl)
  · exact (show Tryd.prog.wantsStandIn 22 = false by kernel_rfl)

/-- The card: the row, with what it lists tied to the program's text. -/
theorem card : Rows.FnDiceCardSaid :=
  Claim7.holds_tied_plain_at .later [] _ _ _ _ said (fun _ h => by cases h) (by kernel_rfl) (fun _ h => by cases h) fnDice_row_tie rfl ⟨rfl, rfl⟩ (by kernel_rfl) rfl plain (by kernel_rfl)
#print axioms card

end Go.Proofs.YtajidjckpjdebaaDoor.fnDiceLaw
