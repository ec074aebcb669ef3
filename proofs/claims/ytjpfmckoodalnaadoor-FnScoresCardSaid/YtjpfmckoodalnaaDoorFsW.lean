/-
  The law on scores holds at every argument (under way).
-/
import Derived.Test.YtjpfmckoodalnaaDoorCuW
import Derived.Test.YtjpfmckoodalnaaDoorFsM
import Derived.Test.YtjpfmckoodalnaaDoorTabO
namespace Go.Proofs.YtjpfmckoodalnaaDoor.fnScoresLaw
open Go.ChangeShapes Go.WideShapes Go.ChangeAt Go.RowKit Go.Joins

set_option maxRecDepth 100000 in
set_option maxHeartbeats 16000000 in
theorem walk (A B : Option Addr) (n m c d : Nat) (w : World) (hb : RdBy w A n) (hb2 : RdBy w B m) (hn : n ≤ 9223372036854775807) (hm : m ≤ 9223372036854775807) (hv : TbM w ∧ TbH w ∧ TbR w) :
    Calls Tryd.prog 3 #[.slice A n c, .slice B m d] w fun e w' => e = .returned (.bool true) ∧ Kp w w' := by
  have HB := Lib.hid hb
  have HB2 := Lib.hid hb2
  have HV : Hid (∀ w', Kp w w' → TbM w' ∧ TbH w' ∧ TbR w') := Lib.hid fun w' k => ⟨hv.1.keep k, hv.2.1.keep k, hv.2.2.keep k⟩
  have K0 := Kp.refl w
  clear hb hb2 hv
  by_cases hbig : 1048576 < wrap64 ((n : Int) + (m : Int))
  · clear HB HB2 HV
    go_enter Tryd.func3, Tryd.ntmps3
    go_wp2_with fail
    go_ret
    exact ⟨rfl, Kp.refl _⟩
  go_enter Tryd.func3, Tryd.ntmps3
  go_wp2_with fail
  refine (drawIsMonotone_any A n c _ (HB.out.keep K0) (by omega)).mono ?_
  rintro e1 w1 ⟨c1, r1, d1, co1, rs1, vs1, rfl, oc1, _, m1, n1, p1, k1⟩
  have K1 := K0.trans k1
  clear K0
  have C1 : CtAt w1 _ _ co1 rs1 := ⟨oc1.oc.rd, oc1.or.rd, by omega, by omega, fun l hl => by have := p1 l hl; omega⟩
  obtain ⟨A1, f1, h1⟩ := own_slice oc1.oc
  obtain ⟨B1, g1, h1'⟩ := own_slice oc1.or.row
  subst h1 h1'
  have a1 : Kp w1 (w1.alloc (.cells #[.slice A1 co1.length f1, .int .i64 d1, .slice B1 rs1.length g1] 26)) := (Kp.refl _).alloc _
  have b1 : Live3 (w1.alloc (.cells #[.slice A1 co1.length f1, .int .i64 d1, .slice B1 rs1.length g1] 26)) w1.heap.size (.slice A1 co1.length f1) (.int .i64 d1) (.slice B1 rs1.length g1) := ⟨by simp [go_sem], by simp [go_sem], by simp [go_sem]⟩
  have D1 := Lib.hid (C1.keep a1)
  clear C1 oc1
  have KA := K1.trans a1
  clear K1
  have K1 := KA
  clear KA
  go_wp2_with fail
  refine (isMonotone_any _ _ d1 co1 rs1 _ D1.out (HV.out _ K1).1).mono ?_
  rintro e2 w2 ⟨rfl, k2⟩
  have zb1 := live3_keep k2 b1
  clear b1
  have b1 := zb1
  clear zb1
  have zD1 := Lib.hid (D1.out.keep k2)
  clear D1
  have D1 := zD1
  clear zD1
  have K2 := K1.trans k2
  clear K1
  clear k2
  go_wp2_with fail
  refine (specIsMonotone_any _ _ d1 co1 rs1 _ D1.out).mono ?_
  rintro e3 w3 ⟨rfl, k3⟩
  have zb1 := live3_keep k3 b1
  clear b1
  have b1 := zb1
  clear zb1
  have zD1 := Lib.hid (D1.out.keep k3)
  clear D1
  have D1 := zD1
  clear zD1
  have K3 := K2.trans k3
  clear K2
  clear k3
  go_wp2_with fail
  refine (drawShiftColumn_any B m d _ (HB2.out.keep K3) (by omega)).mono ?_
  rintro e4 w4 ⟨c2, r2, d2, co2, rs2, vs2, x2, y2, rfl, oc2, _, m2, n2, p2, k4⟩
  have zb1 := live3_keep k4 b1
  clear b1
  have b1 := zb1
  clear zb1
  have zD1 := Lib.hid (D1.out.keep k4)
  clear D1
  have D1 := zD1
  clear zD1
  have K4 := K3.trans k4
  clear K3
  have C2 : CtAt w4 _ _ co2 rs2 := ⟨oc2.oc.rd, oc2.or.rd, by omega, by omega, fun l hl => by have := p2 l hl; omega⟩
  obtain ⟨A2, f2, h2⟩ := own_slice oc2.oc
  obtain ⟨B2, g2, h2'⟩ := own_slice oc2.or.row
  subst h2 h2'
  have a4 : Kp w4 (w4.alloc (.cells #[.slice A2 co2.length f2, .int .i64 d2, .slice B2 rs2.length g2] 26)) := (Kp.refl _).alloc _
  have b2 : Live3 (w4.alloc (.cells #[.slice A2 co2.length f2, .int .i64 d2, .slice B2 rs2.length g2] 26)) w4.heap.size (.slice A2 co2.length f2) (.int .i64 d2) (.slice B2 rs2.length g2) := ⟨by simp [go_sem], by simp [go_sem], by simp [go_sem]⟩
  have zb1 := live3_keep a4 b1
  clear b1
  have b1 := zb1
  clear zb1
  have zD1 := Lib.hid (D1.out.keep a4)
  clear D1
  have D1 := zD1
  clear zD1
  have D2 := Lib.hid (C2.keep a4)
  clear C2 oc2
  have KA := K4.trans a4
  clear K4
  have K4 := KA
  clear KA
  go_wp2_with fail
  refine (shiftColumn_any _ _ d2 co2 rs2 x2 y2 _ D2.out (HV.out _ K4).2.1).mono ?_
  rintro e5 w5 ⟨rfl, k5⟩
  have zb1 := live3_keep k5 b1
  clear b1
  have b1 := zb1
  clear zb1
  have zb2 := live3_keep k5 b2
  clear b2
  have b2 := zb2
  clear zb2
  have zD1 := Lib.hid (D1.out.keep k5)
  clear D1
  have D1 := zD1
  clear zD1
  have zD2 := Lib.hid (D2.out.keep k5)
  clear D2
  have D2 := zD2
  clear zD2
  have K5 := K4.trans k5
  clear K4
  clear k5
  go_wp2_with fail
  refine (specShiftColumn_any _ _ d2 co2 rs2 x2 y2 _ D2.out).mono ?_
  rintro e6 w6 ⟨rfl, k6⟩
  have zb1 := live3_keep k6 b1
  clear b1
  have b1 := zb1
  clear zb1
  have zb2 := live3_keep k6 b2
  clear b2
  have b2 := zb2
  clear zb2
  have zD1 := Lib.hid (D1.out.keep k6)
  clear D1
  have D1 := zD1
  clear zD1
  have zD2 := Lib.hid (D2.out.keep k6)
  clear D2
  have D2 := zD2
  clear zD2
  have K6 := K5.trans k6
  clear K5
  clear k6
  go_wp2_with fail
  generalize ((tabOk co2 d2 rs2 && inCol co2.length x2) && spB (-10) 10 y2) = Q2 at *
  generalize shI co2.length x2 y2 = X2 at *
  unfold ib
  refine (drawResultAt_any B m d _ (HB2.out.keep K6) (by omega)).mono ?_
  rintro e7 w7 ⟨c3, r3, d3, co3, rs3, vs3, x3, y3, rfl, oc3, _, m3, n3, p3, k7⟩
  have zb1 := live3_keep k7 b1
  clear b1
  have b1 := zb1
  clear zb1
  have zb2 := live3_keep k7 b2
  clear b2
  have b2 := zb2
  clear zb2
  have zD1 := Lib.hid (D1.out.keep k7)
  clear D1
  have D1 := zD1
  clear zD1
  have zD2 := Lib.hid (D2.out.keep k7)
  clear D2
  have D2 := zD2
  clear zD2
  have K7 := K6.trans k7
  clear K6
  have C3 : CtAt w7 _ _ co3 rs3 := ⟨oc3.oc.rd, oc3.or.rd, by omega, by omega, fun l hl => by have := p3 l hl; omega⟩
  obtain ⟨A3, f3, h3⟩ := own_slice oc3.oc
  obtain ⟨B3, g3, h3'⟩ := own_slice oc3.or.row
  subst h3 h3'
  have a7 : Kp w7 (w7.alloc (.cells #[.slice A3 co3.length f3, .int .i64 d3, .slice B3 rs3.length g3] 26)) := (Kp.refl _).alloc _
  have b3 : Live3 (w7.alloc (.cells #[.slice A3 co3.length f3, .int .i64 d3, .slice B3 rs3.length g3] 26)) w7.heap.size (.slice A3 co3.length f3) (.int .i64 d3) (.slice B3 rs3.length g3) := ⟨by simp [go_sem], by simp [go_sem], by simp [go_sem]⟩
  have zb1 := live3_keep a7 b1
  clear b1
  have b1 := zb1
  clear zb1
  have zb2 := live3_keep a7 b2
  clear b2
  have b2 := zb2
  clear zb2
  have zD1 := Lib.hid (D1.out.keep a7)
  clear D1
  have D1 := zD1
  clear zD1
  have zD2 := Lib.hid (D2.out.keep a7)
  clear D2
  have D2 := zD2
  clear zD2
  have D3 := Lib.hid (C3.keep a7)
  clear C3 oc3
  have KA := K7.trans a7
  clear K7
  have K7 := KA
  clear KA
  go_wp2_with fail
  refine (resultAt_any _ _ d3 co3 rs3 x3 y3 _ D3.out (HV.out _ K7).1.t).mono ?_
  rintro e8 w8 ⟨rfl, k8⟩
  have zb1 := live3_keep k8 b1
  clear b1
  have b1 := zb1
  clear zb1
  have zb2 := live3_keep k8 b2
  clear b2
  have b2 := zb2
  clear zb2
  have zb3 := live3_keep k8 b3
  clear b3
  have b3 := zb3
  clear zb3
  have zD1 := Lib.hid (D1.out.keep k8)
  clear D1
  have D1 := zD1
  clear zD1
  have zD2 := Lib.hid (D2.out.keep k8)
  clear D2
  have D2 := zD2
  clear zD2
  have zD3 := Lib.hid (D3.out.keep k8)
  clear D3
  have D3 := zD3
  clear zD3
  have K8 := K7.trans k8
  clear K7
  clear k8
  go_wp2_with fail
  refine (specResultAt_any _ _ d3 co3 rs3 x3 y3 _ D3.out).mono ?_
  rintro e9 w9 ⟨rfl, k9⟩
  have zb1 := live3_keep k9 b1
  clear b1
  have b1 := zb1
  clear zb1
  have zb2 := live3_keep k9 b2
  clear b2
  have b2 := zb2
  clear zb2
  have zb3 := live3_keep k9 b3
  clear b3
  have b3 := zb3
  clear zb3
  have zD1 := Lib.hid (D1.out.keep k9)
  clear D1
  have D1 := zD1
  clear zD1
  have zD2 := Lib.hid (D2.out.keep k9)
  clear D2
  have D2 := zD2
  clear zD2
  have zD3 := Lib.hid (D3.out.keep k9)
  clear D3
  have D3 := zD3
  clear zD3
  have K9 := K8.trans k9
  clear K8
  clear k9
  go_wp2_with fail
  refine (drawMeanScore_any B m d _ (HB2.out.keep K9) (by omega)).mono ?_
  rintro e10 w10 ⟨c4, r4, d4, co4, rs4, vs4, x4, rfl, oc4, _, m4, n4, p4, k10⟩
  have zb1 := live3_keep k10 b1
  clear b1
  have b1 := zb1
  clear zb1
  have zb2 := live3_keep k10 b2
  clear b2
  have b2 := zb2
  clear zb2
  have zb3 := live3_keep k10 b3
  clear b3
  have b3 := zb3
  clear zb3
  have zD1 := Lib.hid (D1.out.keep k10)
  clear D1
  have D1 := zD1
  clear zD1
  have zD2 := Lib.hid (D2.out.keep k10)
  clear D2
  have D2 := zD2
  clear zD2
  have zD3 := Lib.hid (D3.out.keep k10)
  clear D3
  have D3 := zD3
  clear zD3
  have K10 := K9.trans k10
  clear K9
  have C4 : CtAt w10 _ _ co4 rs4 := ⟨oc4.oc.rd, oc4.or.rd, by omega, by omega, fun l hl => by have := p4 l hl; omega⟩
  obtain ⟨A4, f4, h4⟩ := own_slice oc4.oc
  obtain ⟨B4, g4, h4'⟩ := own_slice oc4.or.row
  subst h4 h4'
  have a10 : Kp w10 (w10.alloc (.cells #[.slice A4 co4.length f4, .int .i64 d4, .slice B4 rs4.length g4] 26)) := (Kp.refl _).alloc _
  have b4 : Live3 (w10.alloc (.cells #[.slice A4 co4.length f4, .int .i64 d4, .slice B4 rs4.length g4] 26)) w10.heap.size (.slice A4 co4.length f4) (.int .i64 d4) (.slice B4 rs4.length g4) := ⟨by simp [go_sem], by simp [go_sem], by simp [go_sem]⟩
  have zb1 := live3_keep a10 b1
  clear b1
  have b1 := zb1
  clear zb1
  have zb2 := live3_keep a10 b2
  clear b2
  have b2 := zb2
  clear zb2
  have zb3 := live3_keep a10 b3
  clear b3
  have b3 := zb3
  clear zb3
  have zD1 := Lib.hid (D1.out.keep a10)
  clear D1
  have D1 := zD1
  clear zD1
  have zD2 := Lib.hid (D2.out.keep a10)
  clear D2
  have D2 := zD2
  clear zD2
  have zD3 := Lib.hid (D3.out.keep a10)
  clear D3
  have D3 := zD3
  clear zD3
  have D4 := Lib.hid (C4.keep a10)
  clear C4 oc4
  have KA := K10.trans a10
  clear K10
  have K10 := KA
  clear KA
  go_wp2_with fail
  refine (meanScore_any _ _ d4 co4 rs4 x4 _ D4.out (HV.out _ K10).1).mono ?_
  rintro e11 w11 ⟨rfl, k11⟩
  have zb1 := live3_keep k11 b1
  clear b1
  have b1 := zb1
  clear zb1
  have zb2 := live3_keep k11 b2
  clear b2
  have b2 := zb2
  clear zb2
  have zb3 := live3_keep k11 b3
  clear b3
  have b3 := zb3
  clear zb3
  have zb4 := live3_keep k11 b4
  clear b4
  have b4 := zb4
  clear zb4
  have zD1 := Lib.hid (D1.out.keep k11)
  clear D1
  have D1 := zD1
  clear zD1
  have zD2 := Lib.hid (D2.out.keep k11)
  clear D2
  have D2 := zD2
  clear zD2
  have zD3 := Lib.hid (D3.out.keep k11)
  clear D3
  have D3 := zD3
  clear zD3
  have zD4 := Lib.hid (D4.out.keep k11)
  clear D4
  have D4 := zD4
  clear zD4
  have K11 := K10.trans k11
  clear K10
  clear k11
  go_wp2_with fail
  refine (specMeanScore_any _ _ d4 co4 rs4 x4 _ D4.out).mono ?_
  rintro e12 w12 ⟨rfl, k12⟩
  have zb1 := live3_keep k12 b1
  clear b1
  have b1 := zb1
  clear zb1
  have zb2 := live3_keep k12 b2
  clear b2
  have b2 := zb2
  clear zb2
  have zb3 := live3_keep k12 b3
  clear b3
  have b3 := zb3
  clear zb3
  have zb4 := live3_keep k12 b4
  clear b4
  have b4 := zb4
  clear zb4
  have zD1 := Lib.hid (D1.out.keep k12)
  clear D1
  have D1 := zD1
  clear zD1
  have zD2 := Lib.hid (D2.out.keep k12)
  clear D2
  have D2 := zD2
  clear zD2
  have zD3 := Lib.hid (D3.out.keep k12)
  clear D3
  have D3 := zD3
  clear zD3
  have zD4 := Lib.hid (D4.out.keep k12)
  clear D4
  have D4 := zD4
  clear zD4
  have K12 := K11.trans k12
  clear K11
  clear k12
  have F3 := Lib.hid (show ((tabOk co3 d3 rs3 && inCol co3.length y3) && spB d3 (6 * d3) x3) = true → (0 ≤ resI d3 rs3 x3 y3 ∧ resI d3 rs3 x3 y3 ≤ 7) from fun h => by
    simp only [Bool.and_eq_true] at h
    exact res_at h.1.1 (spB_true h.2).1 (spB_true h.2).2 (inCol_true h.1.2))
  generalize ((tabOk co3 d3 rs3 && inCol co3.length y3) && spB d3 (6 * d3) x3) = Q3 at *
  generalize resI d3 rs3 x3 y3 = X3 at *
  generalize (tabOk co4 d4 rs4 && inCol co4.length x4) = Q4 at *
  generalize sumS (cntW (fun s => resI d4 rs4 s x4) (pS d4.toNat)) 8 = X4 at *
  generalize sumN (cntW (fun s => resI d4 rs4 s x4) (pS d4.toNat)) 8 = Y4 at *
  generalize vI Q4 X4 = Z4 at *
  generalize vI Q4 Y4 = V4 at *
  generalize vI Q2 X2 = Z2 at *
  have FT := Lib.hid (show tabOk co1 d1 rs1 = true → (tabOk co1 d1 rs1 && monB rs1 rs1.length co1.length) = true → 1 ≤ co1.length ∧ ∀ k : Nat, k + 1 < co1.length → sumS (cntW (fun s => resI d1 rs1 s (k : Int)) (pS d1.toNat)) 8 ≤ sumS (cntW (fun s => resI d1 rs1 s ((k : Int) + 1)) (pS d1.toNat)) 8 from fun h1 h2 => ⟨(tabOk_n h1).1, fun k hk => mon_mean h1 (by simp only [Bool.and_eq_true] at h2; exact h2.2) hk⟩)
  have HT1 := Lib.hid (show tabOk co1 d1 rs1 = true → ∀ k : Nat, k < co1.length → (tabOk co1 d1 rs1 && inCol co1.length (k : Int)) = true from fun h k hk => by rw [h]; simp [inCol, hk])
  have MS := Lib.hid (fun (k : Nat) (hk : k < co1.length) (h1 : tabOk co1 d1 rs1 = true) (w' : World) (kp : Kp w w') (h : CtAt w' (.slice A1 co1.length f1) (.slice B1 rs1.length g1) co1 rs1) => (show Calls Tryd.prog 14 #[cv (.slice A1 co1.length f1) d1 (.slice B1 rs1.length g1), .int .i64 (k : Int)] w' fun e w'' => e = .returned (.tuple #[.int .i64 (sumS (cntW (fun s => resI d1 rs1 s (k : Int)) (pS d1.toNat)) 8), .int .i64 (sumN (cntW (fun s => resI d1 rs1 s (k : Int)) (pS d1.toNat)) 8), .bool true]) ∧ Kp w' w'' by
    have hm := meanScore_any _ _ d1 co1 rs1 (k : Int) w' h (HV.out w' kp).1
    rw [HT1.out h1 k hk] at hm
    exact hm))
  obtain ⟨S, hS⟩ : ∃ S : Nat → Int, S = fun k : Nat => sumS (cntW (fun s => resI d1 rs1 s (k : Int)) (pS d1.toNat)) 8 := ⟨_, rfl⟩
  obtain ⟨N, hN⟩ : ∃ N : Nat → Int, N = fun k : Nat => sumN (cntW (fun s => resI d1 rs1 s (k : Int)) (pS d1.toNat)) 8 := ⟨_, rfl⟩
  have MS2 : Hid (∀ (k : Nat), k < co1.length → tabOk co1 d1 rs1 = true → ∀ (w' : World), Kp w w' → CtAt w' (.slice A1 co1.length f1) (.slice B1 rs1.length g1) co1 rs1 → Calls Tryd.prog 14 #[cv (.slice A1 co1.length f1) d1 (.slice B1 rs1.length g1), .int .i64 (k : Int)] w' fun e w'' => e = .returned (.tuple #[.int .i64 (S k), .int .i64 (N k), .bool true]) ∧ Kp w' w'') := Lib.hid (by rw [hS, hN]; exact MS.out)
  have FT2 : Hid (tabOk co1 d1 rs1 = true → (tabOk co1 d1 rs1 && monB rs1 rs1.length co1.length) = true → 1 ≤ co1.length ∧ ∀ k : Nat, k + 1 < co1.length → S k ≤ S (k + 1)) := Lib.hid (by rw [hS]; exact FT.out)
  clear MS FT HT1 hS hN
  generalize hT1 : tabOk co1 d1 rs1 = T1 at *
  generalize (T1 && monB rs1 rs1.length co1.length) = M1 at *
  clear hT1
  have eQ2 : (Q2 != Q2) = false := by simp
  have eQ3 : (Q3 != Q3) = false := by simp
  have eQ4 : (Q4 != Q4) = false := by simp
  have eT1 : (T1 != T1) = false := by simp
  have eM1 : (M1 != M1) = false := by simp
  have eZ2 : (Z2 != Z2) = false := by simp
  have eZ4 : (Z4 != Z4) = false := by simp
  have eV4 : (V4 != V4) = false := by simp
  cases Q3
  · have eX3 : (vI false X3 != vI false X3) = false := by simp
    generalize vI false X3 = Z3 at *
    cases T1
    · go_wp2_with fail
      go_ret
      exact ⟨rfl, K12⟩
    · cases M1
      · go_wp2_with fail
        go_ret
        exact ⟨rfl, K12⟩
      · obtain ⟨ft1, f2⟩ := FT2.out rfl rfl
        have F2 := Lib.hid f2
        have M2 := Lib.hid (fun (k : Nat) (hk : k < co1.length) => MS2.out k hk rfl)
        have hco := Lib.hid D1.out.bc
        clear f2 FT2 MS2
        go_wp2_with fail
        go_loopw [34, 35, 36, 37, 38, 39, 40] (fun i _ _ _ _ _ _ wr => ∃ k : Nat, k + 1 ≤ co1.length ∧ i = .int .i64 ((k : Int) + 1) ∧ Kp w12 wr) (fun i _ _ _ _ _ _ _ => co1.length - (intOf i).toNat)
        case atStart => exact ⟨0, ft1, rfl, Kp.refl _⟩
        case round =>
          obtain ⟨k, hk, rfl, kr⟩ := hrel
          have br := live3_keep kr b1
          have hm10 : co1.length ≤ 10 := m1
          by_cases hlt : k + 1 < co1.length
          · have hlt' : (k : Int) + 1 < co1.length := by omega
            have fS := F2.out k hlt
            have M1k := Lib.hid (M2.out k (by omega))
            have M2k := Lib.hid (M2.out (k + 1) hlt)
            have ek : ((k + 1 : Nat) : Int) = (k : Int) + 1 := by omega
            rw [ek] at M2k
            have hk10 : k ≤ 10 := by omega
            generalize S k = s0 at *
            generalize S (k + 1) = s1 at *
            clear ek
            go_wp2_with fail
            refine (M1k.out _ (K12.trans kr) (D1.out.keep kr)).mono ?_
            rintro e14 w14 ⟨rfl, k14⟩
            have bs := live3_keep k14 br
            have ks := kr.trans k14
            clear k14 br kr
            go_wp2_with fail
            refine (M2k.out _ (K12.trans ks) (D1.out.keep ks)).mono ?_
            rintro e15 w15 ⟨rfl, k15⟩
            have kt := ks.trans k15
            clear k15 bs ks
            go_wp2_with fail
            go_roundw
            case rel => exact ⟨k + 1, by omega, by go_num, kt⟩
            case measure => simp [intOf]; omega
          · have hlt' : ¬ (k : Int) + 1 < co1.length := by omega
            go_wp2_with fail
            go_ret
            exact ⟨rfl, K12.trans kr⟩
  · have ev : vI true X3 = X3 := rfl
    have hx3 := F3.out rfl
    rw [ev]
    have eX3 : (X3 != X3) = false := by simp
    clear ev
    go_wp2_with fail
    refine (scoreOf_any X3 _ (HV.out _ K12).2.2).mono ?_
    rintro e13 w13 ⟨rfl, k13⟩
    have zb1 := live3_keep k13 b1
    clear b1
    have b1 := zb1
    clear zb1
    have zb2 := live3_keep k13 b2
    clear b2
    have b2 := zb2
    clear zb2
    have zb3 := live3_keep k13 b3
    clear b3
    have b3 := zb3
    clear zb3
    have zb4 := live3_keep k13 b4
    clear b4
    have b4 := zb4
    clear zb4
    have zD1 := Lib.hid (D1.out.keep k13)
    clear D1
    have D1 := zD1
    clear zD1
    have zD2 := Lib.hid (D2.out.keep k13)
    clear D2
    have D2 := zD2
    clear zD2
    have zD3 := Lib.hid (D3.out.keep k13)
    clear D3
    have D3 := zD3
    clear zD3
    have zD4 := Lib.hid (D4.out.keep k13)
    clear D4
    have D4 := zD4
    clear zD4
    have K13 := K12.trans k13
    clear K12
    have esp : spB 0 7 X3 = true := spB_mk hx3.1 hx3.2
    have hsc := sco_bd hx3.1 hx3.2
    rw [esp]
    have ev2 : ib true (scoI X3) = .tuple #[.int .i64 (scoI X3), .bool true] := rfl
    rw [ev2]
    generalize scoI X3 = S3 at *
    clear esp ev2 k13
    cases T1
    · go_wp2_with fail
      go_ret
      exact ⟨rfl, K13⟩
    · cases M1
      · go_wp2_with fail
        go_ret
        exact ⟨rfl, K13⟩
      · obtain ⟨ft1, f2⟩ := FT2.out rfl rfl
        have F2 := Lib.hid f2
        have M2 := Lib.hid (fun (k : Nat) (hk : k < co1.length) => MS2.out k hk rfl)
        have hco := Lib.hid D1.out.bc
        clear f2 FT2 MS2
        go_wp2_with fail
        go_loopw [34, 35, 36, 37, 38, 39, 40] (fun i _ _ _ _ _ _ wr => ∃ k : Nat, k + 1 ≤ co1.length ∧ i = .int .i64 ((k : Int) + 1) ∧ Kp w13 wr) (fun i _ _ _ _ _ _ _ => co1.length - (intOf i).toNat)
        case atStart => exact ⟨0, ft1, rfl, Kp.refl _⟩
        case round =>
          obtain ⟨k, hk, rfl, kr⟩ := hrel
          have br := live3_keep kr b1
          have hm10 : co1.length ≤ 10 := m1
          by_cases hlt : k + 1 < co1.length
          · have hlt' : (k : Int) + 1 < co1.length := by omega
            have fS := F2.out k hlt
            have M1k := Lib.hid (M2.out k (by omega))
            have M2k := Lib.hid (M2.out (k + 1) hlt)
            have ek : ((k + 1 : Nat) : Int) = (k : Int) + 1 := by omega
            rw [ek] at M2k
            have hk10 : k ≤ 10 := by omega
            generalize S k = s0 at *
            generalize S (k + 1) = s1 at *
            clear ek
            go_wp2_with fail
            refine (M1k.out _ (K13.trans kr) (D1.out.keep kr)).mono ?_
            rintro e14 w14 ⟨rfl, k14⟩
            have bs := live3_keep k14 br
            have ks := kr.trans k14
            clear k14 br kr
            go_wp2_with fail
            refine (M2k.out _ (K13.trans ks) (D1.out.keep ks)).mono ?_
            rintro e15 w15 ⟨rfl, k15⟩
            have kt := ks.trans k15
            clear k15 bs ks
            go_wp2_with fail
            go_roundw
            case rel => exact ⟨k + 1, by omega, by go_num, kt⟩
            case measure => simp [intOf]; omega
          · have hlt' : ¬ (k : Int) + 1 < co1.length := by omega
            go_wp2_with fail
            go_ret
            exact ⟨rfl, K13.trans kr⟩

end Go.Proofs.YtjpfmckoodalnaaDoor.fnScoresLaw
