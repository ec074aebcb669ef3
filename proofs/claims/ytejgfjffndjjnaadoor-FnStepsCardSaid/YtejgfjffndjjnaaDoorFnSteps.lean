/-
  The law on steps holds at all bytes: what a direction, a turn, a mirror and a distance are at drawn hexes is the reference's; a direction leads back, a turned or mirrored pair is as far apart. The table of directions holds what the program's text lays (the card ties it).
-/
import Derived.Test.YtejgfjffndjjnaaDoorStM
import Derived.Test.YtejgfjffndjjnaaDoorDrH
import Derived.Test.YtejgfjffndjjnaaDoorTab
import Derived.ChangeSlices
import Derived.OpenShut
namespace Go.Proofs.YtejgfjffndjjnaaDoor.fnStepsLaw
open Go.ChangeShapes Go.WideShapes Go.ChangeAt Go.RowKit Go.Joins

theorem cellsByte : Tryd.prog.cellsOf 5 = 1 := by kernel_rfl
set_option maxRecDepth 100000 in
/-- An argument that is a slice of bytes. -/
theorem rdBy_of_trod {H : Type} {enc : TypeId × Value → H} {W : World} {base : Nat} {v : Value} {d : DataW H} {p : List MemPlace}
    (hv : Value.okWide Tryd.prog W .any base 22 v) (h : DataW.Trod enc Tryd.prog W 0 (fun _ => true) true 22 v d p) : ∃ A n c, v = .slice A n c ∧ RdBy W A n ∧ n ≤ 9223372036854775807 := by
  obtain ⟨a0, len, cap, rfl⟩ := okWide_slice Tryd.underlying22 hv
  obtain ⟨fuel, hf⟩ := h
  rcases open_ints Tryd.underlying22 Tryd.underlying5 cellsByte hf with ⟨hcs, hx⟩ | ⟨a, len', cap', zs, hcs, _, hl, hm, hz, hx, hcell, hwz⟩
  · simp only [Value.cells, List.cons.injEq, Value.slice.injEq, and_true] at hcs
    obtain ⟨rfl, rfl, rfl⟩ := hcs
    exact ⟨none, 0, 0, rfl, fun h0 => absurd h0 (by omega), by omega⟩
  · simp only [Value.cells, List.cons.injEq, Value.slice.injEq, and_true] at hcs
    obtain ⟨rfl, rfl, rfl⟩ := hcs
    have hzl : len ≤ zs.length := by rw [hz]; simpa using hl
    refine ⟨some a, len, cap, rfl, fun h0 => ?_, by unfold maxLen at hm; omega⟩
    obtain ⟨b, off, rfl, hc⟩ := ints_at hcell (by omega)
    refine ⟨b, off, rfl, fun i hi => ?_⟩
    have hil : i < zs.length := by omega
    have hb := bounds_u8 (hwz (zs.getD i 0) (by rw [List.getD_eq_getElem?_getD, List.getElem?_eq_getElem hil]; exact List.getElem_mem hil))
    exact ⟨_, hb.1, hb.2, hc i hil⟩
theorem big_any (A1 A2 : Option Addr) (n1 c1 n2 c2 : Nat) (w : World) (h1 : n1 ≤ 9223372036854775807) (h2 : n2 ≤ 9223372036854775807) :
    Calls Tryd.prog 4 #[.slice A1 n1 c1, .slice A2 n2 c2] w fun e w' => e = .returned (.bool (decide (¬ n1 + n2 ≤ 1048576))) ∧ w = w' := by
  by_cases ha : n1 ≤ 1048576
  · have ha' : (n1 : Int) ≤ 1048576 := by omega
    have ew : IntKind.i64.wrap (1048576 - (n1 : Int)) = 1048576 - (n1 : Int) := IntWalk.i64_in _ (by omega)
    by_cases hb : n1 + n2 ≤ 1048576
    · have hb' : (n2 : Int) ≤ 1048576 - (n1 : Int) := by omega
      have hO : decide (¬ n1 + n2 ≤ 1048576) = false := by simpa using hb
      rw [hO]
      clear hO
      go_enter Tryd.func4, Tryd.ntmps4
      go_wp2_with fail
      go_ret
      exact ⟨by first | rfl | exact ret_bool (by simp; omega), rfl⟩
    · have hb' : 1048576 - (n1 : Int) < (n2 : Int) := by omega
      have hO : decide (¬ n1 + n2 ≤ 1048576) = true := by simpa using hb
      rw [hO]
      clear hO
      go_enter Tryd.func4, Tryd.ntmps4
      go_wp2_with fail
      go_ret
      exact ⟨by first | rfl | exact ret_bool (by simp; omega), rfl⟩
  · have ha' : 1048576 < (n1 : Int) := by omega
    have hO : decide (¬ n1 + n2 ≤ 1048576) = true := by simp; omega
    rw [hO]
    clear hO
    go_enter Tryd.func4, Tryd.ntmps4
    go_wp2_with fail
    go_ret
    exact ⟨by first | rfl | exact ret_bool (by simp; omega), rfl⟩


theorem dir_all (aq ar bq br : Int) : ∃ (D : Int) (B : Bool),
    (∀ w, Tab w → Calls Tryd.prog 6 #[hx aq ar, hx bq br] w fun e w' => e = .returned (.tuple #[.int .i64 D, .bool B]) ∧ Kp w w') ∧
    (∀ w, Calls Tryd.prog 7 #[hx aq ar, hx bq br] w fun e w' => e = .returned (.tuple #[.int .i64 D, .bool B]) ∧ Kp w w') ∧
    (B = true → (0 ≤ D ∧ D ≤ 5) ∧ (∀ w, Tab w → Calls Tryd.prog 8 #[hx aq ar, .int .i64 D] w fun e w' => e = .returned (.tuple #[hx bq br, .bool true]) ∧ Kp w w') ∧
      (∀ w, Tab w → Calls Tryd.prog 6 #[hx bq br, hx aq ar] w fun e w' => e = .returned (.tuple #[.int .i64 ((D + 3) % 6), .bool true]) ∧ Kp w w')) := by
  refine ⟨(dres aq ar bq br).1, (dres aq ar bq br).2, fun w ht => directionTo_any aq ar bq br w ht, fun w => specDirectionTo_any aq ar bq br w, fun h => ?_⟩
  obtain ⟨hd, hn, e1, e2, hb⟩ := dres_facts h
  refine ⟨hd, fun w ht => ?_, fun w ht => ?_⟩
  · have c := neighbourOf_any aq ar (dres aq ar bq br).1 w ht
    rw [hn, e1, e2, hb3_bif] at c
    exact c
  · have c := directionTo_any bq br aq ar w ht
    rw [hb] at c
    exact c
theorem turn_all (q r cq cr k : Int) : ∃ (x y : Int) (B : Bool),
    (∀ w, Calls Tryd.prog 10 #[hx q r, hx cq cr, .int .i64 k] w fun e w' => e = .returned (.tuple #[hx x y, .bool B]) ∧ Kp w w') ∧
    (∀ w, Calls Tryd.prog 11 #[hx q r, hx cq cr, .int .i64 k] w fun e w' => e = .returned (.tuple #[hx x y, .bool B]) ∧ Kp w w') ∧
    (B = true → ∀ w, Calls Tryd.prog 14 #[hx x y, hx cq cr] w fun e w' => e = .returned (.tuple #[.int .i64 (distOf q r cq cr), .bool true]) ∧ Kp w w') := by
  refine ⟨bif turnOk q r cq cr k then cq + (turnN (q - cq) (r - cr) k.toNat).1 else 0, bif turnOk q r cq cr k then cr + (turnN (q - cq) (r - cr) k.toNat).2 else 0, turnOk q r cq cr k, fun w => ?_, fun w => ?_, fun h w => ?_⟩
  · have c := turnHex_any q r cq cr k w
    rw [hb3_bif] at c
    exact c
  · have c := specTurnHex_any q r cq cr k w
    rw [hb3_bif] at c
    exact c
  · obtain ⟨e1, e2⟩ := turn_facts h
    rw [h]
    have c := distanceOf_any (cq + (turnN (q - cq) (r - cr) k.toNat).1) (cr + (turnN (q - cq) (r - cr) k.toNat).2) cq cr w
    rw [e1, e2] at c
    exact c
theorem mir_all (q r cq cr : Int) : ∃ (x y : Int) (B : Bool),
    (∀ w, Calls Tryd.prog 12 #[hx q r, hx cq cr] w fun e w' => e = .returned (.tuple #[hx x y, .bool B]) ∧ Kp w w') ∧
    (∀ w, Calls Tryd.prog 13 #[hx q r, hx cq cr] w fun e w' => e = .returned (.tuple #[hx x y, .bool B]) ∧ Kp w w') ∧
    (B = true → ∀ w, Calls Tryd.prog 14 #[hx x y, hx cq cr] w fun e w' => e = .returned (.tuple #[.int .i64 (distOf q r cq cr), .bool true]) ∧ Kp w w') := by
  refine ⟨bif mirOk q r cq cr then cq + (r - cr) else 0, bif mirOk q r cq cr then cr + (q - cq) else 0, mirOk q r cq cr, fun w => ?_, fun w => ?_, fun h w => ?_⟩
  · have c := mirrorHex_any q r cq cr w
    rw [hb3_bif] at c
    exact c
  · have c := specMirrorHex_any q r cq cr w
    rw [hb3_bif] at c
    exact c
  · obtain ⟨e1, e2⟩ := mir_facts h
    rw [h]
    have c := distanceOf_any (cq + (r - cr)) (cr + (q - cq)) cq cr w
    rw [e1, e2] at c
    exact c

set_option maxRecDepth 100000 in
set_option maxHeartbeats 32000000 in
theorem walk (A1 A2 : Option Addr) (n1 c1 n2 c2 : Nat) (w : World) (hb1 : RdBy w A1 n1) (hb2 : RdBy w A2 n2) (h1 : n1 ≤ 9223372036854775807) (h2 : n2 ≤ 9223372036854775807) (ht : Tab w) :
    Calls Tryd.prog 3 #[.slice A1 n1 c1, .slice A2 n2 c2] w fun e' w' => e' = .returned (.bool true) ∧ Kp w w' := by
  have CB := Lib.hid (big_any A1 A2 n1 c1 n2 c2 w h1 h2)
  have HB1 := Lib.hid hb1
  have HB2 := Lib.hid hb2
  have HT := Lib.hid ht
  clear hb1 hb2 ht
  by_cases hbig : ¬ n1 + n2 ≤ 1048576
  · rw [decide_eq_true hbig] at CB
    go_enter Tryd.func3, Tryd.ntmps3
    go_wp2_with fail
    refine CB.out.mono ?_
    rintro e0 w0 ⟨rfl, rfl⟩
    go_wp2_with fail
    go_ret
    exact ⟨rfl, Kp.refl _⟩
  rw [decide_eq_false hbig] at CB
  clear hbig
  go_enter Tryd.func3, Tryd.ntmps3
  go_wp2_with fail
  refine CB.out.mono ?_
  rintro e0 w0 ⟨rfl, rfl⟩
  clear CB
  go_wp2_with fail
  refine (drawDirectionTo_any A1 n1 c1 w HB1.out h1).mono ?_
  rintro e1 w1 ⟨aq, ar, bq, br, rfl, k1⟩
  have K1 := Lib.hid (((k1).alloc (.cells #[.int .i64 aq, .int .i64 ar] 25)).alloc (.cells #[.int .i64 bq, .int .i64 br] 25))
  have s1 : ((w1.alloc (.cells #[.int .i64 aq, .int .i64 ar] 25)).alloc (.cells #[.int .i64 bq, .int .i64 br] 25)).cell? ⟨w1.heap.size, 0, none⟩ = some (.int .i64 aq) ∧ ((w1.alloc (.cells #[.int .i64 aq, .int .i64 ar] 25)).alloc (.cells #[.int .i64 bq, .int .i64 br] 25)).cell? ⟨w1.heap.size, 1, none⟩ = some (.int .i64 ar) ∧ ((w1.alloc (.cells #[.int .i64 aq, .int .i64 ar] 25)).alloc (.cells #[.int .i64 bq, .int .i64 br] 25)).cell? ⟨w1.heap.size + 1, 0, none⟩ = some (.int .i64 bq) ∧ ((w1.alloc (.cells #[.int .i64 aq, .int .i64 ar] 25)).alloc (.cells #[.int .i64 bq, .int .i64 br] 25)).cell? ⟨w1.heap.size + 1, 1, none⟩ = some (.int .i64 br) := by simp [go_sem]
  clear k1
  go_upto_region 4 with fail
  generalize (w1.alloc (.cells #[.int .i64 aq, .int .i64 ar] 25)).alloc (.cells #[.int .i64 bq, .int .i64 br] 25) = W1 at *
  obtain ⟨D, B, hD1, hD2, hD3⟩ := dir_all aq ar bq br
  have HD1 := Lib.hid hD1
  have HD2 := Lib.hid hD2
  have HD3 := Lib.hid hD3
  have eB : (B != B) = false := by simp
  have eD : (D != D) = false := by simp
  clear hD1 hD2 hD3
  go_wp2_with fail
  refine (HD1.out _ (HT.out.keep K1.out)).mono ?_
  rintro e2 w2 ⟨rfl, k2⟩
  have s2 := k2.four s1
  have K2 := Lib.hid (K1.out.trans k2)
  clear k2 s1 HD1
  go_wp2_with fail
  refine (HD2.out _).mono ?_
  rintro e3 w3 ⟨rfl, k3⟩
  have s3 := k3.four s2
  have K3 := Lib.hid (K2.out.trans k3)
  clear k3 s2 HD2 K1 K2
  cases B
  · go_upto_region 13 with fail
    have K9 := K3
    clear K3 s3 HD3
    generalize w3 = w9 at *
    go_wp2_with fail
    refine (drawTurnHex_any A2 n2 c2 w9 (HB2.out.keep K9.out) h2).mono ?_
    rintro e10 w10 ⟨q, r, cq, cr, k, rfl, k10⟩
    have K10 := Lib.hid (K9.out.trans ((k10.alloc (.cells #[.int .i64 q, .int .i64 r] 25)).alloc (.cells #[.int .i64 cq, .int .i64 cr] 25)))
    have s10 : ((w10.alloc (.cells #[.int .i64 q, .int .i64 r] 25)).alloc (.cells #[.int .i64 cq, .int .i64 cr] 25)).cell? ⟨w10.heap.size, 0, none⟩ = some (.int .i64 q) ∧ ((w10.alloc (.cells #[.int .i64 q, .int .i64 r] 25)).alloc (.cells #[.int .i64 cq, .int .i64 cr] 25)).cell? ⟨w10.heap.size, 1, none⟩ = some (.int .i64 r) ∧ ((w10.alloc (.cells #[.int .i64 q, .int .i64 r] 25)).alloc (.cells #[.int .i64 cq, .int .i64 cr] 25)).cell? ⟨w10.heap.size + 1, 0, none⟩ = some (.int .i64 cq) ∧ ((w10.alloc (.cells #[.int .i64 q, .int .i64 r] 25)).alloc (.cells #[.int .i64 cq, .int .i64 cr] 25)).cell? ⟨w10.heap.size + 1, 1, none⟩ = some (.int .i64 cr) := by simp [go_sem]
    clear k10 K9
    go_upto_region 14 with fail
    obtain ⟨p0, hp0⟩ : ∃ b, b = w10.heap.size := ⟨_, rfl⟩
    rw [← hp0] at s10 ⊢
    generalize (w10.alloc (.cells #[.int .i64 q, .int .i64 r] 25)).alloc (.cells #[.int .i64 cq, .int .i64 cr] 25) = W10 at *
    clear hp0
    obtain ⟨xq, xr, T, hT1, hT2, hT3⟩ := turn_all q r cq cr k
    obtain ⟨yq, yr, M, hM1, hM2, hM3⟩ := mir_all q r cq cr
    have CI := Lib.hid (fun w => distanceOf_any q r cq cr w)
    have CS := Lib.hid (fun w => specDistanceOf_any q r cq cr w)
    generalize distOf q r cq cr = N at *
    generalize ok2 q r cq cr = O at *
    have HT1 := Lib.hid hT1
    have HT2 := Lib.hid hT2
    have HT3 := Lib.hid hT3
    have HM1 := Lib.hid hM1
    have HM2 := Lib.hid hM2
    have HM3 := Lib.hid hM3
    have eT : (T != T) = false := by simp
    have eM : (M != M) = false := by simp
    have eO : (O != O) = false := by simp
    have eN : (N != N) = false := by simp
    have ex1 : (xq != xq) = false := by simp
    have ex2 : (xr != xr) = false := by simp
    have ey1 : (yq != yq) = false := by simp
    have ey2 : (yr != yr) = false := by simp
    clear hT1 hT2 hT3 hM1 hM2 hM3
    go_wp2_with fail
    refine (HT1.out _).mono ?_
    rintro e11 w11 ⟨rfl, k11⟩
    have s11 := (k11.alloc (.cells #[.int .i64 xq, .int .i64 xr] 25)).four s10
    have K11 := Lib.hid (K10.out.trans (k11.alloc (.cells #[.int .i64 xq, .int .i64 xr] 25)))
    have x11_11 : (w11.alloc (.cells #[.int .i64 xq, .int .i64 xr] 25)).cell? ⟨w11.heap.size, 0, none⟩ = some (.int .i64 xq) ∧ (w11.alloc (.cells #[.int .i64 xq, .int .i64 xr] 25)).cell? ⟨w11.heap.size, 1, none⟩ = some (.int .i64 xr) := by simp [go_sem]
    clear k11 s10 K10 HT1 
    go_upto_region 15 with fail
    obtain ⟨p11, hp11⟩ : ∃ b, b = w11.heap.size := ⟨_, rfl⟩
    rw [← hp11] at x11_11 ⊢
    generalize w11.alloc (.cells #[.int .i64 xq, .int .i64 xr] 25) = W11 at *
    clear hp11
    go_wp2_with fail
    refine (HT2.out _).mono ?_
    rintro e12 w12 ⟨rfl, k12⟩
    have s12 := (k12.alloc (.cells #[.int .i64 xq, .int .i64 xr] 25)).four s11
    have x11_12 := (k12.alloc (.cells #[.int .i64 xq, .int .i64 xr] 25)).two x11_11
    have K12 := Lib.hid (K11.out.trans (k12.alloc (.cells #[.int .i64 xq, .int .i64 xr] 25)))
    have x12_12 : (w12.alloc (.cells #[.int .i64 xq, .int .i64 xr] 25)).cell? ⟨w12.heap.size, 0, none⟩ = some (.int .i64 xq) ∧ (w12.alloc (.cells #[.int .i64 xq, .int .i64 xr] 25)).cell? ⟨w12.heap.size, 1, none⟩ = some (.int .i64 xr) := by simp [go_sem]
    clear k12 s11 K11 HT2 x11_11
    go_upto_region 16 with fail
    obtain ⟨p12, hp12⟩ : ∃ b, b = w12.heap.size := ⟨_, rfl⟩
    rw [← hp12] at x12_12 ⊢
    generalize w12.alloc (.cells #[.int .i64 xq, .int .i64 xr] 25) = W12 at *
    clear hp12
    go_wp2_with fail
    refine (HM1.out _).mono ?_
    rintro e13 w13 ⟨rfl, k13⟩
    have s13 := (k13.alloc (.cells #[.int .i64 yq, .int .i64 yr] 25)).four s12
    have x11_13 := (k13.alloc (.cells #[.int .i64 yq, .int .i64 yr] 25)).two x11_12
    have x12_13 := (k13.alloc (.cells #[.int .i64 yq, .int .i64 yr] 25)).two x12_12
    have K13 := Lib.hid (K12.out.trans (k13.alloc (.cells #[.int .i64 yq, .int .i64 yr] 25)))
    have x13_13 : (w13.alloc (.cells #[.int .i64 yq, .int .i64 yr] 25)).cell? ⟨w13.heap.size, 0, none⟩ = some (.int .i64 yq) ∧ (w13.alloc (.cells #[.int .i64 yq, .int .i64 yr] 25)).cell? ⟨w13.heap.size, 1, none⟩ = some (.int .i64 yr) := by simp [go_sem]
    clear k13 s12 K12 HM1 x11_12 x12_12
    go_upto_region 17 with fail
    obtain ⟨p13, hp13⟩ : ∃ b, b = w13.heap.size := ⟨_, rfl⟩
    rw [← hp13] at x13_13 ⊢
    generalize w13.alloc (.cells #[.int .i64 yq, .int .i64 yr] 25) = W13 at *
    clear hp13
    go_wp2_with fail
    refine (HM2.out _).mono ?_
    rintro e14 w14 ⟨rfl, k14⟩
    have s14 := (k14.alloc (.cells #[.int .i64 yq, .int .i64 yr] 25)).four s13
    have x11_14 := (k14.alloc (.cells #[.int .i64 yq, .int .i64 yr] 25)).two x11_13
    have x12_14 := (k14.alloc (.cells #[.int .i64 yq, .int .i64 yr] 25)).two x12_13
    have x13_14 := (k14.alloc (.cells #[.int .i64 yq, .int .i64 yr] 25)).two x13_13
    have K14 := Lib.hid (K13.out.trans (k14.alloc (.cells #[.int .i64 yq, .int .i64 yr] 25)))
    have x14_14 : (w14.alloc (.cells #[.int .i64 yq, .int .i64 yr] 25)).cell? ⟨w14.heap.size, 0, none⟩ = some (.int .i64 yq) ∧ (w14.alloc (.cells #[.int .i64 yq, .int .i64 yr] 25)).cell? ⟨w14.heap.size, 1, none⟩ = some (.int .i64 yr) := by simp [go_sem]
    clear k14 s13 K13 HM2 x11_13 x12_13 x13_13
    go_upto_region 18 with fail
    obtain ⟨p14, hp14⟩ : ∃ b, b = w14.heap.size := ⟨_, rfl⟩
    rw [← hp14] at x14_14 ⊢
    generalize w14.alloc (.cells #[.int .i64 yq, .int .i64 yr] 25) = W14 at *
    clear hp14
    go_wp2_with fail
    refine (CI.out _).mono ?_
    rintro e15 w15 ⟨rfl, k15⟩
    have s15 := k15.four s14
    have x11_15 := k15.two x11_14
    have x13_15 := k15.two x13_14
    have K15 := Lib.hid (K14.out.trans k15)
    clear k15 s14 x11_14 x12_14 x13_14 x14_14 K14 CI
    go_wp2_with fail
    refine (CS.out _).mono ?_
    rintro e16 w16 ⟨rfl, k16⟩
    have s16 := k16.four s15
    have x11_16 := k16.two x11_15
    have x13_16 := k16.two x13_15
    have K16 := Lib.hid (K15.out.trans k16)
    clear k16 s15 x11_15 x13_15 K15 CS
    cases T
    · cases M
      · go_wp2_with fail
        go_ret
        exact ⟨rfl, K16.out⟩
      · have HY := Lib.hid (HM3.out rfl)
        have eE : (N == N) = true := by simp
        clear HM3
        go_wp2_with fail
        refine (HY.out _).mono ?_
        rintro e18 w18 ⟨rfl, k18⟩
        have K18 := Lib.hid (K16.out.trans k18)
        go_wp2_with fail
        go_ret
        exact ⟨rfl, K18.out⟩
    · have HX := Lib.hid (HT3.out rfl)
      clear HT3
      go_wp2_with fail
      refine (HX.out _).mono ?_
      rintro e17 w17 ⟨rfl, k17⟩
      have s17 := k17.four s16
      have x13_17 := k17.two x13_16
      have K17 := Lib.hid (K16.out.trans k17)
      clear k17 s16 x11_16 x13_16 K16 HX
      cases M
      · go_wp2_with fail
        go_ret
        exact ⟨rfl, K17.out⟩
      · have HY := Lib.hid (HM3.out rfl)
        have eE : (N == N) = true := by simp
        clear HM3
        go_wp2_with fail
        refine (HY.out _).mono ?_
        rintro e18 w18 ⟨rfl, k18⟩
        have K18 := Lib.hid (K17.out.trans k18)
        go_wp2_with fail
        go_ret
        exact ⟨rfl, K18.out⟩
  · obtain ⟨hd, hN, hM⟩ := HD3.out rfl
    have HN := Lib.hid hN
    have HM := Lib.hid hM
    have ew : IntKind.i64.wrap (D + 3) = D + 3 := IntWalk.i64_in _ (by omega)
    have ed : ((D + 3) % 6 != (D + 3) % 6) = false := by simp
    have eq1 : (bq != bq) = false := by simp
    have eq2 : (br != br) = false := by simp
    clear hN hM HD3
    go_wp2_with fail
    refine (HN.out _ (HT.out.keep K3.out)).mono ?_
    rintro e4 w4 ⟨rfl, k4⟩
    have s4 := (k4.alloc (.cells #[.int .i64 bq, .int .i64 br] 25)).four s3
    have K4 := Lib.hid (K3.out.trans (k4.alloc (.cells #[.int .i64 bq, .int .i64 br] 25)))
    have x4 : (w4.alloc (.cells #[.int .i64 bq, .int .i64 br] 25)).cell? ⟨w4.heap.size, 0, none⟩ = some (.int .i64 bq) ∧ (w4.alloc (.cells #[.int .i64 bq, .int .i64 br] 25)).cell? ⟨w4.heap.size, 1, none⟩ = some (.int .i64 br) := by simp [go_sem]
    clear k4 s3 K3
    go_upto_region 10 with fail
    generalize w4.alloc (.cells #[.int .i64 bq, .int .i64 br] 25) = W4 at *
    go_wp2_with fail
    refine (HM.out _ (HT.out.keep K4.out)).mono ?_
    rintro e5 w9 ⟨rfl, k5⟩
    have s5 := k5.four s4
    have x5 := k5.two x4
    have K9 := Lib.hid (K4.out.trans k5)
    clear k5 s4 x4 K4 HM
    go_upto_region 13 with fail
    clear s5 x5 ew ed eq1 eq2 hd HN
    go_wp2_with fail
    refine (drawTurnHex_any A2 n2 c2 w9 (HB2.out.keep K9.out) h2).mono ?_
    rintro e10 w10 ⟨q, r, cq, cr, k, rfl, k10⟩
    have K10 := Lib.hid (K9.out.trans ((k10.alloc (.cells #[.int .i64 q, .int .i64 r] 25)).alloc (.cells #[.int .i64 cq, .int .i64 cr] 25)))
    have s10 : ((w10.alloc (.cells #[.int .i64 q, .int .i64 r] 25)).alloc (.cells #[.int .i64 cq, .int .i64 cr] 25)).cell? ⟨w10.heap.size, 0, none⟩ = some (.int .i64 q) ∧ ((w10.alloc (.cells #[.int .i64 q, .int .i64 r] 25)).alloc (.cells #[.int .i64 cq, .int .i64 cr] 25)).cell? ⟨w10.heap.size, 1, none⟩ = some (.int .i64 r) ∧ ((w10.alloc (.cells #[.int .i64 q, .int .i64 r] 25)).alloc (.cells #[.int .i64 cq, .int .i64 cr] 25)).cell? ⟨w10.heap.size + 1, 0, none⟩ = some (.int .i64 cq) ∧ ((w10.alloc (.cells #[.int .i64 q, .int .i64 r] 25)).alloc (.cells #[.int .i64 cq, .int .i64 cr] 25)).cell? ⟨w10.heap.size + 1, 1, none⟩ = some (.int .i64 cr) := by simp [go_sem]
    clear k10 K9
    go_upto_region 14 with fail
    obtain ⟨p0, hp0⟩ : ∃ b, b = w10.heap.size := ⟨_, rfl⟩
    rw [← hp0] at s10 ⊢
    generalize (w10.alloc (.cells #[.int .i64 q, .int .i64 r] 25)).alloc (.cells #[.int .i64 cq, .int .i64 cr] 25) = W10 at *
    clear hp0
    obtain ⟨xq, xr, T, hT1, hT2, hT3⟩ := turn_all q r cq cr k
    obtain ⟨yq, yr, M, hM1, hM2, hM3⟩ := mir_all q r cq cr
    have CI := Lib.hid (fun w => distanceOf_any q r cq cr w)
    have CS := Lib.hid (fun w => specDistanceOf_any q r cq cr w)
    generalize distOf q r cq cr = N at *
    generalize ok2 q r cq cr = O at *
    have HT1 := Lib.hid hT1
    have HT2 := Lib.hid hT2
    have HT3 := Lib.hid hT3
    have HM1 := Lib.hid hM1
    have HM2 := Lib.hid hM2
    have HM3 := Lib.hid hM3
    have eT : (T != T) = false := by simp
    have eM : (M != M) = false := by simp
    have eO : (O != O) = false := by simp
    have eN : (N != N) = false := by simp
    have ex1 : (xq != xq) = false := by simp
    have ex2 : (xr != xr) = false := by simp
    have ey1 : (yq != yq) = false := by simp
    have ey2 : (yr != yr) = false := by simp
    clear hT1 hT2 hT3 hM1 hM2 hM3
    go_wp2_with fail
    refine (HT1.out _).mono ?_
    rintro e11 w11 ⟨rfl, k11⟩
    have s11 := (k11.alloc (.cells #[.int .i64 xq, .int .i64 xr] 25)).four s10
    have K11 := Lib.hid (K10.out.trans (k11.alloc (.cells #[.int .i64 xq, .int .i64 xr] 25)))
    have x11_11 : (w11.alloc (.cells #[.int .i64 xq, .int .i64 xr] 25)).cell? ⟨w11.heap.size, 0, none⟩ = some (.int .i64 xq) ∧ (w11.alloc (.cells #[.int .i64 xq, .int .i64 xr] 25)).cell? ⟨w11.heap.size, 1, none⟩ = some (.int .i64 xr) := by simp [go_sem]
    clear k11 s10 K10 HT1 
    go_upto_region 15 with fail
    obtain ⟨p11, hp11⟩ : ∃ b, b = w11.heap.size := ⟨_, rfl⟩
    rw [← hp11] at x11_11 ⊢
    generalize w11.alloc (.cells #[.int .i64 xq, .int .i64 xr] 25) = W11 at *
    clear hp11
    go_wp2_with fail
    refine (HT2.out _).mono ?_
    rintro e12 w12 ⟨rfl, k12⟩
    have s12 := (k12.alloc (.cells #[.int .i64 xq, .int .i64 xr] 25)).four s11
    have x11_12 := (k12.alloc (.cells #[.int .i64 xq, .int .i64 xr] 25)).two x11_11
    have K12 := Lib.hid (K11.out.trans (k12.alloc (.cells #[.int .i64 xq, .int .i64 xr] 25)))
    have x12_12 : (w12.alloc (.cells #[.int .i64 xq, .int .i64 xr] 25)).cell? ⟨w12.heap.size, 0, none⟩ = some (.int .i64 xq) ∧ (w12.alloc (.cells #[.int .i64 xq, .int .i64 xr] 25)).cell? ⟨w12.heap.size, 1, none⟩ = some (.int .i64 xr) := by simp [go_sem]
    clear k12 s11 K11 HT2 x11_11
    go_upto_region 16 with fail
    obtain ⟨p12, hp12⟩ : ∃ b, b = w12.heap.size := ⟨_, rfl⟩
    rw [← hp12] at x12_12 ⊢
    generalize w12.alloc (.cells #[.int .i64 xq, .int .i64 xr] 25) = W12 at *
    clear hp12
    go_wp2_with fail
    refine (HM1.out _).mono ?_
    rintro e13 w13 ⟨rfl, k13⟩
    have s13 := (k13.alloc (.cells #[.int .i64 yq, .int .i64 yr] 25)).four s12
    have x11_13 := (k13.alloc (.cells #[.int .i64 yq, .int .i64 yr] 25)).two x11_12
    have x12_13 := (k13.alloc (.cells #[.int .i64 yq, .int .i64 yr] 25)).two x12_12
    have K13 := Lib.hid (K12.out.trans (k13.alloc (.cells #[.int .i64 yq, .int .i64 yr] 25)))
    have x13_13 : (w13.alloc (.cells #[.int .i64 yq, .int .i64 yr] 25)).cell? ⟨w13.heap.size, 0, none⟩ = some (.int .i64 yq) ∧ (w13.alloc (.cells #[.int .i64 yq, .int .i64 yr] 25)).cell? ⟨w13.heap.size, 1, none⟩ = some (.int .i64 yr) := by simp [go_sem]
    clear k13 s12 K12 HM1 x11_12 x12_12
    go_upto_region 17 with fail
    obtain ⟨p13, hp13⟩ : ∃ b, b = w13.heap.size := ⟨_, rfl⟩
    rw [← hp13] at x13_13 ⊢
    generalize w13.alloc (.cells #[.int .i64 yq, .int .i64 yr] 25) = W13 at *
    clear hp13
    go_wp2_with fail
    refine (HM2.out _).mono ?_
    rintro e14 w14 ⟨rfl, k14⟩
    have s14 := (k14.alloc (.cells #[.int .i64 yq, .int .i64 yr] 25)).four s13
    have x11_14 := (k14.alloc (.cells #[.int .i64 yq, .int .i64 yr] 25)).two x11_13
    have x12_14 := (k14.alloc (.cells #[.int .i64 yq, .int .i64 yr] 25)).two x12_13
    have x13_14 := (k14.alloc (.cells #[.int .i64 yq, .int .i64 yr] 25)).two x13_13
    have K14 := Lib.hid (K13.out.trans (k14.alloc (.cells #[.int .i64 yq, .int .i64 yr] 25)))
    have x14_14 : (w14.alloc (.cells #[.int .i64 yq, .int .i64 yr] 25)).cell? ⟨w14.heap.size, 0, none⟩ = some (.int .i64 yq) ∧ (w14.alloc (.cells #[.int .i64 yq, .int .i64 yr] 25)).cell? ⟨w14.heap.size, 1, none⟩ = some (.int .i64 yr) := by simp [go_sem]
    clear k14 s13 K13 HM2 x11_13 x12_13 x13_13
    go_upto_region 18 with fail
    obtain ⟨p14, hp14⟩ : ∃ b, b = w14.heap.size := ⟨_, rfl⟩
    rw [← hp14] at x14_14 ⊢
    generalize w14.alloc (.cells #[.int .i64 yq, .int .i64 yr] 25) = W14 at *
    clear hp14
    go_wp2_with fail
    refine (CI.out _).mono ?_
    rintro e15 w15 ⟨rfl, k15⟩
    have s15 := k15.four s14
    have x11_15 := k15.two x11_14
    have x13_15 := k15.two x13_14
    have K15 := Lib.hid (K14.out.trans k15)
    clear k15 s14 x11_14 x12_14 x13_14 x14_14 K14 CI
    go_wp2_with fail
    refine (CS.out _).mono ?_
    rintro e16 w16 ⟨rfl, k16⟩
    have s16 := k16.four s15
    have x11_16 := k16.two x11_15
    have x13_16 := k16.two x13_15
    have K16 := Lib.hid (K15.out.trans k16)
    clear k16 s15 x11_15 x13_15 K15 CS
    cases T
    · cases M
      · go_wp2_with fail
        go_ret
        exact ⟨rfl, K16.out⟩
      · have HY := Lib.hid (HM3.out rfl)
        have eE : (N == N) = true := by simp
        clear HM3
        go_wp2_with fail
        refine (HY.out _).mono ?_
        rintro e18 w18 ⟨rfl, k18⟩
        have K18 := Lib.hid (K16.out.trans k18)
        go_wp2_with fail
        go_ret
        exact ⟨rfl, K18.out⟩
    · have HX := Lib.hid (HT3.out rfl)
      clear HT3
      go_wp2_with fail
      refine (HX.out _).mono ?_
      rintro e17 w17 ⟨rfl, k17⟩
      have s17 := k17.four s16
      have x13_17 := k17.two x13_16
      have K17 := Lib.hid (K16.out.trans k17)
      clear k17 s16 x11_16 x13_16 K16 HX
      cases M
      · go_wp2_with fail
        go_ret
        exact ⟨rfl, K17.out⟩
      · have HY := Lib.hid (HM3.out rfl)
        have eE : (N == N) = true := by simp
        clear HM3
        go_wp2_with fail
        refine (HY.out _).mono ?_
        rintro e18 w18 ⟨rfl, k18⟩
        have K18 := Lib.hid (K17.out.trans k18)
        go_wp2_with fail
        go_ret
        exact ⟨rfl, K18.out⟩

set_option maxRecDepth 100000 in
theorem contract (H : Type) (enc : TypeId × Value → H) (W : World) (base : Nat) (args : Array Value) (ds gs : List (DataW H)) (before : List MemPlace)
    (hval : ∀ (j : Nat) t v, Tryd.f3.params[j]? = some t → args[j]? = some v → Value.okWide Tryd.prog W .any base t v)
    (hW : DataW.Whole enc Tryd.prog Tryd.f3.params.toList Rows.fnStepsSpec.vars false W args.toList ds gs before) (hL : laidMetH Tryd.prog Rows.fnStepsRow.laid W) :
    Calls Tryd.prog 3 args W fun e W' => ∃ v, e = .returned v ∧ Rows.fnStepsSpec.post enc Tryd.prog Tryd.f3 false true false false W args v W' := by
  have hW' := hW
  obtain ⟨p, q, hA0, hV, rfl, hfz, hnd⟩ := hW
  have hA : DataW.TrodAll enc Tryd.prog W 0 (fun _ => true) true Tryd.f3.params.toList args.toList ds p := hA0
  rw [Tryd.params3] at hA hval
  obtain ⟨v0, v1, d0, d1, p0, p1, rfl, rfl, rfl, h0, h1⟩ := trodAll_two hA
  obtain ⟨_, _, _, _, g0, _, rfl, _, _, _, _, _⟩ := trodVars_one hV
  obtain ⟨A0, m0, q0, rfl, hr0, hm0⟩ := rdBy_of_trod (hval 0 22 v0 rfl rfl) h0
  obtain ⟨A1, m1, q1, rfl, hr1, hm1⟩ := rdBy_of_trod (hval 1 22 v1 rfl rfl) h1
  refine (walk A0 A1 m0 q0 m1 q1 W hr0 hr1 hm0 hm1 (tab_of_laid hL)).mono fun e W' ⟨he, hg⟩ => ?_
  subst he
  exact ⟨_, rfl, law_post hW' laidOut (by kernel_rfl) (by kernel_rfl) (by kernel_rfl) Tryd.underlying4 rfl hg⟩

theorem laid_met (os : Os) : laidMet Tryd.prog Rows.fnStepsRow.laid ((laidWorld os).forCall (fun _ _ => 0) ⟨#[], #[.slice none 0 0, .slice none 0 0], []⟩).memory :=
  laidMet_of_run' 8 (by kernel_rfl) (by kernel_rfl)
theorem reads (os : Os) {H : Type} (enc : TypeId × Value → H) : ∃ ds gs places, DataW.whole enc Tryd.prog ((laidWorld os).forCall (fun _ _ => 0) ⟨#[], #[.slice none 0 0, .slice none 0 0], []⟩).memory Tryd.f3.params.toList Rows.fnStepsSpec.vars false #[.slice none 0 0, .slice none 0 0].toList 8 = some (ds, gs, places) :=
  ⟨[.nil, .nil], [Rows.laid_loop_example_g00886_impl_directionSteps], MemPlace.row ⟨0, 0, none⟩ 12, by kernel_rfl⟩

set_option maxRecDepth 100000 in
theorem lifted (os : Os) (started : os.Started) (H : Type) (enc : TypeId × Value → H) (F : Stop.Interp) :
    ReturnsInHanded {} Tryd.checked os 3 .any ((OpenSpec.ofChange Rows.fnStepsSpec).preRow enc Tryd.prog Tryd.f3 Rows.fnStepsRow.domain false Rows.fnStepsRow.laid) (((OpenSpec.ofChange Rows.fnStepsSpec).at F).post enc Tryd.prog Tryd.f3 false true false false) := by
  obtain ⟨ds, gs, places, hx⟩ := reads os enc
  refine returnsInHanded_of_row (C := Tryd.checked) (s := OpenSpec.ofChange Rows.fnStepsSpec) own started (by kernel_rfl) Tryd.func3
    (witness_row_at (enc := enc) (C := Tryd.checked) false (laidWorld os) #[.slice none 0 0, .slice none 0 0] rfl (by kernel_rfl) (by kernel_rfl) (by kernel_rfl)
      (OpenSpec.preRow_of_cond 8 hx (by kernel_rfl) (fun k hk => by cases hk) (by kernel_rfl) (laid_met os))) ?_
  intro W base args ds gs before hval hW _ _ _ hL _ _
  exact contract H enc W base args ds gs before hval hW hL

theorem said : Rows.FnStepsSaid :=
  OpenClaim.holds_of_cond 3 Tryd.f3 rfl rfl rfl rfl rfl rfl rfl ⟨rfl, rfl, rfl, rfl, rfl⟩ rfl rfl rfl rfl rfl (by kernel_rfl) Tryd.func3 (by kernel_rfl)
    (of_decide_eq_true (by kernel_rfl)) (by unfold Func.isWrapper; first | (rw [if_pos (by decide +kernel)]; kernel_rfl) | (rw [if_neg (by decide +kernel)]; exact ⟨rfl, rfl⟩))
    (fun os started H enc _ F => by rw [OpenClaim.pre_eq_preRow]; exact lifted os started H enc F)

theorem plain (f : FuncId) (fn : Func) (hf : Tryd.pinned.checked.prog.funcNamed "loop.example/g00886/laws.FnSteps" = some f) (hfn : Tryd.pinned.checked.prog.funcs[f]? = some fn) :
    false = Tryd.pinned.checked.prog.looks [] ∧ ∀ (j : Nat) t, fn.params[j]? = some t → Tryd.pinned.checked.prog.wantsStandIn t = false := by
  obtain rfl : f = 3 := Option.some.inj ((show Tryd.prog.funcNamed "loop.example/g00886/laws.FnSteps" = some 3 by kernel_rfl).symm.trans hf) |>.symm
  obtain rfl : fn = Tryd.f3 := (Option.some.inj (Tryd.func3.symm.trans hfn)).symm
  refine ⟨by kernel_rfl, fun j t ht => ?_⟩
  rw [Tryd.params3] at ht
  have hm := Array.mem_of_getElem? ht
  simp only [List.mem_toArray, List.mem_cons, List.not_mem_nil, or_false] at hm
  rcases hm with rfl | rfl
  · exact (show Tryd.prog.wantsStandIn 22 = false by kernel_rfl)
  · exact (show Tryd.prog.wantsStandIn 22 = false by kernel_rfl)

/-- The card: the row, with what it lists tied to the program's text. -/
theorem card : Rows.FnStepsCardSaid :=
  Claim7.holds_tied_plain_at .later [] _ _ _ _ said (fun _ h => by cases h) (by kernel_rfl) (fun _ h => by cases h) fnSteps_row_tie rfl ⟨rfl, rfl⟩ (by kernel_rfl) rfl plain (by kernel_rfl)
#print axioms card

end Go.Proofs.YtejgfjffndjjnaaDoor.fnStepsLaw
