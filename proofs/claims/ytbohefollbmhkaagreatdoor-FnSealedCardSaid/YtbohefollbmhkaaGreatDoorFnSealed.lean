/-
  The law on seals holds at all bytes: seals of drawn openings are the reference's, they open to what was sealed, their texts are read back; the first bad opening, the chain of seals, the first bad seal and the joint seed are the reference's. The named variables hold what the program's text lays (the card ties them).
-/
import Derived.Test.YtbohefollbmhkaaGreatDoorFcFnSealed
import Derived.ChangeSlices
import Derived.OpenShut
import Derived.Test.YtbohefollbmhkaaGreatDoorQe
import Derived.Test.YtbohefollbmhkaaGreatDoorQq
import Derived.Test.YtbohefollbmhkaaGreatDoorQt
import Derived.Test.YtbohefollbmhkaaGreatDoorQu
namespace Go.Proofs.YtbohefollbmhkaaGreatDoor.fnSealedLaw
open Go.ChangeShapes Go.WideShapes Go.ChangeAt Go.RowKit Go.Joins

theorem cellsByte : Tryz.prog.cellsOf 5 = 1 := by kernel_rfl
set_option maxRecDepth 100000 in
/-- An argument that is a slice of bytes. -/
theorem rdBy_of_trod {H : Type} {enc : TypeId × Value → H} {W : World} {base : Nat} {v : Value} {d : DataW H} {p : List MemPlace}
    (hv : Value.okWide Tryz.prog W .any base 22 v) (h : DataW.Trod enc Tryz.prog W 0 (fun _ => true) true 22 v d p) : ∃ A n c, v = .slice A n c ∧ RdBy W A n ∧ n ≤ 9223372036854775807 := by
  obtain ⟨a0, len, cap, rfl⟩ := okWide_slice Tryz.underlying22 hv
  obtain ⟨fuel, hf⟩ := h
  rcases open_ints Tryz.underlying22 Tryz.underlying5 cellsByte hf with ⟨hcs, hx⟩ | ⟨a, len', cap', zs, hcs, _, hl, hm, hz, hx, hcell, hwz⟩
  · simp only [Value.cells, List.cons.injEq, Value.slice.injEq, and_true] at hcs
    obtain ⟨rfl, rfl, rfl⟩ := hcs
    exact ⟨none, 0, 0, rfl, fun h0 => absurd h0 (by omega), by omega⟩
  · simp only [Value.cells, List.cons.injEq, Value.slice.injEq, and_true] at hcs
    obtain ⟨rfl, rfl, rfl⟩ := hcs
    have hzl : len ≤ zs.length := by rw [hz]; simpa using hl
    refine ⟨some a, len, cap, rfl, fun h0 => ?_, by unfold maxLen at hm; omega⟩
    obtain ⟨b, off, rfl, hc⟩ := ints_at hcell (by omega)
    refine ⟨b, off, rfl, fun i hi => ?_⟩
    have hil : i < zs.length := by omega
    have hb := bounds_u8 (hwz (zs.getD i 0) (by rw [List.getD_eq_getElem?_getD, List.getElem?_eq_getElem hil]; exact List.getElem_mem hil))
    exact ⟨_, hb.1, hb.2, hc i hil⟩
theorem big_any (A1 A2 : Option Addr) (n1 c1 n2 c2 : Nat) (w : World) (h1 : n1 ≤ 9223372036854775807) (h2 : n2 ≤ 9223372036854775807) :
    Calls Tryz.prog 4 #[.slice A1 n1 c1, .slice A2 n2 c2] w fun e w' => e = .returned (.bool (decide (¬ n1 + n2 ≤ 1048576))) ∧ w = w' := by
  by_cases ha : n1 ≤ 1048576
  · have ha' : (n1 : Int) ≤ 1048576 := by omega
    have ew : IntKind.i64.wrap (1048576 - (n1 : Int)) = 1048576 - (n1 : Int) := IntWalk.i64_in _ (by omega)
    by_cases hb : n1 + n2 ≤ 1048576
    · have hb' : (n2 : Int) ≤ 1048576 - (n1 : Int) := by omega
      have hO : decide (¬ n1 + n2 ≤ 1048576) = false := by simpa using hb
      rw [hO]
      clear hO
      go_enter Tryz.func4, Tryz.ntmps4
      go_wp2_with fail
      go_ret
      exact ⟨by first | rfl | exact ret_bool (by simp; omega), rfl⟩
    · have hb' : 1048576 - (n1 : Int) < (n2 : Int) := by omega
      have hO : decide (¬ n1 + n2 ≤ 1048576) = true := by simpa using hb
      rw [hO]
      clear hO
      go_enter Tryz.func4, Tryz.ntmps4
      go_wp2_with fail
      go_ret
      exact ⟨by first | rfl | exact ret_bool (by simp; omega), rfl⟩
  · have ha' : 1048576 < (n1 : Int) := by omega
    have hO : decide (¬ n1 + n2 ≤ 1048576) = true := by simp; omega
    rw [hO]
    clear hO
    go_enter Tryz.func4, Tryz.ntmps4
    go_wp2_with fail
    go_ret
    exact ⟨by first | rfl | exact ret_bool (by simp; omega), rfl⟩

set_option maxRecDepth 100000 in
set_option maxHeartbeats 32000000 in
theorem walk (A1 A2 : Option Addr) (n1 c1 n2 c2 : Nat) (w : World) (hb1 : RdBy w A1 n1) (hb2 : RdBy w A2 n2) (h1 : n1 ≤ 9223372036854775807) (h2 : n2 ≤ 9223372036854775807) (hg : SpanAt w 0 0 30 ∧ SpanAt w 1 0 1 ∧ SpanAt w 2 0 4611686016279904236 ∧ SpanAt w 3 0 150 ∧ SpanAt w 4 0 4 ∧ SpanAt w 5 0 200 ∧ Lib.Utf8Tabs 6 7 w ∧ PwAt w ∧ ErAt w) :
    Calls Tryz.prog 3 #[.slice A1 n1 c1, .slice A2 n2 c2] w fun e' w' => e' = .returned (.bool true) ∧ Kp w w' := by
  have CB := Lib.hid (big_any A1 A2 n1 c1 n2 c2 w h1 h2)
  have HB1 := Lib.hid hb1
  have HB2 := Lib.hid hb2
  have HG := Lib.hid hg
  clear hb1 hb2 hg
  by_cases hbig : ¬ n1 + n2 ≤ 1048576
  · rw [decide_eq_true hbig] at CB
    go_enter Tryz.func3, Tryz.ntmps3
    go_wp2_with fail
    refine CB.out.mono ?_
    rintro e0 w0 ⟨rfl, rfl⟩
    go_wp2_with fail
    go_ret
    exact ⟨rfl, Kp.refl _⟩
  rw [decide_eq_false hbig] at CB
  clear hbig
  go_enter Tryz.func3, Tryz.ntmps3
  go_wp2_with fail
  refine CB.out.mono ?_
  rintro e0 w0 ⟨rfl, rfl⟩
  clear CB
  go_wp2_with fail
  refine (drawSealOrders_any A1 n1 c1 _ HB1.out h1).mono ?_
  rintro e1 w1 ⟨t, s, n, x, rfl, hx, k1⟩
  have HB1_1 := Lib.hid (HB1.out.keep k1)
  clear HB1
  have HB2_1 := Lib.hid (HB2.out.keep k1)
  clear HB2
  have K1 := k1
  clear HB1_1
  obtain ⟨y, hy⟩ : ∃ y, y = selN t s n x := ⟨_, rfl⟩
  cases hB : sorB t s ⟨n, x⟩
  · have CP : Hid (∀ (w : World), (SpanAt w 0 0 30 ∧ SpanAt w 1 0 1 ∧ SpanAt w 2 0 4611686016279904236 ∧ SpanAt w 3 0 150 ∧ SpanAt w 4 0 4 ∧ SpanAt w 5 0 200 ∧ Lib.Utf8Tabs 6 7 w ∧ PwAt w ∧ ErAt w) → Calls Tryz.prog 6 #[.int .i64 t, .int .i64 s, opx n x] w fun e w' => e = .returned (.tuple #[slx 0 0 0, .bool false]) ∧ Kp w w') := Lib.hid (fun w g => by have h0 := sealOrdersP_any t s n x w (g.1) (g.2.1) (g.2.2.1) (g.2.2.2.1) (g.2.2.2.2.2.2.1); simp only [hB, sorV, vI_false, ← hy] at h0; exact h0)
    have CS : Hid (∀ (w : World), Calls Tryz.prog 7 #[.int .i64 t, .int .i64 s, opx n x] w fun e w' => e = .returned (.tuple #[slx 0 0 0, .bool false]) ∧ Kp w w') := Lib.hid (fun w => by have h0 := sealOrdersS_any t s n x w; simp only [hB, sorV, vI_false, ← hy] at h0; exact h0)
    clear hB hy
    have eN := neqSl 0 0 0
    have eG := guardNe
    have KA1q1 := (Kp.refl w1).alloc (.cells #[.int .i64 n, .string x] 25)
    have HB2_1q1 := Lib.hid (HB2_1.out.keep KA1q1)
    clear HB2_1
    have X0_1q1 : Hid (OpnAt (w1.alloc (.cells #[.int .i64 n, .string x] 25)) w1.heap.size 0 ⟨n, x⟩) := Lib.hid ⟨by simp [go_sem], by simp [go_sem]⟩
    have K1q1 := K1.trans KA1q1
    obtain ⟨x00, x01⟩ := X0_1q1.out
    simp only [Nat.zero_add] at x00 x01
    go_wp2_with fail
    generalize (w1.alloc (.cells #[.int .i64 n, .string x] 25)) = w1q1 at *
    refine (CP.out _ ⟨(K1q1.two (HG.out.1)), (K1q1.two (HG.out.2.1)), (K1q1.two (HG.out.2.2.1)), (K1q1.two (HG.out.2.2.2.1)), (K1q1.two (HG.out.2.2.2.2.1)), (K1q1.two (HG.out.2.2.2.2.2.1)), (by first | exact Lib.Utf8Tabs_below (HG.out.2.2.2.2.2.2.1) K1q1 | exact Utf8Tabs_below (HG.out.2.2.2.2.2.2.1) K1q1), ((HG.out.2.2.2.2.2.2.2.1).keep K1q1), ((HG.out.2.2.2.2.2.2.2.2).keep K1q1)⟩).mono ?_
    rintro e2 w2 ⟨rfl, k2⟩
    have HB2_2 := Lib.hid (HB2_1q1.out.keep k2)
    clear HB2_1q1
    have X0_2 := Lib.hid (X0_1q1.out.keep k2)
    clear X0_1q1
    have K2 := K1q1.trans k2
    clear CP
    clear x00 x01
    have KA2q2 := (Kp.refl w2).alloc (.cells #[.int .i64 0, .int .i64 0, .int .i64 0] 29)
    have HB2_2q2 := Lib.hid (HB2_2.out.keep KA2q2)
    clear HB2_2
    have X0_2q2 := Lib.hid (X0_2.out.keep KA2q2)
    clear X0_2
    have B0_2q2 : Hid (SeaAt (w2.alloc (.cells #[.int .i64 0, .int .i64 0, .int .i64 0] 29)) w2.heap.size 0 ⟨0, 0, 0⟩) := Lib.hid ⟨by simp [go_sem], by simp [go_sem], by simp [go_sem]⟩
    have K2q2 := K2.trans KA2q2
    obtain ⟨x00, x01⟩ := X0_2q2.out
    simp only [Nat.zero_add] at x00 x01
    go_wp2_with fail
    generalize (w2.alloc (.cells #[.int .i64 0, .int .i64 0, .int .i64 0] 29)) = w2q2 at *
    refine (CS.out _).mono ?_
    rintro e3 w3 ⟨rfl, k3⟩
    have HB2_3 := Lib.hid (HB2_2q2.out.keep k3)
    clear HB2_2q2
    have X0_3 := Lib.hid (X0_2q2.out.keep k3)
    clear X0_2q2
    have B0_3 := Lib.hid (B0_2q2.out.keep k3)
    clear B0_2q2
    have K3 := K2q2.trans k3
    clear CS
    clear x00 x01
    have KA3q3 := (Kp.refl w3).alloc (.cells #[.int .i64 0, .int .i64 0, .int .i64 0] 29)
    have HB2_3q3 := Lib.hid (HB2_3.out.keep KA3q3)
    clear HB2_3
    have X0_3q3 := Lib.hid (X0_3.out.keep KA3q3)
    clear X0_3
    have B0_3q3 := Lib.hid (B0_3.out.keep KA3q3)
    clear B0_3
    have B1_3q3 : Hid (SeaAt (w3.alloc (.cells #[.int .i64 0, .int .i64 0, .int .i64 0] 29)) w3.heap.size 0 ⟨0, 0, 0⟩) := Lib.hid ⟨by simp [go_sem], by simp [go_sem], by simp [go_sem]⟩
    have K3q3 := K3.trans KA3q3
    obtain ⟨b00, b01, b02⟩ := B0_3q3.out
    simp only [Nat.zero_add] at b00 b01 b02
    obtain ⟨b10, b11, b12⟩ := B1_3q3.out
    simp only [Nat.zero_add] at b10 b11 b12
    go_wp2_with fail
    generalize (w3.alloc (.cells #[.int .i64 0, .int .i64 0, .int .i64 0] 29)) = w3q3 at *
    refine (drawFirstBadOpening_any A2 n2 c2 _ HB2_3q3.out h2).mono ?_
    rintro e4 w4 ⟨v, u, l, m, rfl, Rl, Ro, hl, hm, hms, k4⟩
    have HB2_4 := Lib.hid (HB2_3q3.out.keep k4)
    clear HB2_3q3
    have K4 := K3q3.trans k4
    have RL_4 := Lib.hid (Rl)
    have RO_4 := Lib.hid (Ro)
    clear Rl Ro
    obtain ⟨Al, cl, hv, -⟩ := RL_4.out
    subst hv
    obtain ⟨q, hq⟩ : ∃ q, q = l.length := ⟨_, rfl⟩
    have CP := Lib.hid (fun (v : Value) (w : World) (h : RdSl w v l) (hu : RdOp w u m) (g : SpanAt w 0 0 30 ∧ SpanAt w 1 0 1 ∧ SpanAt w 2 0 4611686016279904236 ∧ SpanAt w 3 0 150 ∧ SpanAt w 4 0 4 ∧ SpanAt w 5 0 200 ∧ Lib.Utf8Tabs 6 7 w ∧ PwAt w ∧ ErAt w) => firstBadOpeningP_any v u l m w h hu (by omega) (by omega) (g.1) (g.2.1) (g.2.2.1) (g.2.2.2.1) (g.2.2.2.2.1) (g.2.2.2.2.2.2.1))
    have CS := Lib.hid (fun (v : Value) (w : World) (h : RdSl w v l) (hu : RdOp w u m) => firstBadOpeningS_any v u l m w h hu (by omega) (by omega))
    have CC := Lib.hid (fun (v : Value) (w : World) (h : RdSl w v l) (g : SpanAt w 0 0 30 ∧ SpanAt w 1 0 1 ∧ SpanAt w 2 0 4611686016279904236 ∧ SpanAt w 3 0 150 ∧ SpanAt w 4 0 4 ∧ SpanAt w 5 0 200 ∧ Lib.Utf8Tabs 6 7 w ∧ PwAt w ∧ ErAt w) => sealChainP_any v l w h (by omega) (g.2.2.2.2.1) (g.1) (g.2.1) (g.2.2.1))
    have CD := Lib.hid (fun (v : Value) (w : World) (h : RdSl w v l) => sealChainS_any v l w h (by omega))
    have CF := Lib.hid (fun (v : Value) (u : Value) (w : World) (h : RdSl w v l) (hu : RdI w u (chnL l l.length)) (g : SpanAt w 0 0 30 ∧ SpanAt w 1 0 1 ∧ SpanAt w 2 0 4611686016279904236 ∧ SpanAt w 3 0 150 ∧ SpanAt w 4 0 4 ∧ SpanAt w 5 0 200 ∧ Lib.Utf8Tabs 6 7 w ∧ PwAt w ∧ ErAt w) => firstBadSealP_any v u l (chnL l l.length) w h hu (by omega) (by rw [chnL_len]; omega) (g.2.2.2.2.1) (g.1) (g.2.1) (g.2.2.1))
    have HC := Lib.hid (fun (h : roundB seaB l = true) => chain_facts h)
    have HN := Lib.hid (chnL_len l l.length)
    clear hms
    generalize fboB l m = F at CP CS
    generalize ((fstK (noP l m) 0 l.length : Nat) : Int) = X at CP CS
    have eF : (F != F) = false := by simp
    have eX : (vI F X != vI F X) = false := by simp
    generalize vI F X = Y at CP CS eX
    unfold ListPostI at CC CD
    go_wp2_with fail
    refine (CP.out _ _ RL_4.out RO_4.out ⟨(K4.two (HG.out.1)), (K4.two (HG.out.2.1)), (K4.two (HG.out.2.2.1)), (K4.two (HG.out.2.2.2.1)), (K4.two (HG.out.2.2.2.2.1)), (K4.two (HG.out.2.2.2.2.2.1)), (by first | exact Lib.Utf8Tabs_below (HG.out.2.2.2.2.2.2.1) K4 | exact Utf8Tabs_below (HG.out.2.2.2.2.2.2.1) K4), ((HG.out.2.2.2.2.2.2.2.1).keep K4), ((HG.out.2.2.2.2.2.2.2.2).keep K4)⟩).mono ?_
    rintro e5 w5 ⟨rfl, k5⟩
    have HB2_5 := Lib.hid (HB2_4.out.keep k5)
    clear HB2_4
    have RL_5 := Lib.hid (RL_4.out.keep k5)
    clear RL_4
    have RO_5 := Lib.hid (RO_4.out.keep k5)
    clear RO_4
    have K5 := K4.trans k5
    go_wp2_with fail
    refine (CS.out _ _ RL_5.out RO_5.out).mono ?_
    rintro e6 w6 ⟨rfl, k6⟩
    have HB2_6 := Lib.hid (HB2_5.out.keep k6)
    clear HB2_5
    have RL_6 := Lib.hid (RL_5.out.keep k6)
    clear RL_5
    have RO_6 := Lib.hid (RO_5.out.keep k6)
    clear RO_5
    have K6 := K5.trans k6
    clear RO_6
    generalize hB2 : roundB seaB l = B2 at *
    cases B2
    · have CC' : Hid (∀ (v : Value) (w : World), RdSl w v l → (SpanAt w 0 0 30 ∧ SpanAt w 1 0 1 ∧ SpanAt w 2 0 4611686016279904236 ∧ SpanAt w 3 0 150 ∧ SpanAt w 4 0 4 ∧ SpanAt w 5 0 200 ∧ Lib.Utf8Tabs 6 7 w ∧ PwAt w ∧ ErAt w) → Calls Tryz.prog 14 #[v] w fun e w' => ∃ u, e = .returned (.tuple #[u, .bool false]) ∧ OwnI w' w.heap.size u ([] : List Int) ∧ Kp w w') := Lib.hid (fun v w h g => by simpa using CC.out v w h g)
      have CD' : Hid (∀ (v : Value) (w : World), RdSl w v l → Calls Tryz.prog 15 #[v] w fun e w' => ∃ u, e = .returned (.tuple #[u, .bool false]) ∧ OwnI w' w.heap.size u ([] : List Int) ∧ Kp w w') := Lib.hid (fun v w h => by simpa using CD.out v w h)
      clear CC CD
      go_wp2_with fail
      refine (CC'.out _ _ RL_6.out ⟨(K6.two (HG.out.1)), (K6.two (HG.out.2.1)), (K6.two (HG.out.2.2.1)), (K6.two (HG.out.2.2.2.1)), (K6.two (HG.out.2.2.2.2.1)), (K6.two (HG.out.2.2.2.2.2.1)), (by first | exact Lib.Utf8Tabs_below (HG.out.2.2.2.2.2.2.1) K6 | exact Utf8Tabs_below (HG.out.2.2.2.2.2.2.1) K6), ((HG.out.2.2.2.2.2.2.2.1).keep K6), ((HG.out.2.2.2.2.2.2.2.2).keep K6)⟩).mono ?_
      rintro e7 w7 ⟨va, rfl, oa, k7⟩
      have HB2_7 := Lib.hid (HB2_6.out.keep k7)
      clear HB2_6
      have RL_7 := Lib.hid (RL_6.out.keep k7)
      clear RL_6
      have K7 := K6.trans k7
      have RA_7 := Lib.hid (oa.rd)
      clear oa
      go_wp2_with fail
      refine (CD'.out _ _ RL_7.out).mono ?_
      rintro e8 w8 ⟨vb, rfl, ob, k8⟩
      have HB2_8 := Lib.hid (HB2_7.out.keep k8)
      clear HB2_7
      have RL_8 := Lib.hid (RL_7.out.keep k8)
      clear RL_7
      have RA_8 := Lib.hid (RA_7.out.keep k8)
      clear RA_7
      have K8 := K7.trans k8
      have RB_8 := Lib.hid (ob.rd)
      clear ob
      go_wp2_with fail
      refine (sameInts_any va vb ([] : List Int) _ RA_8.out RB_8.out (by first | (rw [HN.out]; omega) | simp)).mono ?_
      rintro e9 w9 ⟨rfl, k9⟩
      have HB2_9 := Lib.hid (HB2_8.out.keep k9)
      clear HB2_8
      have RL_9 := Lib.hid (RL_8.out.keep k9)
      clear RL_8
      have RA_9 := Lib.hid (RA_8.out.keep k9)
      clear RA_8
      have RB_9 := Lib.hid (RB_8.out.keep k9)
      clear RB_8
      have K9 := K8.trans k9
      clear RB_9
      clear RA_9
      clear RL_9
      go_wp2_with fail
      refine (drawJointSeed_any A2 n2 c2 _ HB2_9.out h2).mono ?_
      rintro e10 w10 ⟨jx, jv, jl, rfl, Rj, hjl, k10⟩
      have HB2_10 := Lib.hid (HB2_9.out.keep k10)
      clear HB2_9
      have K10 := K9.trans k10
      have RJ_10 := Lib.hid (Rj)
      clear HB2_10
      clear Rj
      have JP := Lib.hid (fun (w : World) (h : RdI w jv jl) (g : SpanAt w 0 0 30 ∧ SpanAt w 1 0 1 ∧ SpanAt w 2 0 4611686016279904236 ∧ SpanAt w 3 0 150 ∧ SpanAt w 4 0 4 ∧ SpanAt w 5 0 200 ∧ Lib.Utf8Tabs 6 7 w ∧ PwAt w ∧ ErAt w) => jointSeedP_any jx jv jl w h (by omega) (g.1) (g.2.2.2.2.1) (g.2.2.1) (g.2.2.2.2.2.1))
      have JS := Lib.hid (fun (w : World) (h : RdI w jv jl) => jointSeedS_any jx jv jl w h (by omega))
      generalize joiB jx jl = JB at JP JS
      generalize hashN (mixL (12 :: jx :: jl)) = JX at JP JS
      have eJ : (JB == JB) = true := by simp
      have eK : (vI JB JX == vI JB JX) = true := by simp
      generalize vI JB JX = JY at JP JS eK
      go_wp2_with fail
      refine (JP.out _ RJ_10.out ⟨(K10.two (HG.out.1)), (K10.two (HG.out.2.1)), (K10.two (HG.out.2.2.1)), (K10.two (HG.out.2.2.2.1)), (K10.two (HG.out.2.2.2.2.1)), (K10.two (HG.out.2.2.2.2.2.1)), (by first | exact Lib.Utf8Tabs_below (HG.out.2.2.2.2.2.2.1) K10 | exact Utf8Tabs_below (HG.out.2.2.2.2.2.2.1) K10), ((HG.out.2.2.2.2.2.2.2.1).keep K10), ((HG.out.2.2.2.2.2.2.2.2).keep K10)⟩).mono ?_
      rintro e11 w11 ⟨rfl, k11⟩
      have RJ_11 := Lib.hid (RJ_10.out.keep k11)
      clear RJ_10
      have K11 := K10.trans k11
      go_wp2_with fail
      refine (JS.out _ RJ_11.out).mono ?_
      rintro e12 w12 ⟨rfl, k12⟩
      have RJ_12 := Lib.hid (RJ_11.out.keep k12)
      clear RJ_11
      have K12 := K11.trans k12
      go_wp2_with fail
      go_ret
      exact ⟨rfl, K12⟩
    · have CC' : Hid (∀ (v : Value) (w : World), RdSl w v l → (SpanAt w 0 0 30 ∧ SpanAt w 1 0 1 ∧ SpanAt w 2 0 4611686016279904236 ∧ SpanAt w 3 0 150 ∧ SpanAt w 4 0 4 ∧ SpanAt w 5 0 200 ∧ Lib.Utf8Tabs 6 7 w ∧ PwAt w ∧ ErAt w) → Calls Tryz.prog 14 #[v] w fun e w' => ∃ u, e = .returned (.tuple #[u, .bool true]) ∧ OwnI w' w.heap.size u (chnL l l.length) ∧ Kp w w') := Lib.hid (fun v w h g => by simpa using CC.out v w h g)
      have CD' : Hid (∀ (v : Value) (w : World), RdSl w v l → Calls Tryz.prog 15 #[v] w fun e w' => ∃ u, e = .returned (.tuple #[u, .bool true]) ∧ OwnI w' w.heap.size u (chnL l l.length) ∧ Kp w w') := Lib.hid (fun v w h => by simpa using CD.out v w h)
      clear CC CD
      go_wp2_with fail
      refine (CC'.out _ _ RL_6.out ⟨(K6.two (HG.out.1)), (K6.two (HG.out.2.1)), (K6.two (HG.out.2.2.1)), (K6.two (HG.out.2.2.2.1)), (K6.two (HG.out.2.2.2.2.1)), (K6.two (HG.out.2.2.2.2.2.1)), (by first | exact Lib.Utf8Tabs_below (HG.out.2.2.2.2.2.2.1) K6 | exact Utf8Tabs_below (HG.out.2.2.2.2.2.2.1) K6), ((HG.out.2.2.2.2.2.2.2.1).keep K6), ((HG.out.2.2.2.2.2.2.2.2).keep K6)⟩).mono ?_
      rintro e7 w7 ⟨va, rfl, oa, k7⟩
      have HB2_7 := Lib.hid (HB2_6.out.keep k7)
      clear HB2_6
      have RL_7 := Lib.hid (RL_6.out.keep k7)
      clear RL_6
      have K7 := K6.trans k7
      have RA_7 := Lib.hid (oa.rd)
      clear oa
      go_wp2_with fail
      refine (CD'.out _ _ RL_7.out).mono ?_
      rintro e8 w8 ⟨vb, rfl, ob, k8⟩
      have HB2_8 := Lib.hid (HB2_7.out.keep k8)
      clear HB2_7
      have RL_8 := Lib.hid (RL_7.out.keep k8)
      clear RL_7
      have RA_8 := Lib.hid (RA_7.out.keep k8)
      clear RA_7
      have K8 := K7.trans k8
      have RB_8 := Lib.hid (ob.rd)
      clear ob
      go_wp2_with fail
      refine (sameInts_any va vb (chnL l l.length) _ RA_8.out RB_8.out (by first | (rw [HN.out]; omega) | simp)).mono ?_
      rintro e9 w9 ⟨rfl, k9⟩
      have HB2_9 := Lib.hid (HB2_8.out.keep k9)
      clear HB2_8
      have RL_9 := Lib.hid (RL_8.out.keep k9)
      clear RL_8
      have RA_9 := Lib.hid (RA_8.out.keep k9)
      clear RA_8
      have RB_9 := Lib.hid (RB_8.out.keep k9)
      clear RB_8
      have K9 := K8.trans k9
      clear RB_9
      obtain ⟨hc1, hc2⟩ := HC.out (by first | rfl | trivial)
      have CG : Hid (∀ (v u : Value) (w : World), RdSl w v l → RdI w u (chnL l l.length) → (SpanAt w 0 0 30 ∧ SpanAt w 1 0 1 ∧ SpanAt w 2 0 4611686016279904236 ∧ SpanAt w 3 0 150 ∧ SpanAt w 4 0 4 ∧ SpanAt w 5 0 200 ∧ Lib.Utf8Tabs 6 7 w ∧ PwAt w ∧ ErAt w) → Calls Tryz.prog 17 #[v, u] w fun e w' => e = .returned (.tuple #[.int .i64 l.length, .bool true]) ∧ Kp w w') := Lib.hid (fun v u w h hu g => by have h0 := CF.out v u w h hu g; rw [hc1, hc2] at h0; exact h0)
      have eL : ((l.length : Int) != (l.length : Int)) = false := by simp
      clear CF hc1 hc2
      go_wp2_with fail
      refine (CG.out _ _ _ RL_9.out RA_9.out ⟨(K9.two (HG.out.1)), (K9.two (HG.out.2.1)), (K9.two (HG.out.2.2.1)), (K9.two (HG.out.2.2.2.1)), (K9.two (HG.out.2.2.2.2.1)), (K9.two (HG.out.2.2.2.2.2.1)), (by first | exact Lib.Utf8Tabs_below (HG.out.2.2.2.2.2.2.1) K9 | exact Utf8Tabs_below (HG.out.2.2.2.2.2.2.1) K9), ((HG.out.2.2.2.2.2.2.2.1).keep K9), ((HG.out.2.2.2.2.2.2.2.2).keep K9)⟩).mono ?_
      rintro e10 w10 ⟨rfl, k10⟩
      have HB2_10 := Lib.hid (HB2_9.out.keep k10)
      clear HB2_9
      have RL_10 := Lib.hid (RL_9.out.keep k10)
      clear RL_9
      have RA_10 := Lib.hid (RA_9.out.keep k10)
      clear RA_9
      have K10 := K9.trans k10
      clear RA_10
      clear RL_10
      go_wp2_with fail
      refine (drawJointSeed_any A2 n2 c2 _ HB2_10.out h2).mono ?_
      rintro e11 w11 ⟨jx, jv, jl, rfl, Rj, hjl, k11⟩
      have HB2_11 := Lib.hid (HB2_10.out.keep k11)
      clear HB2_10
      have K11 := K10.trans k11
      have RJ_11 := Lib.hid (Rj)
      clear HB2_11
      clear Rj
      have JP := Lib.hid (fun (w : World) (h : RdI w jv jl) (g : SpanAt w 0 0 30 ∧ SpanAt w 1 0 1 ∧ SpanAt w 2 0 4611686016279904236 ∧ SpanAt w 3 0 150 ∧ SpanAt w 4 0 4 ∧ SpanAt w 5 0 200 ∧ Lib.Utf8Tabs 6 7 w ∧ PwAt w ∧ ErAt w) => jointSeedP_any jx jv jl w h (by omega) (g.1) (g.2.2.2.2.1) (g.2.2.1) (g.2.2.2.2.2.1))
      have JS := Lib.hid (fun (w : World) (h : RdI w jv jl) => jointSeedS_any jx jv jl w h (by omega))
      generalize joiB jx jl = JB at JP JS
      generalize hashN (mixL (12 :: jx :: jl)) = JX at JP JS
      have eJ : (JB == JB) = true := by simp
      have eK : (vI JB JX == vI JB JX) = true := by simp
      generalize vI JB JX = JY at JP JS eK
      go_wp2_with fail
      refine (JP.out _ RJ_11.out ⟨(K11.two (HG.out.1)), (K11.two (HG.out.2.1)), (K11.two (HG.out.2.2.1)), (K11.two (HG.out.2.2.2.1)), (K11.two (HG.out.2.2.2.2.1)), (K11.two (HG.out.2.2.2.2.2.1)), (by first | exact Lib.Utf8Tabs_below (HG.out.2.2.2.2.2.2.1) K11 | exact Utf8Tabs_below (HG.out.2.2.2.2.2.2.1) K11), ((HG.out.2.2.2.2.2.2.2.1).keep K11), ((HG.out.2.2.2.2.2.2.2.2).keep K11)⟩).mono ?_
      rintro e12 w12 ⟨rfl, k12⟩
      have RJ_12 := Lib.hid (RJ_11.out.keep k12)
      clear RJ_11
      have K12 := K11.trans k12
      go_wp2_with fail
      refine (JS.out _ RJ_12.out).mono ?_
      rintro e13 w13 ⟨rfl, k13⟩
      have RJ_13 := Lib.hid (RJ_12.out.keep k13)
      clear RJ_12
      have K13 := K12.trans k13
      go_wp2_with fail
      go_ret
      exact ⟨rfl, K13⟩
  · have CP : Hid (∀ (w : World), (SpanAt w 0 0 30 ∧ SpanAt w 1 0 1 ∧ SpanAt w 2 0 4611686016279904236 ∧ SpanAt w 3 0 150 ∧ SpanAt w 4 0 4 ∧ SpanAt w 5 0 200 ∧ Lib.Utf8Tabs 6 7 w ∧ PwAt w ∧ ErAt w) → Calls Tryz.prog 6 #[.int .i64 t, .int .i64 s, opx n x] w fun e w' => e = .returned (.tuple #[slx t s y, .bool true]) ∧ Kp w w') := Lib.hid (fun w g => by have h0 := sealOrdersP_any t s n x w (g.1) (g.2.1) (g.2.2.1) (g.2.2.2.1) (g.2.2.2.2.2.2.1); simp only [hB, sorV, vI_true, ← hy] at h0; exact h0)
    have CS : Hid (∀ (w : World), Calls Tryz.prog 7 #[.int .i64 t, .int .i64 s, opx n x] w fun e w' => e = .returned (.tuple #[slx t s y, .bool true]) ∧ Kp w w') := Lib.hid (fun w => by have h0 := sealOrdersS_any t s n x w; simp only [hB, sorV, vI_true, ← hy] at h0; exact h0)
    obtain ⟨hx1, hx2, hx3, hx4⟩ := seal_facts hB
    rw [← hy] at hx2 hx3 hx4
    have CO : Hid (∀ (w : World), (SpanAt w 0 0 30 ∧ SpanAt w 1 0 1 ∧ SpanAt w 2 0 4611686016279904236 ∧ SpanAt w 3 0 150 ∧ SpanAt w 4 0 4 ∧ SpanAt w 5 0 200 ∧ Lib.Utf8Tabs 6 7 w ∧ PwAt w ∧ ErAt w) → Calls Tryz.prog 8 #[slx t s y, opx n x] w fun e w' => e = .returned (.tuple #[.bool true, .bool true]) ∧ Kp w w') := Lib.hid (fun w g => by have h0 := opensToFP_any t s y n x w (g.1) (g.2.1) (g.2.2.1) (g.2.2.2.1) (g.2.2.2.2.2.2.1); simp only [hx3, hx4, Bool.and_self] at h0; exact h0)
    obtain ⟨rx, rr, he, hr⟩ := read_facts hx2
    have hS := sealTx_len hx2
    obtain ⟨S, hSe⟩ : ∃ S, S = txt (sealTx ⟨t, s, y⟩) := ⟨_, rfl⟩
    have hSz : S.size ≤ 1048576 := by rw [hSe, txt_size]; omega
    rw [← hSe] at he hr
    have CT : Hid (∀ (w : World), (SpanAt w 0 0 30 ∧ SpanAt w 1 0 1 ∧ SpanAt w 2 0 4611686016279904236 ∧ SpanAt w 3 0 150 ∧ SpanAt w 4 0 4 ∧ SpanAt w 5 0 200 ∧ Lib.Utf8Tabs 6 7 w ∧ PwAt w ∧ ErAt w) → Calls Tryz.prog 9 #[slx t s y] w fun e w' => e = .returned (.tuple #[.string S, .bool true]) ∧ Kp w w') := Lib.hid (fun w g => by have h0 := sealedTextP_any t s y w (g.1) (g.2.1) (g.2.2.1) (g.2.2.2.2.2.2.2.1); simp only [hx2, stV, if_true, ← hSe] at h0; exact h0)
    have CR : Hid (∀ (w : World), (SpanAt w 0 0 30 ∧ SpanAt w 1 0 1 ∧ SpanAt w 2 0 4611686016279904236 ∧ SpanAt w 3 0 150 ∧ SpanAt w 4 0 4 ∧ SpanAt w 5 0 200 ∧ Lib.Utf8Tabs 6 7 w ∧ PwAt w ∧ ErAt w) → Calls Tryz.prog 10 #[.string S] w fun e w' => e = .returned (.tuple #[slx t s y, .bool true]) ∧ Kp w w') := Lib.hid (fun w g => by have h0 := parseSealedP_any S rx rr w hSz he (g.1) (g.2.1) (g.2.2.1) (g.2.2.2.2.2.2.2.1) (g.2.2.2.2.2.2.2.2); rw [hr] at h0; exact h0)
    clear he hr hS hSe hSz hx1 hx2 hx3 hx4
    clear hB hy
    have eN := neqSl t s y
    have eG := guardNe
    have KA1q1 := (Kp.refl w1).alloc (.cells #[.int .i64 n, .string x] 25)
    have HB2_1q1 := Lib.hid (HB2_1.out.keep KA1q1)
    clear HB2_1
    have X0_1q1 : Hid (OpnAt (w1.alloc (.cells #[.int .i64 n, .string x] 25)) w1.heap.size 0 ⟨n, x⟩) := Lib.hid ⟨by simp [go_sem], by simp [go_sem]⟩
    have K1q1 := K1.trans KA1q1
    obtain ⟨x00, x01⟩ := X0_1q1.out
    simp only [Nat.zero_add] at x00 x01
    go_wp2_with fail
    generalize (w1.alloc (.cells #[.int .i64 n, .string x] 25)) = w1q1 at *
    refine (CP.out _ ⟨(K1q1.two (HG.out.1)), (K1q1.two (HG.out.2.1)), (K1q1.two (HG.out.2.2.1)), (K1q1.two (HG.out.2.2.2.1)), (K1q1.two (HG.out.2.2.2.2.1)), (K1q1.two (HG.out.2.2.2.2.2.1)), (by first | exact Lib.Utf8Tabs_below (HG.out.2.2.2.2.2.2.1) K1q1 | exact Utf8Tabs_below (HG.out.2.2.2.2.2.2.1) K1q1), ((HG.out.2.2.2.2.2.2.2.1).keep K1q1), ((HG.out.2.2.2.2.2.2.2.2).keep K1q1)⟩).mono ?_
    rintro e2 w2 ⟨rfl, k2⟩
    have HB2_2 := Lib.hid (HB2_1q1.out.keep k2)
    clear HB2_1q1
    have X0_2 := Lib.hid (X0_1q1.out.keep k2)
    clear X0_1q1
    have K2 := K1q1.trans k2
    clear CP
    clear x00 x01
    have KA2q2 := (Kp.refl w2).alloc (.cells #[.int .i64 t, .int .i64 s, .int .i64 y] 29)
    have HB2_2q2 := Lib.hid (HB2_2.out.keep KA2q2)
    clear HB2_2
    have X0_2q2 := Lib.hid (X0_2.out.keep KA2q2)
    clear X0_2
    have B0_2q2 : Hid (SeaAt (w2.alloc (.cells #[.int .i64 t, .int .i64 s, .int .i64 y] 29)) w2.heap.size 0 ⟨t, s, y⟩) := Lib.hid ⟨by simp [go_sem], by simp [go_sem], by simp [go_sem]⟩
    have K2q2 := K2.trans KA2q2
    obtain ⟨x00, x01⟩ := X0_2q2.out
    simp only [Nat.zero_add] at x00 x01
    go_wp2_with fail
    generalize (w2.alloc (.cells #[.int .i64 t, .int .i64 s, .int .i64 y] 29)) = w2q2 at *
    refine (CS.out _).mono ?_
    rintro e3 w3 ⟨rfl, k3⟩
    have HB2_3 := Lib.hid (HB2_2q2.out.keep k3)
    clear HB2_2q2
    have X0_3 := Lib.hid (X0_2q2.out.keep k3)
    clear X0_2q2
    have B0_3 := Lib.hid (B0_2q2.out.keep k3)
    clear B0_2q2
    have K3 := K2q2.trans k3
    clear CS
    clear x00 x01
    have KA3q3 := (Kp.refl w3).alloc (.cells #[.int .i64 t, .int .i64 s, .int .i64 y] 29)
    have HB2_3q3 := Lib.hid (HB2_3.out.keep KA3q3)
    clear HB2_3
    have X0_3q3 := Lib.hid (X0_3.out.keep KA3q3)
    clear X0_3
    have B0_3q3 := Lib.hid (B0_3.out.keep KA3q3)
    clear B0_3
    have B1_3q3 : Hid (SeaAt (w3.alloc (.cells #[.int .i64 t, .int .i64 s, .int .i64 y] 29)) w3.heap.size 0 ⟨t, s, y⟩) := Lib.hid ⟨by simp [go_sem], by simp [go_sem], by simp [go_sem]⟩
    have K3q3 := K3.trans KA3q3
    obtain ⟨x00, x01⟩ := X0_3q3.out
    simp only [Nat.zero_add] at x00 x01
    obtain ⟨b00, b01, b02⟩ := B0_3q3.out
    simp only [Nat.zero_add] at b00 b01 b02
    obtain ⟨b10, b11, b12⟩ := B1_3q3.out
    simp only [Nat.zero_add] at b10 b11 b12
    go_wp2_with fail
    generalize (w3.alloc (.cells #[.int .i64 t, .int .i64 s, .int .i64 y] 29)) = w3q3 at *
    refine (CO.out _ ⟨(K3q3.two (HG.out.1)), (K3q3.two (HG.out.2.1)), (K3q3.two (HG.out.2.2.1)), (K3q3.two (HG.out.2.2.2.1)), (K3q3.two (HG.out.2.2.2.2.1)), (K3q3.two (HG.out.2.2.2.2.2.1)), (by first | exact Lib.Utf8Tabs_below (HG.out.2.2.2.2.2.2.1) K3q3 | exact Utf8Tabs_below (HG.out.2.2.2.2.2.2.1) K3q3), ((HG.out.2.2.2.2.2.2.2.1).keep K3q3), ((HG.out.2.2.2.2.2.2.2.2).keep K3q3)⟩).mono ?_
    rintro e4 w4 ⟨rfl, k4⟩
    have HB2_4 := Lib.hid (HB2_3q3.out.keep k4)
    clear HB2_3q3
    have X0_4 := Lib.hid (X0_3q3.out.keep k4)
    clear X0_3q3
    have B0_4 := Lib.hid (B0_3q3.out.keep k4)
    clear B0_3q3
    have B1_4 := Lib.hid (B1_3q3.out.keep k4)
    clear B1_3q3
    have K4 := K3q3.trans k4
    clear CO
    clear x00 x01 b00 b01 b02 b10 b11 b12
    clear X0_4
    obtain ⟨b00, b01, b02⟩ := B0_4.out
    simp only [Nat.zero_add] at b00 b01 b02
    go_wp2_with fail
    refine (CT.out _ ⟨(K4.two (HG.out.1)), (K4.two (HG.out.2.1)), (K4.two (HG.out.2.2.1)), (K4.two (HG.out.2.2.2.1)), (K4.two (HG.out.2.2.2.2.1)), (K4.two (HG.out.2.2.2.2.2.1)), (by first | exact Lib.Utf8Tabs_below (HG.out.2.2.2.2.2.2.1) K4 | exact Utf8Tabs_below (HG.out.2.2.2.2.2.2.1) K4), ((HG.out.2.2.2.2.2.2.2.1).keep K4), ((HG.out.2.2.2.2.2.2.2.2).keep K4)⟩).mono ?_
    rintro e5 w5 ⟨rfl, k5⟩
    have HB2_5 := Lib.hid (HB2_4.out.keep k5)
    clear HB2_4
    have B0_5 := Lib.hid (B0_4.out.keep k5)
    clear B0_4
    have B1_5 := Lib.hid (B1_4.out.keep k5)
    clear B1_4
    have K5 := K4.trans k5
    clear CT
    clear b00 b01 b02
    clear B0_5
    go_wp2_with fail
    refine (CR.out _ ⟨(K5.two (HG.out.1)), (K5.two (HG.out.2.1)), (K5.two (HG.out.2.2.1)), (K5.two (HG.out.2.2.2.1)), (K5.two (HG.out.2.2.2.2.1)), (K5.two (HG.out.2.2.2.2.2.1)), (by first | exact Lib.Utf8Tabs_below (HG.out.2.2.2.2.2.2.1) K5 | exact Utf8Tabs_below (HG.out.2.2.2.2.2.2.1) K5), ((HG.out.2.2.2.2.2.2.2.1).keep K5), ((HG.out.2.2.2.2.2.2.2.2).keep K5)⟩).mono ?_
    rintro e6 w6 ⟨rfl, k6⟩
    have HB2_6 := Lib.hid (HB2_5.out.keep k6)
    clear HB2_5
    have B1_6 := Lib.hid (B1_5.out.keep k6)
    clear B1_5
    have K6 := K5.trans k6
    clear CR
    have KA6q4 := (Kp.refl w6).alloc (.cells #[.int .i64 t, .int .i64 s, .int .i64 y] 29)
    have HB2_6q4 := Lib.hid (HB2_6.out.keep KA6q4)
    clear HB2_6
    have B1_6q4 := Lib.hid (B1_6.out.keep KA6q4)
    clear B1_6
    have B2_6q4 : Hid (SeaAt (w6.alloc (.cells #[.int .i64 t, .int .i64 s, .int .i64 y] 29)) w6.heap.size 0 ⟨t, s, y⟩) := Lib.hid ⟨by simp [go_sem], by simp [go_sem], by simp [go_sem]⟩
    have K6q4 := K6.trans KA6q4
    obtain ⟨b10, b11, b12⟩ := B1_6q4.out
    simp only [Nat.zero_add] at b10 b11 b12
    obtain ⟨b20, b21, b22⟩ := B2_6q4.out
    simp only [Nat.zero_add] at b20 b21 b22
    go_wp2_with fail
    generalize (w6.alloc (.cells #[.int .i64 t, .int .i64 s, .int .i64 y] 29)) = w6q4 at *
    refine (drawFirstBadOpening_any A2 n2 c2 _ HB2_6q4.out h2).mono ?_
    rintro e7 w7 ⟨v, u, l, m, rfl, Rl, Ro, hl, hm, hms, k7⟩
    have HB2_7 := Lib.hid (HB2_6q4.out.keep k7)
    clear HB2_6q4
    have K7 := K6q4.trans k7
    have RL_7 := Lib.hid (Rl)
    have RO_7 := Lib.hid (Ro)
    clear Rl Ro
    obtain ⟨Al, cl, hv, -⟩ := RL_7.out
    subst hv
    obtain ⟨q, hq⟩ : ∃ q, q = l.length := ⟨_, rfl⟩
    have CP := Lib.hid (fun (v : Value) (w : World) (h : RdSl w v l) (hu : RdOp w u m) (g : SpanAt w 0 0 30 ∧ SpanAt w 1 0 1 ∧ SpanAt w 2 0 4611686016279904236 ∧ SpanAt w 3 0 150 ∧ SpanAt w 4 0 4 ∧ SpanAt w 5 0 200 ∧ Lib.Utf8Tabs 6 7 w ∧ PwAt w ∧ ErAt w) => firstBadOpeningP_any v u l m w h hu (by omega) (by omega) (g.1) (g.2.1) (g.2.2.1) (g.2.2.2.1) (g.2.2.2.2.1) (g.2.2.2.2.2.2.1))
    have CS := Lib.hid (fun (v : Value) (w : World) (h : RdSl w v l) (hu : RdOp w u m) => firstBadOpeningS_any v u l m w h hu (by omega) (by omega))
    have CC := Lib.hid (fun (v : Value) (w : World) (h : RdSl w v l) (g : SpanAt w 0 0 30 ∧ SpanAt w 1 0 1 ∧ SpanAt w 2 0 4611686016279904236 ∧ SpanAt w 3 0 150 ∧ SpanAt w 4 0 4 ∧ SpanAt w 5 0 200 ∧ Lib.Utf8Tabs 6 7 w ∧ PwAt w ∧ ErAt w) => sealChainP_any v l w h (by omega) (g.2.2.2.2.1) (g.1) (g.2.1) (g.2.2.1))
    have CD := Lib.hid (fun (v : Value) (w : World) (h : RdSl w v l) => sealChainS_any v l w h (by omega))
    have CF := Lib.hid (fun (v : Value) (u : Value) (w : World) (h : RdSl w v l) (hu : RdI w u (chnL l l.length)) (g : SpanAt w 0 0 30 ∧ SpanAt w 1 0 1 ∧ SpanAt w 2 0 4611686016279904236 ∧ SpanAt w 3 0 150 ∧ SpanAt w 4 0 4 ∧ SpanAt w 5 0 200 ∧ Lib.Utf8Tabs 6 7 w ∧ PwAt w ∧ ErAt w) => firstBadSealP_any v u l (chnL l l.length) w h hu (by omega) (by rw [chnL_len]; omega) (g.2.2.2.2.1) (g.1) (g.2.1) (g.2.2.1))
    have HC := Lib.hid (fun (h : roundB seaB l = true) => chain_facts h)
    have HN := Lib.hid (chnL_len l l.length)
    clear hms
    generalize fboB l m = F at CP CS
    generalize ((fstK (noP l m) 0 l.length : Nat) : Int) = X at CP CS
    have eF : (F != F) = false := by simp
    have eX : (vI F X != vI F X) = false := by simp
    generalize vI F X = Y at CP CS eX
    unfold ListPostI at CC CD
    go_wp2_with fail
    refine (CP.out _ _ RL_7.out RO_7.out ⟨(K7.two (HG.out.1)), (K7.two (HG.out.2.1)), (K7.two (HG.out.2.2.1)), (K7.two (HG.out.2.2.2.1)), (K7.two (HG.out.2.2.2.2.1)), (K7.two (HG.out.2.2.2.2.2.1)), (by first | exact Lib.Utf8Tabs_below (HG.out.2.2.2.2.2.2.1) K7 | exact Utf8Tabs_below (HG.out.2.2.2.2.2.2.1) K7), ((HG.out.2.2.2.2.2.2.2.1).keep K7), ((HG.out.2.2.2.2.2.2.2.2).keep K7)⟩).mono ?_
    rintro e8 w8 ⟨rfl, k8⟩
    have HB2_8 := Lib.hid (HB2_7.out.keep k8)
    clear HB2_7
    have RL_8 := Lib.hid (RL_7.out.keep k8)
    clear RL_7
    have RO_8 := Lib.hid (RO_7.out.keep k8)
    clear RO_7
    have K8 := K7.trans k8
    go_wp2_with fail
    refine (CS.out _ _ RL_8.out RO_8.out).mono ?_
    rintro e9 w9 ⟨rfl, k9⟩
    have HB2_9 := Lib.hid (HB2_8.out.keep k9)
    clear HB2_8
    have RL_9 := Lib.hid (RL_8.out.keep k9)
    clear RL_8
    have RO_9 := Lib.hid (RO_8.out.keep k9)
    clear RO_8
    have K9 := K8.trans k9
    clear RO_9
    generalize hB2 : roundB seaB l = B2 at *
    cases B2
    · have CC' : Hid (∀ (v : Value) (w : World), RdSl w v l → (SpanAt w 0 0 30 ∧ SpanAt w 1 0 1 ∧ SpanAt w 2 0 4611686016279904236 ∧ SpanAt w 3 0 150 ∧ SpanAt w 4 0 4 ∧ SpanAt w 5 0 200 ∧ Lib.Utf8Tabs 6 7 w ∧ PwAt w ∧ ErAt w) → Calls Tryz.prog 14 #[v] w fun e w' => ∃ u, e = .returned (.tuple #[u, .bool false]) ∧ OwnI w' w.heap.size u ([] : List Int) ∧ Kp w w') := Lib.hid (fun v w h g => by simpa using CC.out v w h g)
      have CD' : Hid (∀ (v : Value) (w : World), RdSl w v l → Calls Tryz.prog 15 #[v] w fun e w' => ∃ u, e = .returned (.tuple #[u, .bool false]) ∧ OwnI w' w.heap.size u ([] : List Int) ∧ Kp w w') := Lib.hid (fun v w h => by simpa using CD.out v w h)
      clear CC CD
      go_wp2_with fail
      refine (CC'.out _ _ RL_9.out ⟨(K9.two (HG.out.1)), (K9.two (HG.out.2.1)), (K9.two (HG.out.2.2.1)), (K9.two (HG.out.2.2.2.1)), (K9.two (HG.out.2.2.2.2.1)), (K9.two (HG.out.2.2.2.2.2.1)), (by first | exact Lib.Utf8Tabs_below (HG.out.2.2.2.2.2.2.1) K9 | exact Utf8Tabs_below (HG.out.2.2.2.2.2.2.1) K9), ((HG.out.2.2.2.2.2.2.2.1).keep K9), ((HG.out.2.2.2.2.2.2.2.2).keep K9)⟩).mono ?_
      rintro e10 w10 ⟨va, rfl, oa, k10⟩
      have HB2_10 := Lib.hid (HB2_9.out.keep k10)
      clear HB2_9
      have RL_10 := Lib.hid (RL_9.out.keep k10)
      clear RL_9
      have K10 := K9.trans k10
      have RA_10 := Lib.hid (oa.rd)
      clear oa
      go_wp2_with fail
      refine (CD'.out _ _ RL_10.out).mono ?_
      rintro e11 w11 ⟨vb, rfl, ob, k11⟩
      have HB2_11 := Lib.hid (HB2_10.out.keep k11)
      clear HB2_10
      have RL_11 := Lib.hid (RL_10.out.keep k11)
      clear RL_10
      have RA_11 := Lib.hid (RA_10.out.keep k11)
      clear RA_10
      have K11 := K10.trans k11
      have RB_11 := Lib.hid (ob.rd)
      clear ob
      go_wp2_with fail
      refine (sameInts_any va vb ([] : List Int) _ RA_11.out RB_11.out (by first | (rw [HN.out]; omega) | simp)).mono ?_
      rintro e12 w12 ⟨rfl, k12⟩
      have HB2_12 := Lib.hid (HB2_11.out.keep k12)
      clear HB2_11
      have RL_12 := Lib.hid (RL_11.out.keep k12)
      clear RL_11
      have RA_12 := Lib.hid (RA_11.out.keep k12)
      clear RA_11
      have RB_12 := Lib.hid (RB_11.out.keep k12)
      clear RB_11
      have K12 := K11.trans k12
      clear RB_12
      clear RA_12
      clear RL_12
      go_wp2_with fail
      refine (drawJointSeed_any A2 n2 c2 _ HB2_12.out h2).mono ?_
      rintro e13 w13 ⟨jx, jv, jl, rfl, Rj, hjl, k13⟩
      have HB2_13 := Lib.hid (HB2_12.out.keep k13)
      clear HB2_12
      have K13 := K12.trans k13
      have RJ_13 := Lib.hid (Rj)
      clear HB2_13
      clear Rj
      have JP := Lib.hid (fun (w : World) (h : RdI w jv jl) (g : SpanAt w 0 0 30 ∧ SpanAt w 1 0 1 ∧ SpanAt w 2 0 4611686016279904236 ∧ SpanAt w 3 0 150 ∧ SpanAt w 4 0 4 ∧ SpanAt w 5 0 200 ∧ Lib.Utf8Tabs 6 7 w ∧ PwAt w ∧ ErAt w) => jointSeedP_any jx jv jl w h (by omega) (g.1) (g.2.2.2.2.1) (g.2.2.1) (g.2.2.2.2.2.1))
      have JS := Lib.hid (fun (w : World) (h : RdI w jv jl) => jointSeedS_any jx jv jl w h (by omega))
      generalize joiB jx jl = JB at JP JS
      generalize hashN (mixL (12 :: jx :: jl)) = JX at JP JS
      have eJ : (JB == JB) = true := by simp
      have eK : (vI JB JX == vI JB JX) = true := by simp
      generalize vI JB JX = JY at JP JS eK
      go_wp2_with fail
      refine (JP.out _ RJ_13.out ⟨(K13.two (HG.out.1)), (K13.two (HG.out.2.1)), (K13.two (HG.out.2.2.1)), (K13.two (HG.out.2.2.2.1)), (K13.two (HG.out.2.2.2.2.1)), (K13.two (HG.out.2.2.2.2.2.1)), (by first | exact Lib.Utf8Tabs_below (HG.out.2.2.2.2.2.2.1) K13 | exact Utf8Tabs_below (HG.out.2.2.2.2.2.2.1) K13), ((HG.out.2.2.2.2.2.2.2.1).keep K13), ((HG.out.2.2.2.2.2.2.2.2).keep K13)⟩).mono ?_
      rintro e14 w14 ⟨rfl, k14⟩
      have RJ_14 := Lib.hid (RJ_13.out.keep k14)
      clear RJ_13
      have K14 := K13.trans k14
      go_wp2_with fail
      refine (JS.out _ RJ_14.out).mono ?_
      rintro e15 w15 ⟨rfl, k15⟩
      have RJ_15 := Lib.hid (RJ_14.out.keep k15)
      clear RJ_14
      have K15 := K14.trans k15
      go_wp2_with fail
      go_ret
      exact ⟨rfl, K15⟩
    · have CC' : Hid (∀ (v : Value) (w : World), RdSl w v l → (SpanAt w 0 0 30 ∧ SpanAt w 1 0 1 ∧ SpanAt w 2 0 4611686016279904236 ∧ SpanAt w 3 0 150 ∧ SpanAt w 4 0 4 ∧ SpanAt w 5 0 200 ∧ Lib.Utf8Tabs 6 7 w ∧ PwAt w ∧ ErAt w) → Calls Tryz.prog 14 #[v] w fun e w' => ∃ u, e = .returned (.tuple #[u, .bool true]) ∧ OwnI w' w.heap.size u (chnL l l.length) ∧ Kp w w') := Lib.hid (fun v w h g => by simpa using CC.out v w h g)
      have CD' : Hid (∀ (v : Value) (w : World), RdSl w v l → Calls Tryz.prog 15 #[v] w fun e w' => ∃ u, e = .returned (.tuple #[u, .bool true]) ∧ OwnI w' w.heap.size u (chnL l l.length) ∧ Kp w w') := Lib.hid (fun v w h => by simpa using CD.out v w h)
      clear CC CD
      go_wp2_with fail
      refine (CC'.out _ _ RL_9.out ⟨(K9.two (HG.out.1)), (K9.two (HG.out.2.1)), (K9.two (HG.out.2.2.1)), (K9.two (HG.out.2.2.2.1)), (K9.two (HG.out.2.2.2.2.1)), (K9.two (HG.out.2.2.2.2.2.1)), (by first | exact Lib.Utf8Tabs_below (HG.out.2.2.2.2.2.2.1) K9 | exact Utf8Tabs_below (HG.out.2.2.2.2.2.2.1) K9), ((HG.out.2.2.2.2.2.2.2.1).keep K9), ((HG.out.2.2.2.2.2.2.2.2).keep K9)⟩).mono ?_
      rintro e10 w10 ⟨va, rfl, oa, k10⟩
      have HB2_10 := Lib.hid (HB2_9.out.keep k10)
      clear HB2_9
      have RL_10 := Lib.hid (RL_9.out.keep k10)
      clear RL_9
      have K10 := K9.trans k10
      have RA_10 := Lib.hid (oa.rd)
      clear oa
      go_wp2_with fail
      refine (CD'.out _ _ RL_10.out).mono ?_
      rintro e11 w11 ⟨vb, rfl, ob, k11⟩
      have HB2_11 := Lib.hid (HB2_10.out.keep k11)
      clear HB2_10
      have RL_11 := Lib.hid (RL_10.out.keep k11)
      clear RL_10
      have RA_11 := Lib.hid (RA_10.out.keep k11)
      clear RA_10
      have K11 := K10.trans k11
      have RB_11 := Lib.hid (ob.rd)
      clear ob
      go_wp2_with fail
      refine (sameInts_any va vb (chnL l l.length) _ RA_11.out RB_11.out (by first | (rw [HN.out]; omega) | simp)).mono ?_
      rintro e12 w12 ⟨rfl, k12⟩
      have HB2_12 := Lib.hid (HB2_11.out.keep k12)
      clear HB2_11
      have RL_12 := Lib.hid (RL_11.out.keep k12)
      clear RL_11
      have RA_12 := Lib.hid (RA_11.out.keep k12)
      clear RA_11
      have RB_12 := Lib.hid (RB_11.out.keep k12)
      clear RB_11
      have K12 := K11.trans k12
      clear RB_12
      obtain ⟨hc1, hc2⟩ := HC.out (by first | rfl | trivial)
      have CG : Hid (∀ (v u : Value) (w : World), RdSl w v l → RdI w u (chnL l l.length) → (SpanAt w 0 0 30 ∧ SpanAt w 1 0 1 ∧ SpanAt w 2 0 4611686016279904236 ∧ SpanAt w 3 0 150 ∧ SpanAt w 4 0 4 ∧ SpanAt w 5 0 200 ∧ Lib.Utf8Tabs 6 7 w ∧ PwAt w ∧ ErAt w) → Calls Tryz.prog 17 #[v, u] w fun e w' => e = .returned (.tuple #[.int .i64 l.length, .bool true]) ∧ Kp w w') := Lib.hid (fun v u w h hu g => by have h0 := CF.out v u w h hu g; rw [hc1, hc2] at h0; exact h0)
      have eL : ((l.length : Int) != (l.length : Int)) = false := by simp
      clear CF hc1 hc2
      go_wp2_with fail
      refine (CG.out _ _ _ RL_12.out RA_12.out ⟨(K12.two (HG.out.1)), (K12.two (HG.out.2.1)), (K12.two (HG.out.2.2.1)), (K12.two (HG.out.2.2.2.1)), (K12.two (HG.out.2.2.2.2.1)), (K12.two (HG.out.2.2.2.2.2.1)), (by first | exact Lib.Utf8Tabs_below (HG.out.2.2.2.2.2.2.1) K12 | exact Utf8Tabs_below (HG.out.2.2.2.2.2.2.1) K12), ((HG.out.2.2.2.2.2.2.2.1).keep K12), ((HG.out.2.2.2.2.2.2.2.2).keep K12)⟩).mono ?_
      rintro e13 w13 ⟨rfl, k13⟩
      have HB2_13 := Lib.hid (HB2_12.out.keep k13)
      clear HB2_12
      have RL_13 := Lib.hid (RL_12.out.keep k13)
      clear RL_12
      have RA_13 := Lib.hid (RA_12.out.keep k13)
      clear RA_12
      have K13 := K12.trans k13
      clear RA_13
      clear RL_13
      go_wp2_with fail
      refine (drawJointSeed_any A2 n2 c2 _ HB2_13.out h2).mono ?_
      rintro e14 w14 ⟨jx, jv, jl, rfl, Rj, hjl, k14⟩
      have HB2_14 := Lib.hid (HB2_13.out.keep k14)
      clear HB2_13
      have K14 := K13.trans k14
      have RJ_14 := Lib.hid (Rj)
      clear HB2_14
      clear Rj
      have JP := Lib.hid (fun (w : World) (h : RdI w jv jl) (g : SpanAt w 0 0 30 ∧ SpanAt w 1 0 1 ∧ SpanAt w 2 0 4611686016279904236 ∧ SpanAt w 3 0 150 ∧ SpanAt w 4 0 4 ∧ SpanAt w 5 0 200 ∧ Lib.Utf8Tabs 6 7 w ∧ PwAt w ∧ ErAt w) => jointSeedP_any jx jv jl w h (by omega) (g.1) (g.2.2.2.2.1) (g.2.2.1) (g.2.2.2.2.2.1))
      have JS := Lib.hid (fun (w : World) (h : RdI w jv jl) => jointSeedS_any jx jv jl w h (by omega))
      generalize joiB jx jl = JB at JP JS
      generalize hashN (mixL (12 :: jx :: jl)) = JX at JP JS
      have eJ : (JB == JB) = true := by simp
      have eK : (vI JB JX == vI JB JX) = true := by simp
      generalize vI JB JX = JY at JP JS eK
      go_wp2_with fail
      refine (JP.out _ RJ_14.out ⟨(K14.two (HG.out.1)), (K14.two (HG.out.2.1)), (K14.two (HG.out.2.2.1)), (K14.two (HG.out.2.2.2.1)), (K14.two (HG.out.2.2.2.2.1)), (K14.two (HG.out.2.2.2.2.2.1)), (by first | exact Lib.Utf8Tabs_below (HG.out.2.2.2.2.2.2.1) K14 | exact Utf8Tabs_below (HG.out.2.2.2.2.2.2.1) K14), ((HG.out.2.2.2.2.2.2.2.1).keep K14), ((HG.out.2.2.2.2.2.2.2.2).keep K14)⟩).mono ?_
      rintro e15 w15 ⟨rfl, k15⟩
      have RJ_15 := Lib.hid (RJ_14.out.keep k15)
      clear RJ_14
      have K15 := K14.trans k15
      go_wp2_with fail
      refine (JS.out _ RJ_15.out).mono ?_
      rintro e16 w16 ⟨rfl, k16⟩
      have RJ_16 := Lib.hid (RJ_15.out.keep k16)
      clear RJ_15
      have K16 := K15.trans k16
      go_wp2_with fail
      go_ret
      exact ⟨rfl, K16⟩

set_option maxRecDepth 100000 in
theorem contract (H : Type) (enc : TypeId × Value → H) (W : World) (base : Nat) (args : Array Value) (ds gs : List (DataW H)) (before : List MemPlace)
    (hval : ∀ (j : Nat) t v, Tryz.f3.params[j]? = some t → args[j]? = some v → Value.okWide Tryz.prog W .any base t v)
    (hW : DataW.Whole enc Tryz.prog Tryz.f3.params.toList Rows.fnSealedSpec.vars false W args.toList ds gs before) (hL : laidMetH Tryz.prog Rows.fnSealedRow.laid W) :
    Calls Tryz.prog 3 args W fun e W' => ∃ v, e = .returned v ∧ Rows.fnSealedSpec.post enc Tryz.prog Tryz.f3 false true false false W args v W' := by
  have hW' := hW
  obtain ⟨p, q, hA0, hV, rfl, hfz, hnd⟩ := hW
  have hA : DataW.TrodAll enc Tryz.prog W 0 (fun _ => true) true Tryz.f3.params.toList args.toList ds p := hA0
  rw [Tryz.params3] at hA hval
  obtain ⟨v0, v1, d0, d1, p0, p1, rfl, rfl, rfl, h0, h1⟩ := trodAll_two hA
  obtain ⟨_, _, _, _, _, _, rfl⟩ := lenvD6 (trodVars_len hV)
  obtain ⟨A0, m0, q0, rfl, hr0, hm0⟩ := rdBy_of_trod (hval 0 22 v0 rfl rfl) h0
  obtain ⟨A1, m1, q1, rfl, hr1, hm1⟩ := rdBy_of_trod (hval 1 22 v1 rfl rfl) h1
  refine (walk A0 A1 m0 q0 m1 q1 W hr0 hr1 hm0 hm1 (laidSealed hL)).mono fun e W' ⟨he, hg⟩ => ?_
  subst he
  exact ⟨_, rfl, law_post hW' laidOut (by kernel_rfl) (by kernel_rfl) (by kernel_rfl) Tryz.underlying4 rfl hg⟩

theorem laid_met (os : Os) : laidMet Tryz.prog Rows.fnSealedRow.laid ((laidWorldDi os).forCall (fun _ _ => 0) ⟨#[], #[.slice none 0 0, .slice none 0 0], []⟩).memory :=
  laidMet_of_run' 8 (by kernel_rfl) (by kernel_rfl)
theorem reads (os : Os) {H : Type} (enc : TypeId × Value → H) : ∃ ds gs places, DataW.whole enc Tryz.prog ((laidWorldDi os).forCall (fun _ _ => 0) ⟨#[], #[.slice none 0 0, .slice none 0 0], []⟩).memory Tryz.f3.params.toList Rows.fnSealedSpec.vars false #[.slice none 0 0, .slice none 0 0].toList 8 = some (ds, gs, places) :=
  ⟨[.nil, .nil], [Rows.laid_loop_example_g00886_impl_sealTurnSpan, Rows.laid_loop_example_g00886_impl_sideSpan, Rows.laid_loop_example_g00886_impl_seedSpan, Rows.laid_loop_example_g00886_impl_openedTextSpan, Rows.laid_loop_example_g00886_impl_roundSpan, Rows.laid_loop_example_g00886_impl_mixedSpan], MemPlace.row ⟨0, 0, none⟩ 2 ++ (MemPlace.row ⟨1, 0, none⟩ 2 ++ (MemPlace.row ⟨2, 0, none⟩ 2 ++ (MemPlace.row ⟨3, 0, none⟩ 2 ++ (MemPlace.row ⟨4, 0, none⟩ 2 ++ (MemPlace.row ⟨5, 0, none⟩ 2))))), by kernel_rfl⟩

set_option maxRecDepth 100000 in
theorem lifted (os : Os) (started : os.Started) (H : Type) (enc : TypeId × Value → H) (F : Stop.Interp) :
    ReturnsInHanded {} Tryz.checked os 3 .any ((OpenSpec.ofChange Rows.fnSealedSpec).preRow enc Tryz.prog Tryz.f3 Rows.fnSealedRow.domain false Rows.fnSealedRow.laid) (((OpenSpec.ofChange Rows.fnSealedSpec).at F).post enc Tryz.prog Tryz.f3 false true false false) := by
  obtain ⟨ds, gs, places, hx⟩ := reads os enc
  refine returnsInHanded_of_row (C := Tryz.checked) (s := OpenSpec.ofChange Rows.fnSealedSpec) own started (by kernel_rfl) Tryz.func3
    (witness_row_at (enc := enc) (C := Tryz.checked) false (laidWorldDi os) #[.slice none 0 0, .slice none 0 0] rfl (by kernel_rfl) (by kernel_rfl) (by kernel_rfl)
      (OpenSpec.preRow_of_cond 8 hx (by kernel_rfl) (fun k hk => by cases hk) (by kernel_rfl) (laid_met os))) ?_
  intro W base args ds gs before hval hW _ _ _ hL _ _
  exact contract H enc W base args ds gs before hval hW hL

theorem said : Rows.FnSealedSaid :=
  OpenClaim.holds_of_cond 3 Tryz.f3 rfl rfl rfl rfl rfl rfl rfl ⟨rfl, rfl, rfl, rfl, rfl⟩ rfl rfl rfl rfl rfl (by kernel_rfl) Tryz.func3 fnSealedFacts.fnSealedClosed
    (of_decide_eq_true (by kernel_rfl)) (by unfold Func.isWrapper; first | (rw [if_pos (by decide +kernel)]; kernel_rfl) | (rw [if_neg (by decide +kernel)]; exact ⟨rfl, rfl⟩))
    (fun os started H enc _ F => by rw [OpenClaim.pre_eq_preRow]; exact lifted os started H enc F)

theorem plain (f : FuncId) (fn : Func) (hf : Tryz.pinned.checked.prog.funcNamed "loop.example/g00886/laws.FnSealed" = some f) (hfn : Tryz.pinned.checked.prog.funcs[f]? = some fn) :
    true = Tryz.pinned.checked.prog.looks [] ∧ ∀ (j : Nat) t, fn.params[j]? = some t → Tryz.pinned.checked.prog.wantsStandIn t = false := by
  obtain rfl : f = 3 := Option.some.inj ((show Tryz.prog.funcNamed "loop.example/g00886/laws.FnSealed" = some 3 by kernel_rfl).symm.trans hf) |>.symm
  obtain rfl : fn = Tryz.f3 := (Option.some.inj (Tryz.func3.symm.trans hfn)).symm
  refine ⟨by kernel_rfl, fun j t ht => ?_⟩
  rw [Tryz.params3] at ht
  have hm := Array.mem_of_getElem? ht
  simp only [List.mem_toArray, List.mem_cons, List.not_mem_nil, or_false] at hm
  rcases hm with rfl | rfl
  · exact (show Tryz.prog.wantsStandIn 22 = false by kernel_rfl)
  · exact (show Tryz.prog.wantsStandIn 22 = false by kernel_rfl)

/-- The card: the row, with what it lists tied to the program's text. -/
theorem card : Rows.FnSealedCardSaid :=
  Claim7.holds_tied_plain_at .later [] _ _ _ _ said (fun _ h => by cases h) (by kernel_rfl) (fun _ h => by cases h) fnSealed_row_tie rfl ⟨rfl, rfl⟩ (by kernel_rfl) rfl plain (by kernel_rfl)
#print axioms card

end Go.Proofs.YtbohefollbmhkaaGreatDoor.fnSealedLaw
