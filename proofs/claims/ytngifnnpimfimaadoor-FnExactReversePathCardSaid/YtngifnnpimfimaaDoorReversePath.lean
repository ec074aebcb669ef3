/-
  The law on ReversePath holds at every argument: the program's answer is the reference's, in memory of its own, and the arguments read as before. The named variables hold what the program's text lays (the card ties them).
-/
import Derived.Test.YtngifnnpimfimaaDoorCsY
import Derived.Test.YtngifnnpimfimaaDoorQa
import Derived.Test.YtngifnnpimfimaaDoorQg
import Derived.Test.YtngifnnpimfimaaDoorQl
namespace Go.Proofs.YtngifnnpimfimaaDoor.reversePathLaw
open Go.ChangeShapes Go.WideShapes Go.ChangeAt Go.RowKit Go.Joins

theorem keep12k {W0 w w1 : World} {p0 p1 p2 p3 p4 p5 p6 p7 p8 p9 p10 p11 : Addr} {v0 v1 v2 v3 v4 v5 v6 v7 v8 v9 v10 v11 : Value} (k : Kp w w1) (h : w.cell? p0 = some v0 ∧ w.cell? p1 = some v1 ∧ w.cell? p2 = some v2 ∧ w.cell? p3 = some v3 ∧ w.cell? p4 = some v4 ∧ w.cell? p5 = some v5 ∧ w.cell? p6 = some v6 ∧ w.cell? p7 = some v7 ∧ w.cell? p8 = some v8 ∧ w.cell? p9 = some v9 ∧ w.cell? p10 = some v10 ∧ w.cell? p11 = some v11 ∧ Kp W0 w) : w1.cell? p0 = some v0 ∧ w1.cell? p1 = some v1 ∧ w1.cell? p2 = some v2 ∧ w1.cell? p3 = some v3 ∧ w1.cell? p4 = some v4 ∧ w1.cell? p5 = some v5 ∧ w1.cell? p6 = some v6 ∧ w1.cell? p7 = some v7 ∧ w1.cell? p8 = some v8 ∧ w1.cell? p9 = some v9 ∧ w1.cell? p10 = some v10 ∧ w1.cell? p11 = some v11 ∧ Kp W0 w1 :=
  ⟨k.cell h.1, k.cell h.2.1, k.cell h.2.2.1, k.cell h.2.2.2.1, k.cell h.2.2.2.2.1, k.cell h.2.2.2.2.2.1, k.cell h.2.2.2.2.2.2.1, k.cell h.2.2.2.2.2.2.2.1, k.cell h.2.2.2.2.2.2.2.2.1, k.cell h.2.2.2.2.2.2.2.2.2.1, k.cell h.2.2.2.2.2.2.2.2.2.2.1, k.cell h.2.2.2.2.2.2.2.2.2.2.2.1, h.2.2.2.2.2.2.2.2.2.2.2.2.trans k⟩
theorem drew12k {W0 w : World} {p0 p1 p2 p3 p4 p5 p6 p7 p8 p9 p10 p11 : Addr} {v0 v1 v2 v3 v4 v5 v6 v7 v8 v9 v10 v11 : Value} (h : w.cell? p0 = some v0 ∧ w.cell? p1 = some v1 ∧ w.cell? p2 = some v2 ∧ w.cell? p3 = some v3 ∧ w.cell? p4 = some v4 ∧ w.cell? p5 = some v5 ∧ w.cell? p6 = some v6 ∧ w.cell? p7 = some v7 ∧ w.cell? p8 = some v8 ∧ w.cell? p9 = some v9 ∧ w.cell? p10 = some v10 ∧ w.cell? p11 = some v11 ∧ Kp W0 w) : w.drew.cell? p0 = some v0 ∧ w.drew.cell? p1 = some v1 ∧ w.drew.cell? p2 = some v2 ∧ w.drew.cell? p3 = some v3 ∧ w.drew.cell? p4 = some v4 ∧ w.drew.cell? p5 = some v5 ∧ w.drew.cell? p6 = some v6 ∧ w.drew.cell? p7 = some v7 ∧ w.drew.cell? p8 = some v8 ∧ w.drew.cell? p9 = some v9 ∧ w.drew.cell? p10 = some v10 ∧ w.drew.cell? p11 = some v11 ∧ Kp W0 w.drew :=
  ⟨h.1, h.2.1, h.2.2.1, h.2.2.2.1, h.2.2.2.2.1, h.2.2.2.2.2.1, h.2.2.2.2.2.2.1, h.2.2.2.2.2.2.2.1, h.2.2.2.2.2.2.2.2.1, h.2.2.2.2.2.2.2.2.2.1, h.2.2.2.2.2.2.2.2.2.2.1, h.2.2.2.2.2.2.2.2.2.2.2.1, h.2.2.2.2.2.2.2.2.2.2.2.2.drew⟩
theorem keep24k {W0 w w1 : World} {p0 p1 p2 p3 p4 p5 p6 p7 p8 p9 p10 p11 p12 p13 p14 p15 p16 p17 p18 p19 p20 p21 p22 p23 : Addr} {v0 v1 v2 v3 v4 v5 v6 v7 v8 v9 v10 v11 v12 v13 v14 v15 v16 v17 v18 v19 v20 v21 v22 v23 : Value} (k : Kp w w1) (h : w.cell? p0 = some v0 ∧ w.cell? p1 = some v1 ∧ w.cell? p2 = some v2 ∧ w.cell? p3 = some v3 ∧ w.cell? p4 = some v4 ∧ w.cell? p5 = some v5 ∧ w.cell? p6 = some v6 ∧ w.cell? p7 = some v7 ∧ w.cell? p8 = some v8 ∧ w.cell? p9 = some v9 ∧ w.cell? p10 = some v10 ∧ w.cell? p11 = some v11 ∧ w.cell? p12 = some v12 ∧ w.cell? p13 = some v13 ∧ w.cell? p14 = some v14 ∧ w.cell? p15 = some v15 ∧ w.cell? p16 = some v16 ∧ w.cell? p17 = some v17 ∧ w.cell? p18 = some v18 ∧ w.cell? p19 = some v19 ∧ w.cell? p20 = some v20 ∧ w.cell? p21 = some v21 ∧ w.cell? p22 = some v22 ∧ w.cell? p23 = some v23 ∧ Kp W0 w) : w1.cell? p0 = some v0 ∧ w1.cell? p1 = some v1 ∧ w1.cell? p2 = some v2 ∧ w1.cell? p3 = some v3 ∧ w1.cell? p4 = some v4 ∧ w1.cell? p5 = some v5 ∧ w1.cell? p6 = some v6 ∧ w1.cell? p7 = some v7 ∧ w1.cell? p8 = some v8 ∧ w1.cell? p9 = some v9 ∧ w1.cell? p10 = some v10 ∧ w1.cell? p11 = some v11 ∧ w1.cell? p12 = some v12 ∧ w1.cell? p13 = some v13 ∧ w1.cell? p14 = some v14 ∧ w1.cell? p15 = some v15 ∧ w1.cell? p16 = some v16 ∧ w1.cell? p17 = some v17 ∧ w1.cell? p18 = some v18 ∧ w1.cell? p19 = some v19 ∧ w1.cell? p20 = some v20 ∧ w1.cell? p21 = some v21 ∧ w1.cell? p22 = some v22 ∧ w1.cell? p23 = some v23 ∧ Kp W0 w1 :=
  ⟨k.cell h.1, k.cell h.2.1, k.cell h.2.2.1, k.cell h.2.2.2.1, k.cell h.2.2.2.2.1, k.cell h.2.2.2.2.2.1, k.cell h.2.2.2.2.2.2.1, k.cell h.2.2.2.2.2.2.2.1, k.cell h.2.2.2.2.2.2.2.2.1, k.cell h.2.2.2.2.2.2.2.2.2.1, k.cell h.2.2.2.2.2.2.2.2.2.2.1, k.cell h.2.2.2.2.2.2.2.2.2.2.2.1, k.cell h.2.2.2.2.2.2.2.2.2.2.2.2.1, k.cell h.2.2.2.2.2.2.2.2.2.2.2.2.2.1, k.cell h.2.2.2.2.2.2.2.2.2.2.2.2.2.2.1, k.cell h.2.2.2.2.2.2.2.2.2.2.2.2.2.2.2.1, k.cell h.2.2.2.2.2.2.2.2.2.2.2.2.2.2.2.2.1, k.cell h.2.2.2.2.2.2.2.2.2.2.2.2.2.2.2.2.2.1, k.cell h.2.2.2.2.2.2.2.2.2.2.2.2.2.2.2.2.2.2.1, k.cell h.2.2.2.2.2.2.2.2.2.2.2.2.2.2.2.2.2.2.2.1, k.cell h.2.2.2.2.2.2.2.2.2.2.2.2.2.2.2.2.2.2.2.2.1, k.cell h.2.2.2.2.2.2.2.2.2.2.2.2.2.2.2.2.2.2.2.2.2.1, k.cell h.2.2.2.2.2.2.2.2.2.2.2.2.2.2.2.2.2.2.2.2.2.2.1, k.cell h.2.2.2.2.2.2.2.2.2.2.2.2.2.2.2.2.2.2.2.2.2.2.2.1, h.2.2.2.2.2.2.2.2.2.2.2.2.2.2.2.2.2.2.2.2.2.2.2.2.trans k⟩
theorem drew24k {W0 w : World} {p0 p1 p2 p3 p4 p5 p6 p7 p8 p9 p10 p11 p12 p13 p14 p15 p16 p17 p18 p19 p20 p21 p22 p23 : Addr} {v0 v1 v2 v3 v4 v5 v6 v7 v8 v9 v10 v11 v12 v13 v14 v15 v16 v17 v18 v19 v20 v21 v22 v23 : Value} (h : w.cell? p0 = some v0 ∧ w.cell? p1 = some v1 ∧ w.cell? p2 = some v2 ∧ w.cell? p3 = some v3 ∧ w.cell? p4 = some v4 ∧ w.cell? p5 = some v5 ∧ w.cell? p6 = some v6 ∧ w.cell? p7 = some v7 ∧ w.cell? p8 = some v8 ∧ w.cell? p9 = some v9 ∧ w.cell? p10 = some v10 ∧ w.cell? p11 = some v11 ∧ w.cell? p12 = some v12 ∧ w.cell? p13 = some v13 ∧ w.cell? p14 = some v14 ∧ w.cell? p15 = some v15 ∧ w.cell? p16 = some v16 ∧ w.cell? p17 = some v17 ∧ w.cell? p18 = some v18 ∧ w.cell? p19 = some v19 ∧ w.cell? p20 = some v20 ∧ w.cell? p21 = some v21 ∧ w.cell? p22 = some v22 ∧ w.cell? p23 = some v23 ∧ Kp W0 w) : w.drew.cell? p0 = some v0 ∧ w.drew.cell? p1 = some v1 ∧ w.drew.cell? p2 = some v2 ∧ w.drew.cell? p3 = some v3 ∧ w.drew.cell? p4 = some v4 ∧ w.drew.cell? p5 = some v5 ∧ w.drew.cell? p6 = some v6 ∧ w.drew.cell? p7 = some v7 ∧ w.drew.cell? p8 = some v8 ∧ w.drew.cell? p9 = some v9 ∧ w.drew.cell? p10 = some v10 ∧ w.drew.cell? p11 = some v11 ∧ w.drew.cell? p12 = some v12 ∧ w.drew.cell? p13 = some v13 ∧ w.drew.cell? p14 = some v14 ∧ w.drew.cell? p15 = some v15 ∧ w.drew.cell? p16 = some v16 ∧ w.drew.cell? p17 = some v17 ∧ w.drew.cell? p18 = some v18 ∧ w.drew.cell? p19 = some v19 ∧ w.drew.cell? p20 = some v20 ∧ w.drew.cell? p21 = some v21 ∧ w.drew.cell? p22 = some v22 ∧ w.drew.cell? p23 = some v23 ∧ Kp W0 w.drew :=
  ⟨h.1, h.2.1, h.2.2.1, h.2.2.2.1, h.2.2.2.2.1, h.2.2.2.2.2.1, h.2.2.2.2.2.2.1, h.2.2.2.2.2.2.2.1, h.2.2.2.2.2.2.2.2.1, h.2.2.2.2.2.2.2.2.2.1, h.2.2.2.2.2.2.2.2.2.2.1, h.2.2.2.2.2.2.2.2.2.2.2.1, h.2.2.2.2.2.2.2.2.2.2.2.2.1, h.2.2.2.2.2.2.2.2.2.2.2.2.2.1, h.2.2.2.2.2.2.2.2.2.2.2.2.2.2.1, h.2.2.2.2.2.2.2.2.2.2.2.2.2.2.2.1, h.2.2.2.2.2.2.2.2.2.2.2.2.2.2.2.2.1, h.2.2.2.2.2.2.2.2.2.2.2.2.2.2.2.2.2.1, h.2.2.2.2.2.2.2.2.2.2.2.2.2.2.2.2.2.2.1, h.2.2.2.2.2.2.2.2.2.2.2.2.2.2.2.2.2.2.2.1, h.2.2.2.2.2.2.2.2.2.2.2.2.2.2.2.2.2.2.2.2.1, h.2.2.2.2.2.2.2.2.2.2.2.2.2.2.2.2.2.2.2.2.2.1, h.2.2.2.2.2.2.2.2.2.2.2.2.2.2.2.2.2.2.2.2.2.2.1, h.2.2.2.2.2.2.2.2.2.2.2.2.2.2.2.2.2.2.2.2.2.2.2.1, h.2.2.2.2.2.2.2.2.2.2.2.2.2.2.2.2.2.2.2.2.2.2.2.2.drew⟩

set_option maxRecDepth 100000 in
set_option maxHeartbeats 16000000 in
theorem walk (At Ak : Option Addr) (nt nk ct ck : Nat) (l : List Ter) (m : List Knd) (a b c d e W H : Int) (x r y : Value) (lt lr ld : List Int) (i : Int) (v : Value) (p : List Int) (w : World) (hs : Spans w) (ht : Tab w) (hr : BrdIn w At Ak nt nk l m x r y lt lr ld) (_hi : isI64 i) (hp : RdI w v p) :
    Calls Tryd.prog 7 #[bv (.slice At nt ct) (.slice Ak nk ck) a b c d e W H x r y, .int .i64 i, v] w fun e' w' => e' = .returned (.bool true) ∧ Kp w w' := by
  have HP := Lib.hid hp
  by_cases hbig : ¬ p.length ≤ 1048576
  · obtain ⟨A9, c9, rfl, _⟩ := hp
    have hbig' : (1048576 : Int) < (p.length : Int) := by omega
    clear hr hs ht HP
    go_enter Tryd.func7, Tryd.ntmps7
    go_wp2_with fail
    go_ret
    exact ⟨rfl, (Kp.refl _).alloc _⟩
  have hpl : p.length ≤ 1048576 := by omega
  have hle : ¬ (1048576 : Int) < (p.length : Int) := by omega
  have CT := Lib.hid (fun v w h => toIntS_any v p w h hpl)
  clear hbig
  have HR := Lib.hid hr
  have HS := Lib.hid hs
  have HT := Lib.hid ht
  obtain ⟨mt, e1⟩ : ∃ n, lt.length = n := ⟨_, rfl⟩
  obtain ⟨mr, e2⟩ : ∃ n, lr.length = n := ⟨_, rfl⟩
  obtain ⟨md, e3⟩ : ∃ n, ld.length = n := ⟨_, rfl⟩
  have HE1 := Lib.hid e1
  have HE2 := Lib.hid e2
  have HE3 := Lib.hid e3
  clear e1 e2 e3
  obtain ⟨B, hB⟩ : ∃ z, z = (((brdOk ⟨l, m, a, b, c, d, e⟩ W H lt lr ld && onI W H i) && pthB p) && onP W H i p) := ⟨_, rfl⟩
  obtain ⟨X, hX⟩ : ∃ z, z = vI (((brdOk ⟨l, m, a, b, c, d, e⟩ W H lt lr ld && onI W H i) && pthB p) && onP W H i p) (endP W i p) := ⟨_, rfl⟩
  obtain ⟨L, hL⟩ : ∃ z, z = (if (((brdOk ⟨l, m, a, b, c, d, e⟩ W H lt lr ld && onI W H i) && pthB p) && onP W H i p) = true then revL p else []) := ⟨_, rfl⟩
  have hn : L.length ≤ 100 := by
    rw [hL]
    split
    · rename_i hk
      simp only [Bool.and_eq_true] at hk
      have := (pth_dir hk.1.2).1
      rw [revL_len]
      omega
    · simp
  have CS : Hid (∀ (v : Value) (At Ak : Option Addr) (ct ck : Nat) (x r y : Value) (w : World), BrdAt w At Ak nt nk l m x r y lt lr ld → RdI w v p → Calls Tryd.prog 25 #[bv (.slice At nt ct) (.slice Ak nk ck) a b c d e W H x r y, .int .i64 i, v] w fun e' w' => ∃ v, e' = .returned (.tuple #[.int .i64 X, v, .bool B]) ∧ OwnI w' w.heap.size v L ∧ Kp w w') := Lib.hid fun v At Ak ct ck x r y w h hv => by
    rw [hB, hL, hX]
    exact specReversePath_any At Ak nt nk ct ck l m a b c d e W H x r y lt lr ld i v p w h hv hpl
  have CI : Hid (∀ (v : Value) (At Ak : Option Addr) (ct ck : Nat) (x r y : Value) (w : World), BrdAt w At Ak nt nk l m x r y lt lr ld → Spans w → Tab w → RdI w v p → Calls Tryd.prog 26 #[bv (.slice At nt ct) (.slice Ak nk ck) a b c d e W H x r y, .int .i64 i, v] w fun e' w' => ∃ v, e' = .returned (.tuple #[.int .i64 X, v, .bool B]) ∧ OwnI w' w.heap.size v L ∧ Kp w w') := Lib.hid fun v At Ak ct ck x r y w h hs ht hv => by
    rw [hB, hL, hX]
    exact reversePathP_any At Ak nt nk ct ck l m a b c d e W H x r y lt lr ld i v p w hs ht h hv hpl
  have eB : (B != B) = false := by simp
  have eX : (X != X) = false := by simp
  clear hr hs ht hB hL hX
  obtain ⟨A9, c9, rfl, _⟩ := hp
  have s0 : cb12 (w.alloc (.cells #[.slice At nt ct, .slice Ak nk ck, .int .i64 a, .int .i64 b, .int .i64 c, .int .i64 d, .int .i64 e, .int .i64 W, .int .i64 H, x, r, y] 33)) (w.heap.size) (.slice At nt ct) (.slice Ak nk ck) (.int .i64 a) (.int .i64 b) (.int .i64 c) (.int .i64 d) (.int .i64 e) (.int .i64 W) (.int .i64 H) (x) (r) (y) (Kp w (w.alloc (.cells #[.slice At nt ct, .slice Ak nk ck, .int .i64 a, .int .i64 b, .int .i64 c, .int .i64 d, .int .i64 e, .int .i64 W, .int .i64 H, x, r, y] 33))) := ⟨by simp [go_sem], by simp [go_sem], by simp [go_sem], by simp [go_sem], by simp [go_sem], by simp [go_sem], by simp [go_sem], by simp [go_sem], by simp [go_sem], by simp [go_sem], by simp [go_sem], by simp [go_sem], (Kp.refl w).alloc _⟩
  go_enter Tryd.func7, Tryd.ntmps7
  go_wp2_with fail
  refine (szBoard_any _ _ _ _ _ _ l m _ _ _ _ _ _ _ _ _ _ lt lr ld _ _ (HR.out.keep s0.2.2.2.2.2.2.2.2.2.2.2.2) (by omega) (by omega)).mono ?_
  rintro e1 w1 ⟨r1, rfl, u1, u2, u3, k1⟩
  have s1 := keep12k k1 s0
  have U3 := Lib.hid u3
  clear s0 k1 u3
  by_cases hneg : r1 < 0
  · go_wp2_with fail
    go_ret
    exact ⟨rfl, s1.2.2.2.2.2.2.2.2.2.2.2.2⟩
  have SM := Lib.hid (U3.out (by omega))
  have RA := Lib.hid (HR.out.at SM.out)
  clear U3
  go_wp2_with fail
  refine (toBoard_any _ _ _ _ _ _ l m _ _ _ _ _ _ _ _ _ _ lt lr ld mt mr md _ (RA.out.keep s1.2.2.2.2.2.2.2.2.2.2.2.2) HE1.out HE2.out HE3.out).mono ?_
  rintro e2 w2 ⟨g1a, g2a, csa, ysa, zsa, A1a, c1a, A2a, c2a, A3a, c3a, rfl, o2, k2⟩
  have s2 := keep12k k2 s1
  have L2 := Lib.hid (o2.at RA.out)
  clear s1 k2 o2
  go_wp2_with fail
  refine (CT.out _ _ (HP.out.keep s2.2.2.2.2.2.2.2.2.2.2.2.2)).mono ?_
  rintro e31 w31 ⟨x31, rfl, o31, k31⟩
  have s31 := keep12k k31 s2
  have R31 := Lib.hid o31.rd
  have L31 := Lib.hid (L2.out.keep k31)
  clear s2 k31 o31 L2
  go_wp2_with fail
  refine (CS.out _ _ _ _ _ _ _ _ _ L31.out R31.out).mono ?_
  rintro e3 w3 ⟨v0, rfl, o3, k3⟩
  have s3 := keep12k k3 s31
  have HS3 := Lib.hid s3
  have R0 := Lib.hid o3.rd
  clear s31 k3 L31 o3
  go_wp2_with fail
  refine (toBoard_any _ _ _ _ _ _ l m _ _ _ _ _ _ _ _ _ _ lt lr ld mt mr md _ (RA.out.keep s3.2.2.2.2.2.2.2.2.2.2.2.2) HE1.out HE2.out HE3.out).mono ?_
  rintro e4 w4 ⟨g1b, g2b, csb, ysb, zsb, A1b, c1b, A2b, c2b, A3b, c3b, rfl, o4, k4⟩
  have s4a := keep12k k4 s3
  have kb : Kp w4 (w4.alloc (.cells #[.slice (some ⟨g1b, 0, none⟩) nt nt, .slice (some ⟨g2b, 0, none⟩) nk nk, .int .i64 a, .int .i64 b, .int .i64 c, .int .i64 d, .int .i64 e, .int .i64 W, .int .i64 H, .slice A1b mt c1b, .slice A2b mr c2b, .slice A3b md c3b] 42)) := (Kp.refl w4).alloc _
  have s4 : cb12 (w4.alloc (.cells #[.slice (some ⟨g1b, 0, none⟩) nt nt, .slice (some ⟨g2b, 0, none⟩) nk nk, .int .i64 a, .int .i64 b, .int .i64 c, .int .i64 d, .int .i64 e, .int .i64 W, .int .i64 H, .slice A1b mt c1b, .slice A2b mr c2b, .slice A3b md c3b] 42)) (w.heap.size) (.slice At nt ct) (.slice Ak nk ck) (.int .i64 a) (.int .i64 b) (.int .i64 c) (.int .i64 d) (.int .i64 e) (.int .i64 W) (.int .i64 H) (x) (r) (y) (cb12 (w4.alloc (.cells #[.slice (some ⟨g1b, 0, none⟩) nt nt, .slice (some ⟨g2b, 0, none⟩) nk nk, .int .i64 a, .int .i64 b, .int .i64 c, .int .i64 d, .int .i64 e, .int .i64 W, .int .i64 H, .slice A1b mt c1b, .slice A2b mr c2b, .slice A3b md c3b] 42)) (w4.heap.size) (.slice (some ⟨g1b, 0, none⟩) nt nt) (.slice (some ⟨g2b, 0, none⟩) nk nk) (.int .i64 a) (.int .i64 b) (.int .i64 c) (.int .i64 d) (.int .i64 e) (.int .i64 W) (.int .i64 H) (.slice A1b mt c1b) (.slice A2b mr c2b) (.slice A3b md c3b) (Kp w (w4.alloc (.cells #[.slice (some ⟨g1b, 0, none⟩) nt nt, .slice (some ⟨g2b, 0, none⟩) nk nk, .int .i64 a, .int .i64 b, .int .i64 c, .int .i64 d, .int .i64 e, .int .i64 W, .int .i64 H, .slice A1b mt c1b, .slice A2b mr c2b, .slice A3b md c3b] 42)))) := ⟨kb.cell s4a.1, kb.cell s4a.2.1, kb.cell s4a.2.2.1, kb.cell s4a.2.2.2.1, kb.cell s4a.2.2.2.2.1, kb.cell s4a.2.2.2.2.2.1, kb.cell s4a.2.2.2.2.2.2.1, kb.cell s4a.2.2.2.2.2.2.2.1, kb.cell s4a.2.2.2.2.2.2.2.2.1, kb.cell s4a.2.2.2.2.2.2.2.2.2.1, kb.cell s4a.2.2.2.2.2.2.2.2.2.2.1, kb.cell s4a.2.2.2.2.2.2.2.2.2.2.2.1, by simp [go_sem], by simp [go_sem], by simp [go_sem], by simp [go_sem], by simp [go_sem], by simp [go_sem], by simp [go_sem], by simp [go_sem], by simp [go_sem], by simp [go_sem], by simp [go_sem], by simp [go_sem], s4a.2.2.2.2.2.2.2.2.2.2.2.2.trans kb⟩
  have HZ34 := Lib.hid k4.size
  have O4 := Lib.hid (o4.keep kb)
  have I4 := Lib.hid (And.intro o4.R.z (And.intro (fun g e => (World.ownsRow.lt o4.M.ot g e).2) (And.intro (fun g e => (World.ownsRow.lt o4.M.or g e).2) (fun g e => (World.ownsRow.lt o4.M.od g e).2))))
  have K34 : Kp w3 (w4.alloc (.cells #[.slice (some ⟨g1b, 0, none⟩) nt nt, .slice (some ⟨g2b, 0, none⟩) nk nk, .int .i64 a, .int .i64 b, .int .i64 c, .int .i64 d, .int .i64 e, .int .i64 W, .int .i64 H, .slice A1b mt c1b, .slice A2b mr c2b, .slice A3b md c3b] 42)) := k4.trans kb
  have hz4 : w4.heap.size < (w4.alloc (.cells #[.slice (some ⟨g1b, 0, none⟩) nt nt, .slice (some ⟨g2b, 0, none⟩) nk nk, .int .i64 a, .int .i64 b, .int .i64 c, .int .i64 d, .int .i64 e, .int .i64 W, .int .i64 H, .slice A1b mt c1b, .slice A2b mr c2b, .slice A3b md c3b] 42)).heap.size := by simp
  clear s3 k4 o4 s4a kb
  go_wp2_with fail
  generalize hW5 : w4.alloc (.cells #[.slice (some ⟨g1b, 0, none⟩) nt nt, .slice (some ⟨g2b, 0, none⟩) nk nk, .int .i64 a, .int .i64 b, .int .i64 c, .int .i64 d, .int .i64 e, .int .i64 W, .int .i64 H, .slice A1b mt c1b, .slice A2b mr c2b, .slice A3b md c3b] 42) = W5 at *
  clear hW5
  refine (CT.out _ _ (HP.out.keep s4.2.2.2.2.2.2.2.2.2.2.2.2.2.2.2.2.2.2.2.2.2.2.2.2)).mono ?_
  rintro e5 w5 ⟨xp, rfl, o5, k5⟩
  have s5 := keep24k k5 s4
  have hz5 := k5.size
  have OP := Lib.hid o5
  have OPZ := Lib.hid o5
  have O5b := Lib.hid (O4.out.keep k5)
  have K35 := K34.trans k5
  clear s4 k5 o5 O4 K34
  go_wp2_with fail
  refine (CI.out _ _ _ _ _ _ _ _ _ (O5b.out.at RA.out) (HS.out.keep s5.2.2.2.2.2.2.2.2.2.2.2.2.2.2.2.2.2.2.2.2.2.2.2.2) (HT.out.keep s5.2.2.2.2.2.2.2.2.2.2.2.2.2.2.2.2.2.2.2.2.2.2.2.2) OP.out.rd).mono ?_
  rintro e6 w6 ⟨v1, rfl, o6, k6⟩
  have s6 := keep24k k6 s5
  have O6 := Lib.hid (o6.base (b := w5.heap.size) (by omega))
  have O4a := Lib.hid (O5b.out.keep k6)
  have K36 : Kp w3 w6 := K35.trans k6
  have hz6 := k6.size
  have OP6 := Lib.hid (OP.out.keep k6)
  clear s5 o6 O5b K35 k6 OP
  go_wp2_with fail
  refine (eqIntS_same v1 v0 L _ O6.out.rd (R0.out.keep K36) (by omega)).mono ?_
  rintro e7 w7 ⟨rfl, k7⟩
  have s7a := keep24k k7 s6
  have O6a := Lib.hid (O6.out.keep k7)
  have OP7 := Lib.hid (OP6.out.keep k7)
  have O4b := Lib.hid (O4a.out.keep k7)
  have K37 : Kp w3 w7 := K36.trans k7
  have hz7 := k7.size
  clear s6 O6 O4a K36 k7 OP6
  have s7 := drew24k s7a
  clear s7a
  go_wp2_with fail
  go_region_held3 (fun w' => cb12 w' (w.heap.size) (.slice At nt ct) (.slice Ak nk ck) (.int .i64 a) (.int .i64 b) (.int .i64 c) (.int .i64 d) (.int .i64 e) (.int .i64 W) (.int .i64 H) (x) (r) (y) (cb12 w' (w4.heap.size) (.slice (some ⟨g1b, 0, none⟩) nt nt) (.slice (some ⟨g2b, 0, none⟩) nk nk) (.int .i64 a) (.int .i64 b) (.int .i64 c) (.int .i64 d) (.int .i64 e) (.int .i64 W) (.int .i64 H) (.slice A1b mt c1b) (.slice A2b mr c2b) (.slice A3b md c3b) (Kp w w'))) (first | assumption | exact s7)
    (first
      | (go_at_call 13; refine (toBoard_any _ _ _ _ _ _ l m _ _ _ _ _ _ _ _ _ _ lt lr ld mt mr md _ (RA.out.keep s7.2.2.2.2.2.2.2.2.2.2.2.2.2.2.2.2.2.2.2.2.2.2.2.2) HE1.out HE2.out HE3.out).mono ?_; rintro e8 w8 ⟨g1c, g2c, csc, ysc, zsc, A1c, c1c, A2c, c2c, A3c, c3c, rfl, o8, k8⟩; have s8 := keep24k k8 s7; have L8 := Lib.hid (o8.at RA.out); have MO := Lib.hid ((O4b.out.keep ((Kp.refl _).drew)).keep k8); have M8 := Lib.hid (MO.out.at RA.out); have k78 := Lib.hid ((Kp.refl w7).drew.trans k8))
      | (go_at_call 15; refine (eqBoard_same _ _ _ _ _ _ _ _ _ _ l m _ _ _ _ _ _ _ _ _ _ _ _ _ lt lr ld _ M8.out L8.out).mono ?_; rintro e9 w9 ⟨rfl, k9⟩; have s9 := keep24k k9 s8; have M9 := Lib.hid (MO.out.keep k9); have k79 := Lib.hid (k78.out.trans k9)))
  have O9 := Lib.hid (O6a.out.keep k79.out)
  have OP9 := Lib.hid (OP7.out.keep k79.out)
  have K39 : Kp w3 w9 := K37.trans k79.out
  have hz9 := k79.out.size
  have hz39 := K39.size
  clear s7 s8 L8 M8 MO k78 k79 O6a O4b K37 OP7
  go_wp2_with fail
  refine (CT.out _ _ (HP.out.keep s9.2.2.2.2.2.2.2.2.2.2.2.2.2.2.2.2.2.2.2.2.2.2.2.2)).mono ?_
  rintro e32 w32 ⟨x32, rfl, o32, k32⟩
  have OP32 := Lib.hid (OP9.out.keep k32)
  have R32 := Lib.hid o32.rd
  have s32 := keep24k k32 s9
  have M32 := Lib.hid (M9.out.keep k32)
  have O32 := Lib.hid (O9.out.keep k32)
  have K332 := K39.trans k32
  have hz32 := k32.size
  clear o32 s9 M9 O9 K39 k32 OP9
  go_wp2_with fail
  refine (eqIntS_same xp x32 p _ OP32.out.rd R32.out hpl).mono ?_
  rintro e33 w33 ⟨rfl, k33⟩
  have OP33 := Lib.hid (OP32.out.keep k33)
  have s33 := keep24k k33 s32
  have M9 := Lib.hid (M32.out.keep k33)
  have O9 := Lib.hid (O32.out.keep k33)
  have K39 := K332.trans k33
  have hz33 := k33.size
  have hz339 := K39.size
  clear s32 M32 O32 K332 k33 OP32 R32
  go_wp2_with fail
  refine (markBoard_u w3.heap.size _ _ _ _ l m _ _ _ _ _ _ _ _ _ _ 1 _ _ _ lt lr ld _ M9.out RA.out.R.bt RA.out.R.bk (fun x hx => (RA.out.R.bc x hx).1) SM.out.2 (by omega) w4.heap.size (by omega) I4.out.1 I4.out.2.1 I4.out.2.2.1 I4.out.2.2.2 (by omega) (by omega)).mono ?_
  rintro e10 w10 ⟨kk, rfl, y10, y11, m10⟩
  have K3a : Kp w3 w10 := m10.kp K39 (Nat.le_refl _)
  have O10 : Hid (OwnI w10 w5.heap.size v1 L) := Lib.hid (m10.own O9.out (fun g hg => by
    have h1 := (World.ownsRow.lt O9.out g hg).1
    omega))
  have OP10 : Hid (OwnI w10 W5.heap.size xp p) := Lib.hid (m10.own OP33.out (fun g hg => by
    have h1 := (World.ownsRow.lt OP33.out g hg).1
    omega))
  have hxp : ∀ g, xp.ownBlock = some g → g < w5.heap.size := fun g hg => (World.ownsRow.lt OPZ.out g hg).2
  have hk0 : ¬ kk < 0 := by omega
  clear m10 M9 O9 K39 s33 OP33
  go_wp2_with fail
  refine (markIntS_own xp p.length W5.heap.size kk (cellsI p) _ (by omega) (by omega) (by omega) OP10.out).mono ?_
  rintro e34 w34 ⟨rfl, om34, gm34⟩
  have K3m : Kp w3 w34 := K3a.grown gm34 (fun k e => by have := (World.ownsRow.lt OP10.out k e).1; have := HZ34.out; omega)
  have O34 : Hid (OwnI w34 w5.heap.size v1 L) := Lib.hid (World.ownsRow.kept O10.out gm34 (by
    cases hv : v1.ownBlock
    · exact .inl rfl
    · rename_i k
      refine .inr fun e => ?_
      have h1 := (World.ownsRow.lt O10.out k hv).1
      have h2 := hxp k e.symm
      omega))
  have hk1 : ¬ kk + (p.length : Int) < 0 := by omega
  clear om34 gm34 OP10 O10 K3a hxp
  go_wp2_with fail
  refine (eqIntS_same v1 v0 L _ O34.out.rd (R0.out.keep K3m) (by omega)).mono ?_
  rintro e11 w11 ⟨rfl, k11⟩
  have O11 := Lib.hid (O34.out.keep k11)
  have K3b : Kp w3 w11 := K3m.trans k11
  have hz3 : w3.heap.size ≤ w5.heap.size := by have := HZ34.out; omega
  clear O34 K3m k11
  go_wp2_with fail
  refine (markIntS_own v1 L.length w5.heap.size 1 (cellsI L) _ (by omega) (by omega) (by omega) O11.out).mono ?_
  rintro e12 w12 ⟨rfl, om, gm⟩
  have K3c : Kp w3 w12 := K3b.grown gm (fun k e => Nat.le_trans hz3 (World.ownsRow.lt O11.out k e).1)
  have OM := Lib.hid om
  have hne : ((1 + (L.length : Int)) != (1 + (L.length : Int))) = false := by simp
  clear om gm O11 K3b
  go_wp2_with fail
  refine (heldIntS_own v1 L.length w5.heap.size 1 _ (by omega) (by omega) (by omega) OM.out).mono ?_
  rintro e13 w13 ⟨rfl, k13⟩
  have OM2 := Lib.hid (ownsRow_keep OM.out k13)
  have K3d : Kp w3 w13 := K3c.trans k13
  have s13 := keep12k K3d HS3.out
  clear K3c k13 OM HS3
  go_wp2_with fail
  refine (toBoard_any _ _ _ _ _ _ l m _ _ _ _ _ _ _ _ _ _ lt lr ld mt mr md _ (RA.out.keep s13.2.2.2.2.2.2.2.2.2.2.2.2) HE1.out HE2.out HE3.out).mono ?_
  rintro e14 w14 ⟨g1d, g2d, csd, ysd, zsd, A1d, c1d, A2d, c2d, A3d, c3d, rfl, o14, k14⟩
  have s14 := keep12k k14 s13
  have L14 := Lib.hid (o14.at RA.out)
  clear s13 o14
  go_wp2_with fail
  refine (CT.out _ _ (HP.out.keep s14.2.2.2.2.2.2.2.2.2.2.2.2)).mono ?_
  rintro e35 w35 ⟨x35, rfl, o35, k35⟩
  have s35 := keep12k k35 s14
  have R35 := Lib.hid o35.rd
  have L35 := Lib.hid (L14.out.keep k35)
  have k1435 := k14.trans k35
  clear s14 o35 L14 k14 k35
  go_wp2_with fail
  refine (CI.out _ _ _ _ _ _ _ _ _ L35.out (HS.out.keep s35.2.2.2.2.2.2.2.2.2.2.2.2) (HT.out.keep s35.2.2.2.2.2.2.2.2.2.2.2.2) R35.out).mono ?_
  rintro e15 w15 ⟨v2, rfl, o15, k15⟩
  have O15 := Lib.hid o15
  have K13 : Kp w13 w15 := k1435.trans k15
  have Kw : Kp w w15 := s35.2.2.2.2.2.2.2.2.2.2.2.2.trans k15
  clear o15 k15 k1435 s35 L35
  go_wp2_with fail
  refine (eqIntS_same v2 v0 L _ O15.out.rd (R0.out.keep (K3d.trans K13)) (by omega)).mono ?_
  rintro e16 w16 ⟨rfl, k16⟩
  have OM3 := Lib.hid (ownsRow_keep OM2.out (K13.trans k16))
  have Kx : Kp w w16 := Kw.trans k16
  clear OM2 K13 Kw O15 k16
  go_wp2_with fail
  refine (heldIntS_own v1 L.length w5.heap.size 1 _ (by omega) (by omega) (by omega) OM3.out).mono ?_
  rintro e17 w17 ⟨rfl, k17⟩
  go_wp2_with fail
  go_ret
  exact ⟨rfl, Kx.trans k17⟩

set_option maxRecDepth 100000 in
theorem contract (H : Type) (enc : TypeId × Value → H) (W : World) (base : Nat) (args : Array Value) (ds gs : List (DataW H)) (before : List MemPlace)
    (hval : ∀ (j : Nat) t v, Tryd.f7.params[j]? = some t → args[j]? = some v → Value.okWide Tryd.prog W .any base t v)
    (hW : DataW.Whole enc Tryd.prog Tryd.f7.params.toList Rows.fnExactReversePathSpec.vars false W args.toList ds gs before) (hL : laidMetH Tryd.prog Rows.fnExactReversePathRow.laid W) :
    Calls Tryd.prog 7 args W fun e W' => ∃ v, e = .returned v ∧ Rows.fnExactReversePathSpec.post enc Tryd.prog Tryd.f7 false true false false W args v W' := by
  have hW' := hW
  obtain ⟨p, q, hA0, hV, rfl, hfz, hnd⟩ := hW
  have hA : DataW.TrodAll enc Tryd.prog W 0 (fun _ => true) true Tryd.f7.params.toList args.toList ds p := hA0
  rw [Tryd.params7] at hA hval
  obtain ⟨v0, v1, v2, d0, d1, d2, p0, p1, p2, rfl, rfl, rfl, h0, h1, h2⟩ := trodAll_three hA
  obtain ⟨_, _, _, _, _, _, _, _, _, _, _, _, _, _, _, rfl⟩ := lenv15 (trodVars_len hV)
  obtain ⟨At0, Ak0, nt0, nk0, ct0, ck0, l0, m0, a0, b0, c0, d0, e0, W0, H0, x0, r0, y0, lt0, lr0, ld0, rfl, hR0, hI0⟩ := open_board (hval 0 33 v0 rfl rfl) h0
  obtain ⟨n1, rfl, _, _, wf1⟩ := open_int Tryd.underlying3 (hval 1 3 v1 rfl rfl) h1
  obtain ⟨l2, hl2⟩ := rdI_of_trod (hval 2 29 v2 rfl rfl) h2
  refine (walk At0 Ak0 nt0 nk0 ct0 ck0 l0 m0 a0 b0 c0 d0 e0 W0 H0 x0 r0 y0 lt0 lr0 ld0 n1 v2 l2 W (laid15_sp hL) (laid15_tab hL) hR0 (bounds_i64 wf1) hl2).mono fun e W' ⟨he, hg⟩ => ?_
  subst he
  exact ⟨_, rfl, law_post hW' laidOut (by kernel_rfl) (by kernel_rfl) (by kernel_rfl) Tryd.underlying4 rfl hg⟩

theorem laid_met (os : Os) : laidMet Tryd.prog Rows.fnExactReversePathRow.laid ((laidWorldS os).forCall (fun _ _ => 0) ⟨#[], #[.agg #[.slice none 0 0, .slice none 0 0, .int .i64 0, .int .i64 0, .int .i64 0, .int .i64 0, .int .i64 0, .int .i64 0, .int .i64 0, .slice none 0 0, .slice none 0 0, .slice none 0 0], .int .i64 0, .slice none 0 0], []⟩).memory :=
  laidMet_of_run' 8 (by kernel_rfl) (by kernel_rfl)
theorem reads (os : Os) {H : Type} (enc : TypeId × Value → H) : ∃ ds gs places, DataW.whole enc Tryd.prog ((laidWorldS os).forCall (fun _ _ => 0) ⟨#[], #[.agg #[.slice none 0 0, .slice none 0 0, .int .i64 0, .int .i64 0, .int .i64 0, .int .i64 0, .int .i64 0, .int .i64 0, .int .i64 0, .slice none 0 0, .slice none 0 0, .slice none 0 0], .int .i64 0, .slice none 0 0], []⟩).memory Tryd.f7.params.toList Rows.fnExactReversePathSpec.vars false #[.agg #[.slice none 0 0, .slice none 0 0, .int .i64 0, .int .i64 0, .int .i64 0, .int .i64 0, .int .i64 0, .int .i64 0, .int .i64 0, .slice none 0 0, .slice none 0 0, .slice none 0 0], .int .i64 0, .slice none 0 0].toList 8 = some (ds, gs, places) :=
  ⟨[.agg [.agg [.nil, .nil, .lit (.int .i64 0), .lit (.int .i64 0), .lit (.int .i64 0), .lit (.int .i64 0), .lit (.int .i64 0)], .agg [.lit (.int .i64 0), .lit (.int .i64 0), .nil, .nil, .nil]], .lit (.int .i64 0), .nil], [Rows.laid_loop_example_g00886_impl_terrainsSpan, Rows.laid_loop_example_g00886_impl_kindsSpan, Rows.laid_loop_example_g00886_impl_stackSpan, Rows.laid_loop_example_g00886_impl_riverSpan, Rows.laid_loop_example_g00886_impl_roadSpan, Rows.laid_loop_example_g00886_impl_supplySpan, Rows.laid_loop_example_g00886_impl_turnsSpan, Rows.laid_loop_example_g00886_impl_costSpan, Rows.laid_loop_example_g00886_impl_shiftSpan, Rows.laid_loop_example_g00886_impl_heightSpan, Rows.laid_loop_example_g00886_impl_strengthSpan, Rows.laid_loop_example_g00886_impl_movesSpan, Rows.laid_loop_example_g00886_impl_stepsSpan, Rows.laid_loop_example_g00886_impl_viewSpan, Rows.laid_loop_example_g00886_impl_directionSteps], MemPlace.row ⟨2, 0, none⟩ 2 ++ (MemPlace.row ⟨3, 0, none⟩ 2 ++ (MemPlace.row ⟨4, 0, none⟩ 2 ++ (MemPlace.row ⟨5, 0, none⟩ 2 ++ (MemPlace.row ⟨6, 0, none⟩ 2 ++ (MemPlace.row ⟨7, 0, none⟩ 2 ++ (MemPlace.row ⟨8, 0, none⟩ 2 ++ (MemPlace.row ⟨9, 0, none⟩ 2 ++ (MemPlace.row ⟨10, 0, none⟩ 2 ++ (MemPlace.row ⟨11, 0, none⟩ 2 ++ (MemPlace.row ⟨12, 0, none⟩ 2 ++ (MemPlace.row ⟨13, 0, none⟩ 2 ++ (MemPlace.row ⟨14, 0, none⟩ 2 ++ (MemPlace.row ⟨15, 0, none⟩ 2 ++ (MemPlace.row ⟨1, 0, none⟩ 12)))))))))))))), by kernel_rfl⟩

set_option maxRecDepth 100000 in
theorem lifted (os : Os) (started : os.Started) (H : Type) (enc : TypeId × Value → H) (F : Stop.Interp) :
    ReturnsInHanded {} Tryd.checked os 7 .any ((OpenSpec.ofChange Rows.fnExactReversePathSpec).preRow enc Tryd.prog Tryd.f7 Rows.fnExactReversePathRow.domain false Rows.fnExactReversePathRow.laid) (((OpenSpec.ofChange Rows.fnExactReversePathSpec).at F).post enc Tryd.prog Tryd.f7 false true false false) := by
  obtain ⟨ds, gs, places, hx⟩ := reads os enc
  refine returnsInHanded_of_row (C := Tryd.checked) (s := OpenSpec.ofChange Rows.fnExactReversePathSpec) own started (by kernel_rfl) Tryd.func7
    (witness_row_at (enc := enc) (C := Tryd.checked) false (laidWorldS os) #[.agg #[.slice none 0 0, .slice none 0 0, .int .i64 0, .int .i64 0, .int .i64 0, .int .i64 0, .int .i64 0, .int .i64 0, .int .i64 0, .slice none 0 0, .slice none 0 0, .slice none 0 0], .int .i64 0, .slice none 0 0] rfl (by kernel_rfl) (by kernel_rfl) (by kernel_rfl)
      (OpenSpec.preRow_of_cond 8 hx (by kernel_rfl) (fun k hk => by cases hk) (by kernel_rfl) (laid_met os))) ?_
  intro W base args ds gs before hval hW _ _ _ hL _ _
  exact contract H enc W base args ds gs before hval hW hL

theorem said : Rows.FnExactReversePathSaid :=
  OpenClaim.holds_of_cond 7 Tryd.f7 rfl rfl rfl rfl rfl rfl rfl ⟨rfl, rfl, rfl, rfl, rfl⟩ rfl rfl rfl rfl rfl (by kernel_rfl) Tryd.func7 (by kernel_rfl)
    (of_decide_eq_true (by kernel_rfl)) (by unfold Func.isWrapper; first | (rw [if_pos (by decide +kernel)]; kernel_rfl) | (rw [if_neg (by decide +kernel)]; exact ⟨rfl, rfl⟩))
    (fun os started H enc _ F => by rw [OpenClaim.pre_eq_preRow]; exact lifted os started H enc F)

theorem plain (f : FuncId) (fn : Func) (hf : Tryd.pinned.checked.prog.funcNamed "loop.example/g00886/laws.FnExactReversePath" = some f) (hfn : Tryd.pinned.checked.prog.funcs[f]? = some fn) :
    false = Tryd.pinned.checked.prog.looks [] ∧ ∀ (j : Nat) t, fn.params[j]? = some t → Tryd.pinned.checked.prog.wantsStandIn t = false := by
  obtain rfl : f = 7 := Option.some.inj ((show Tryd.prog.funcNamed "loop.example/g00886/laws.FnExactReversePath" = some 7 by kernel_rfl).symm.trans hf) |>.symm
  obtain rfl : fn = Tryd.f7 := (Option.some.inj (Tryd.func7.symm.trans hfn)).symm
  refine ⟨by kernel_rfl, fun j t ht => ?_⟩
  rw [Tryd.params7] at ht
  have hm := Array.mem_of_getElem? ht
  simp only [List.mem_toArray, List.mem_cons, List.not_mem_nil, or_false] at hm
  rcases hm with rfl | rfl | rfl
  · exact (show Tryd.prog.wantsStandIn 33 = false by kernel_rfl)
  · exact (show Tryd.prog.wantsStandIn 3 = false by kernel_rfl)
  · exact (show Tryd.prog.wantsStandIn 29 = false by kernel_rfl)

/-- The card: the row, with what it lists tied to the program's text. -/
theorem card : Rows.FnExactReversePathCardSaid :=
  Claim7.holds_tied_plain_at .later [] _ _ _ _ said (fun _ h => by cases h) (by kernel_rfl) (fun _ h => by cases h) fnExactReversePath_row_tie rfl ⟨rfl, rfl⟩ (by kernel_rfl) rfl plain (by kernel_rfl)
#print axioms card

end Go.Proofs.YtngifnnpimfimaaDoor.reversePathLaw
