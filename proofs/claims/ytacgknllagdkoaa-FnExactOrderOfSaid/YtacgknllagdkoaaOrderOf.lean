/-
  The law on OrderOf holds at every argument: the program's answer is the reference's, in memory of its own, and the arguments read as before.
-/
import Derived.Test.YtacgknllagdkoaaOfM
import Derived.Test.YtacgknllagdkoaaLaw
import Derived.Test.YtacgknllagdkoaaBrdX
import Derived.Deep.RegionHeld3
namespace Go.Proofs.Ytacgknllagdkoaa.orderOfLaw
open Go.ChangeShapes Go.WideShapes Go.ChangeAt Go.RowKit Go.Joins Go.Deep

theorem keep2f {W0 w w1 : World} {p0 p1 : Addr} {v0 v1 : Value} (k : Kp w w1) (h : w.cell? p0 = some v0 ∧ w.cell? p1 = some v1 ∧ Kp W0 w) : w1.cell? p0 = some v0 ∧ w1.cell? p1 = some v1 ∧ Kp W0 w1 :=
  ⟨k.cell h.1, k.cell h.2.1, h.2.2.trans k⟩
theorem drew2f {W0 w : World} {p0 p1 : Addr} {v0 v1 : Value} (h : w.cell? p0 = some v0 ∧ w.cell? p1 = some v1 ∧ Kp W0 w) : w.drew.cell? p0 = some v0 ∧ w.drew.cell? p1 = some v1 ∧ Kp W0 w.drew :=
  ⟨h.1, h.2.1, h.2.2.drew⟩
theorem keep5f {W0 w w1 : World} {p0 p1 p2 p3 p4 : Addr} {v0 v1 v2 v3 v4 : Value} (k : Kp w w1) (h : w.cell? p0 = some v0 ∧ w.cell? p1 = some v1 ∧ w.cell? p2 = some v2 ∧ w.cell? p3 = some v3 ∧ w.cell? p4 = some v4 ∧ Kp W0 w) : w1.cell? p0 = some v0 ∧ w1.cell? p1 = some v1 ∧ w1.cell? p2 = some v2 ∧ w1.cell? p3 = some v3 ∧ w1.cell? p4 = some v4 ∧ Kp W0 w1 :=
  ⟨k.cell h.1, k.cell h.2.1, k.cell h.2.2.1, k.cell h.2.2.2.1, k.cell h.2.2.2.2.1, h.2.2.2.2.2.trans k⟩
theorem drew5f {W0 w : World} {p0 p1 p2 p3 p4 : Addr} {v0 v1 v2 v3 v4 : Value} (h : w.cell? p0 = some v0 ∧ w.cell? p1 = some v1 ∧ w.cell? p2 = some v2 ∧ w.cell? p3 = some v3 ∧ w.cell? p4 = some v4 ∧ Kp W0 w) : w.drew.cell? p0 = some v0 ∧ w.drew.cell? p1 = some v1 ∧ w.drew.cell? p2 = some v2 ∧ w.drew.cell? p3 = some v3 ∧ w.drew.cell? p4 = some v4 ∧ Kp W0 w.drew :=
  ⟨h.1, h.2.1, h.2.2.1, h.2.2.2.1, h.2.2.2.2.1, h.2.2.2.2.2.drew⟩
theorem keep7f {W0 w w1 : World} {p0 p1 p2 p3 p4 p5 p6 : Addr} {v0 v1 v2 v3 v4 v5 v6 : Value} (k : Kp w w1) (h : w.cell? p0 = some v0 ∧ w.cell? p1 = some v1 ∧ w.cell? p2 = some v2 ∧ w.cell? p3 = some v3 ∧ w.cell? p4 = some v4 ∧ w.cell? p5 = some v5 ∧ w.cell? p6 = some v6 ∧ Kp W0 w) : w1.cell? p0 = some v0 ∧ w1.cell? p1 = some v1 ∧ w1.cell? p2 = some v2 ∧ w1.cell? p3 = some v3 ∧ w1.cell? p4 = some v4 ∧ w1.cell? p5 = some v5 ∧ w1.cell? p6 = some v6 ∧ Kp W0 w1 :=
  ⟨k.cell h.1, k.cell h.2.1, k.cell h.2.2.1, k.cell h.2.2.2.1, k.cell h.2.2.2.2.1, k.cell h.2.2.2.2.2.1, k.cell h.2.2.2.2.2.2.1, h.2.2.2.2.2.2.2.trans k⟩
theorem drew7f {W0 w : World} {p0 p1 p2 p3 p4 p5 p6 : Addr} {v0 v1 v2 v3 v4 v5 v6 : Value} (h : w.cell? p0 = some v0 ∧ w.cell? p1 = some v1 ∧ w.cell? p2 = some v2 ∧ w.cell? p3 = some v3 ∧ w.cell? p4 = some v4 ∧ w.cell? p5 = some v5 ∧ w.cell? p6 = some v6 ∧ Kp W0 w) : w.drew.cell? p0 = some v0 ∧ w.drew.cell? p1 = some v1 ∧ w.drew.cell? p2 = some v2 ∧ w.drew.cell? p3 = some v3 ∧ w.drew.cell? p4 = some v4 ∧ w.drew.cell? p5 = some v5 ∧ w.drew.cell? p6 = some v6 ∧ Kp W0 w.drew :=
  ⟨h.1, h.2.1, h.2.2.1, h.2.2.2.1, h.2.2.2.2.1, h.2.2.2.2.2.1, h.2.2.2.2.2.2.1, h.2.2.2.2.2.2.2.drew⟩
theorem keep10f {W0 w w1 : World} {p0 p1 p2 p3 p4 p5 p6 p7 p8 p9 : Addr} {v0 v1 v2 v3 v4 v5 v6 v7 v8 v9 : Value} (k : Kp w w1) (h : w.cell? p0 = some v0 ∧ w.cell? p1 = some v1 ∧ w.cell? p2 = some v2 ∧ w.cell? p3 = some v3 ∧ w.cell? p4 = some v4 ∧ w.cell? p5 = some v5 ∧ w.cell? p6 = some v6 ∧ w.cell? p7 = some v7 ∧ w.cell? p8 = some v8 ∧ w.cell? p9 = some v9 ∧ Kp W0 w) : w1.cell? p0 = some v0 ∧ w1.cell? p1 = some v1 ∧ w1.cell? p2 = some v2 ∧ w1.cell? p3 = some v3 ∧ w1.cell? p4 = some v4 ∧ w1.cell? p5 = some v5 ∧ w1.cell? p6 = some v6 ∧ w1.cell? p7 = some v7 ∧ w1.cell? p8 = some v8 ∧ w1.cell? p9 = some v9 ∧ Kp W0 w1 :=
  ⟨k.cell h.1, k.cell h.2.1, k.cell h.2.2.1, k.cell h.2.2.2.1, k.cell h.2.2.2.2.1, k.cell h.2.2.2.2.2.1, k.cell h.2.2.2.2.2.2.1, k.cell h.2.2.2.2.2.2.2.1, k.cell h.2.2.2.2.2.2.2.2.1, k.cell h.2.2.2.2.2.2.2.2.2.1, h.2.2.2.2.2.2.2.2.2.2.trans k⟩
theorem drew10f {W0 w : World} {p0 p1 p2 p3 p4 p5 p6 p7 p8 p9 : Addr} {v0 v1 v2 v3 v4 v5 v6 v7 v8 v9 : Value} (h : w.cell? p0 = some v0 ∧ w.cell? p1 = some v1 ∧ w.cell? p2 = some v2 ∧ w.cell? p3 = some v3 ∧ w.cell? p4 = some v4 ∧ w.cell? p5 = some v5 ∧ w.cell? p6 = some v6 ∧ w.cell? p7 = some v7 ∧ w.cell? p8 = some v8 ∧ w.cell? p9 = some v9 ∧ Kp W0 w) : w.drew.cell? p0 = some v0 ∧ w.drew.cell? p1 = some v1 ∧ w.drew.cell? p2 = some v2 ∧ w.drew.cell? p3 = some v3 ∧ w.drew.cell? p4 = some v4 ∧ w.drew.cell? p5 = some v5 ∧ w.drew.cell? p6 = some v6 ∧ w.drew.cell? p7 = some v7 ∧ w.drew.cell? p8 = some v8 ∧ w.drew.cell? p9 = some v9 ∧ Kp W0 w.drew :=
  ⟨h.1, h.2.1, h.2.2.1, h.2.2.2.1, h.2.2.2.2.1, h.2.2.2.2.2.1, h.2.2.2.2.2.2.1, h.2.2.2.2.2.2.2.1, h.2.2.2.2.2.2.2.2.1, h.2.2.2.2.2.2.2.2.2.1, h.2.2.2.2.2.2.2.2.2.2.drew⟩

set_option maxRecDepth 100000 in
set_option maxHeartbeats 16000000 in
theorem walk (u : Int) (sd : Int) (v : Value) (xs : List Odr) (w : World) (hp : SheAt w v xs) (hpb : xs.length ≤ 9223372036854775807) (hpc : ∀ x ∈ xs, x.p.length ≤ 9223372036854775807) :
    Calls Try.prog 3 #[hv sd v, .int .i64 u] w fun e' w' => e' = .returned (.bool true) ∧ Kp w w' := by
  have HP := Lib.hid hp
  have HPC := Lib.hid hpc
  have s0 : (w.alloc (.cells #[.int .i64 sd, v] 24)).cell? ⟨w.heap.size, 0, none⟩ = some (.int .i64 sd) ∧ (w.alloc (.cells #[.int .i64 sd, v] 24)).cell? ⟨w.heap.size, 1, none⟩ = some (v) ∧ Kp w (w.alloc (.cells #[.int .i64 sd, v] 24)) := ⟨by simp [go_sem], by simp [go_sem], (Kp.refl w).alloc _⟩
  clear hp hpc
  go_enter Try.func3, Try.ntmps3
  go_wp2_with fail
  refine (szSheet_any sd v xs _ _ (HP.out.keep s0.2.2) (by omega) (by omega) hpb HPC.out).mono ?_
  rintro e1 w1 ⟨r1, rfl, u1, u2, u3, k1⟩
  have s1 := keep2f k1 s0
  have U3 := Lib.hid u3
  clear s0 k1 u3
  by_cases hneg : r1 < 0
  · go_wp2_with fail
    go_ret
    exact ⟨rfl, s1.2.2⟩
  have hpl : smO xs := U3.out (by omega)
  have HPL := Lib.hid hpl
  have hxl := hpl.1
  have CT := Lib.hid (fun w h => toSheet_any sd v xs w h hpl)
  obtain ⟨Z, hZ⟩ : ∃ Z, Z = (fndO u xs).getD noO := ⟨_, rfl⟩
  obtain ⟨B, hB⟩ : ∃ B, B = (fndO u xs).isSome := ⟨_, rfl⟩
  have CS : Hid (∀ (g : Nat) (w : World), RdOS w (some ⟨g, 0, none⟩) xs.length xs → Calls Try.prog 5 #[hv sd (.slice (some ⟨g, 0, none⟩) xs.length xs.length), .int .i64 u] w fun e w' => ∃ A c, e = .returned (.tuple #[ov Z.u (.slice A Z.p.length c) Z.a, .bool B]) ∧ OwnI w' w.heap.size (.slice A Z.p.length c) Z.p ∧ Kp w w') := Lib.hid fun g w h => by
    rw [hZ, hB]
    exact orderOfS_any sd u _ _ _ xs w h hpl.1 hpl.2
  have CI : Hid (∀ (g : Nat) (w : World), RdOS w (some ⟨g, 0, none⟩) xs.length xs → Calls Try.prog 7 #[hv sd (.slice (some ⟨g, 0, none⟩) xs.length xs.length), .int .i64 u] w fun e w' => ∃ A c, e = .returned (.tuple #[ov Z.u (.slice A Z.p.length c) Z.a, .bool B]) ∧ OwnI w' w.heap.size (.slice A Z.p.length c) Z.p ∧ Kp w w') := Lib.hid fun g w h => by
    rw [hZ, hB]
    exact orderOfP_any sd u _ _ _ xs w h hpl.1 hpl.2
  have hzn : Z.p.length ≤ 1048576 := by rw [hZ]; exact fnd_len u hpl
  have eB : (B != B) = false := by simp
  clear hZ hB hpl U3
  obtain ⟨zu, zp, za⟩ := Z
  simp only at CS CI hzn
  go_wp2_with fail
  refine (CT.out _ (HP.out.keep s1.2.2)).mono ?_
  rintro e3 w3 ⟨goa, csoa, ysoa, rfl, hcoa, o3, _, _, k3⟩
  have s3 := keep2f k3 s1
  have R3 := Lib.hid (OwnOd.rds o3 rfl hcoa)
  clear s1 k3 o3 hcoa
  go_wp2_with fail
  refine (CS.out _ _ R3.out).mono ?_
  rintro e4 w4 ⟨A0, c0, rfl, o4, k4⟩
  have s4 := keep2f k4 s3
  have ka : Kp w4 (w4.alloc (.cells #[.int .i64 zu, .slice A0 zp.length c0, .int .i64 za] 28)) := (Kp.refl w4).alloc _
  have s4a : (w4.alloc (.cells #[.int .i64 zu, .slice A0 zp.length c0, .int .i64 za] 28)).cell? ⟨w.heap.size, 0, none⟩ = some (.int .i64 sd) ∧ (w4.alloc (.cells #[.int .i64 zu, .slice A0 zp.length c0, .int .i64 za] 28)).cell? ⟨w.heap.size, 1, none⟩ = some (v) ∧ (w4.alloc (.cells #[.int .i64 zu, .slice A0 zp.length c0, .int .i64 za] 28)).cell? ⟨w4.heap.size, 0, none⟩ = some (.int .i64 zu) ∧ (w4.alloc (.cells #[.int .i64 zu, .slice A0 zp.length c0, .int .i64 za] 28)).cell? ⟨w4.heap.size, 1, none⟩ = some (.slice A0 zp.length c0) ∧ (w4.alloc (.cells #[.int .i64 zu, .slice A0 zp.length c0, .int .i64 za] 28)).cell? ⟨w4.heap.size, 2, none⟩ = some (.int .i64 za) ∧ Kp w (w4.alloc (.cells #[.int .i64 zu, .slice A0 zp.length c0, .int .i64 za] 28)) := ⟨ka.cell s4.1, ka.cell s4.2.1, by simp [go_sem], by simp [go_sem], by simp [go_sem], s4.2.2.trans ka⟩
  have R0 := Lib.hid (o4.rd.keep ka)
  clear s3 s4 k4 R3 o4 ka
  go_wp2_with fail
  generalize (w4.alloc (.cells #[.int .i64 zu, .slice A0 zp.length c0, .int .i64 za] 28)) = W4 at *
  have HS4 := Lib.hid s4a
  refine (CT.out _ (HP.out.keep s4a.2.2.2.2.2)).mono ?_
  rintro e5 w5 ⟨gob, csob, ysob, rfl, hcob, o5, hgl, hgu, k5⟩
  have s5 := keep5f k5 s4a
  have kb : Kp w5 (w5.alloc (.cells #[.int .i64 sd, .slice (some ⟨gob, 0, none⟩) xs.length xs.length] 33)) := (Kp.refl w5).alloc _
  have s5a : (w5.alloc (.cells #[.int .i64 sd, .slice (some ⟨gob, 0, none⟩) xs.length xs.length] 33)).cell? ⟨w.heap.size, 0, none⟩ = some (.int .i64 sd) ∧ (w5.alloc (.cells #[.int .i64 sd, .slice (some ⟨gob, 0, none⟩) xs.length xs.length] 33)).cell? ⟨w.heap.size, 1, none⟩ = some (v) ∧ (w5.alloc (.cells #[.int .i64 sd, .slice (some ⟨gob, 0, none⟩) xs.length xs.length] 33)).cell? ⟨w4.heap.size, 0, none⟩ = some (.int .i64 zu) ∧ (w5.alloc (.cells #[.int .i64 sd, .slice (some ⟨gob, 0, none⟩) xs.length xs.length] 33)).cell? ⟨w4.heap.size, 1, none⟩ = some (.slice A0 zp.length c0) ∧ (w5.alloc (.cells #[.int .i64 sd, .slice (some ⟨gob, 0, none⟩) xs.length xs.length] 33)).cell? ⟨w4.heap.size, 2, none⟩ = some (.int .i64 za) ∧ (w5.alloc (.cells #[.int .i64 sd, .slice (some ⟨gob, 0, none⟩) xs.length xs.length] 33)).cell? ⟨w5.heap.size, 0, none⟩ = some (.int .i64 sd) ∧ (w5.alloc (.cells #[.int .i64 sd, .slice (some ⟨gob, 0, none⟩) xs.length xs.length] 33)).cell? ⟨w5.heap.size, 1, none⟩ = some (.slice (some ⟨gob, 0, none⟩) xs.length xs.length) ∧ Kp w (w5.alloc (.cells #[.int .i64 sd, .slice (some ⟨gob, 0, none⟩) xs.length xs.length] 33)) := ⟨kb.cell s5.1, kb.cell s5.2.1, kb.cell s5.2.2.1, kb.cell s5.2.2.2.1, kb.cell s5.2.2.2.2.1, by simp [go_sem], by simp [go_sem], s5.2.2.2.2.2.trans kb⟩
  have OP := Lib.hid (o5.keep kb)
  have I5 := Lib.hid (o5.hi hcob)
  have K45 : Kp W4 (w5.alloc (.cells #[.int .i64 sd, .slice (some ⟨gob, 0, none⟩) xs.length xs.length] 33)) := k5.trans kb
  have hz45 := k5.size
  have hz5 : (w5.alloc (.cells #[.int .i64 sd, .slice (some ⟨gob, 0, none⟩) xs.length xs.length] 33)).heap.size = w5.heap.size + 1 := by simp
  clear s4a s5 k5 o5 kb
  go_wp2_with fail
  generalize (w5.alloc (.cells #[.int .i64 sd, .slice (some ⟨gob, 0, none⟩) xs.length xs.length] 33)) = W5 at *
  refine (CI.out _ _ (OwnOd.rds OP.out rfl hcob)).mono ?_
  rintro e7 w7 ⟨A1, c1, rfl, o7, k7⟩
  have s7 := keep7f k7 s5a
  have kc : Kp w7 (w7.alloc (.cells #[.int .i64 zu, .slice A1 zp.length c1, .int .i64 za] 28)) := (Kp.refl w7).alloc _
  have s7a : (w7.alloc (.cells #[.int .i64 zu, .slice A1 zp.length c1, .int .i64 za] 28)).cell? ⟨w.heap.size, 0, none⟩ = some (.int .i64 sd) ∧ (w7.alloc (.cells #[.int .i64 zu, .slice A1 zp.length c1, .int .i64 za] 28)).cell? ⟨w.heap.size, 1, none⟩ = some (v) ∧ (w7.alloc (.cells #[.int .i64 zu, .slice A1 zp.length c1, .int .i64 za] 28)).cell? ⟨w4.heap.size, 0, none⟩ = some (.int .i64 zu) ∧ (w7.alloc (.cells #[.int .i64 zu, .slice A1 zp.length c1, .int .i64 za] 28)).cell? ⟨w4.heap.size, 1, none⟩ = some (.slice A0 zp.length c0) ∧ (w7.alloc (.cells #[.int .i64 zu, .slice A1 zp.length c1, .int .i64 za] 28)).cell? ⟨w4.heap.size, 2, none⟩ = some (.int .i64 za) ∧ (w7.alloc (.cells #[.int .i64 zu, .slice A1 zp.length c1, .int .i64 za] 28)).cell? ⟨w5.heap.size, 0, none⟩ = some (.int .i64 sd) ∧ (w7.alloc (.cells #[.int .i64 zu, .slice A1 zp.length c1, .int .i64 za] 28)).cell? ⟨w5.heap.size, 1, none⟩ = some (.slice (some ⟨gob, 0, none⟩) xs.length xs.length) ∧ (w7.alloc (.cells #[.int .i64 zu, .slice A1 zp.length c1, .int .i64 za] 28)).cell? ⟨w7.heap.size, 0, none⟩ = some (.int .i64 zu) ∧ (w7.alloc (.cells #[.int .i64 zu, .slice A1 zp.length c1, .int .i64 za] 28)).cell? ⟨w7.heap.size, 1, none⟩ = some (.slice A1 zp.length c1) ∧ (w7.alloc (.cells #[.int .i64 zu, .slice A1 zp.length c1, .int .i64 za] 28)).cell? ⟨w7.heap.size, 2, none⟩ = some (.int .i64 za) ∧ Kp w (w7.alloc (.cells #[.int .i64 zu, .slice A1 zp.length c1, .int .i64 za] 28)) := ⟨kc.cell s7.1, kc.cell s7.2.1, kc.cell s7.2.2.1, kc.cell s7.2.2.2.1, kc.cell s7.2.2.2.2.1, kc.cell s7.2.2.2.2.2.1, kc.cell s7.2.2.2.2.2.2.1, by simp [go_sem], by simp [go_sem], by simp [go_sem], s7.2.2.2.2.2.2.2.trans kc⟩
  have OP7 := Lib.hid (OP.out.keep (k7.trans kc))
  have HOB : Hid (∀ b, (Value.slice A1 zp.length c1).ownBlock = some b → b < w7.heap.size) := Lib.hid fun b e => (World.ownsRow.lt o7 b e).2
  have O7 := Lib.hid (o7.keep kc)
  have K47 := K45.trans (k7.trans kc)
  have hz7 := k7.size
  clear s5a s7 k7 o7 kc OP K45
  go_wp2_with fail
  generalize (w7.alloc (.cells #[.int .i64 zu, .slice A1 zp.length c1, .int .i64 za] 28)) = W7 at *
  refine (eqOrder_same zu za _ _ zp _ O7.out.rd (R0.out.keep K47) hzn).mono ?_
  rintro e8 w8 ⟨rfl, k8⟩
  have s8a := keep10f k8 s7a
  have OP8 := Lib.hid (OP7.out.keep k8)
  have O8 := Lib.hid (O7.out.keep k8)
  have K48 := K47.trans k8
  clear s7a k8 OP7 O7 K47
  go_wp2_with fail
  have s8 := drew10f s8a
  clear s8a
  go_wp2_with fail
  go_region_held3 (fun w' => w'.cell? ⟨w.heap.size, 0, none⟩ = some (.int .i64 sd) ∧ w'.cell? ⟨w.heap.size, 1, none⟩ = some (v) ∧ w'.cell? ⟨w4.heap.size, 0, none⟩ = some (.int .i64 zu) ∧ w'.cell? ⟨w4.heap.size, 1, none⟩ = some (.slice A0 zp.length c0) ∧ w'.cell? ⟨w4.heap.size, 2, none⟩ = some (.int .i64 za) ∧ w'.cell? ⟨w5.heap.size, 0, none⟩ = some (.int .i64 sd) ∧ w'.cell? ⟨w5.heap.size, 1, none⟩ = some (.slice (some ⟨gob, 0, none⟩) xs.length xs.length) ∧ w'.cell? ⟨w7.heap.size, 0, none⟩ = some (.int .i64 zu) ∧ w'.cell? ⟨w7.heap.size, 1, none⟩ = some (.slice A1 zp.length c1) ∧ w'.cell? ⟨w7.heap.size, 2, none⟩ = some (.int .i64 za) ∧ Kp w w') (first | assumption | exact s8)
    (first
      | (go_at_call 6; refine (CT.out _ (HP.out.keep s8.2.2.2.2.2.2.2.2.2.2)).mono ?_; rintro e13 w13 ⟨god, csod, ysod, rfl, hcod, o13, hgld, hgud, k13⟩; have s13 := keep10f k13 s8; have L13 := Lib.hid (OwnOd.she o13 hcod); have M13 := Lib.hid ((OP8.out.keep ((Kp.refl _).drew)).keep k13); have N13 := Lib.hid (OwnOd.she M13.out hcob); have kbc := Lib.hid ((Kp.refl w8).drew.trans k13))
      | (go_at_call 9; refine (eqSheet_same sd _ _ xs _ N13.out L13.out HPL.out).mono ?_; rintro e14 w14 ⟨rfl, k14⟩; have s14 := keep10f k14 s13; have OPc := Lib.hid (M13.out.keep k14); have kbd := Lib.hid (kbc.out.trans k14)))
  have Oc := Lib.hid (O8.out.keep kbd.out)
  have K4c : Kp W4 w14 := K48.trans kbd.out
  have hzc := kbd.out.size
  have hz4c := K48.size
  have hzw : w5.heap.size < w14.heap.size := by have := s14.2.2.2.2.2.2.2.2.2.2.size; have h := cell_lt s14.2.2.2.2.2.1; exact h
  clear s8 s13 L13 M13 N13 kbc kbd O8 OP8 K48
  go_wp2_with fail
  refine (markSheet_w sd gob xs _ _ 1 W4.heap.size w5.heap.size _ OPc.out hcob HPL.out (by omega) hgu I5.out (by omega) (by omega) (by omega)).mono ?_
  rintro e18 w18 ⟨kx, rfl, y18, z18, m18⟩
  have K4f : Kp W4 w18 := m18.kp K4c (Nat.le_refl _)
  have Of : Hid (OwnI w18 W5.heap.size (.slice A1 zp.length c1) zp) := Lib.hid (m18.own Oc.out (fun g hg => by
    have h1 := (World.ownsRow.lt Oc.out g hg).1
    omega))
  have q7 : w18.cell? ⟨w7.heap.size, 0, none⟩ = some (.int .i64 zu) ∧ w18.cell? ⟨w7.heap.size, 1, none⟩ = some (.slice A1 zp.length c1) ∧ w18.cell? ⟨w7.heap.size, 2, none⟩ = some (.int .i64 za) := ⟨m18.cell_hi (by omega) s14.2.2.2.2.2.2.2.1, m18.cell_hi (by omega) s14.2.2.2.2.2.2.2.2.1, m18.cell_hi (by omega) s14.2.2.2.2.2.2.2.2.2.1⟩
  have s18 := keep5f K4f HS4.out
  have hk0 : ¬ kx < 0 := by omega
  clear m18 OPc Oc K4c s14
  go_wp2_with fail
  refine (eqOrder_same zu za _ _ zp _ Of.out.rd (R0.out.keep K4f) hzn).mono ?_
  rintro e19 w19 ⟨rfl, k19⟩
  have Og := Lib.hid (Of.out.keep k19)
  have K4g : Kp W4 w19 := K4f.trans k19
  have q0 := k19.cell q7.1
  have q1 := k19.cell q7.2.1
  have q2 := k19.cell q7.2.2
  clear Of K4f k19 q7 s18
  go_wp2_with fail
  refine (markOrder_own zu za 1 (.slice A1 zp.length c1) zp.length W5.heap.size (cellsI zp) _ (by omega) (by omega) (by omega) Og.out).mono ?_
  rintro e20 w20 ⟨rfl, om, gm⟩
  have K4h : Kp W4 w20 := (K4g.alloc _).grown gm (fun k e => Nat.le_trans (by omega) (World.ownsRow.lt Og.out k e).1)
  have hno : (Value.slice A1 zp.length c1).ownBlock ≠ some w7.heap.size := fun e => by have := HOB.out _ e; omega
  have ka := (Kp.refl w19).alloc (.cells #[.int .i64 zu, .slice A1 zp.length c1, .int .i64 za] 28)
  have q0 := grown_cell gm (ka.cell q0) hno
  have q1 := grown_cell gm (ka.cell q1) hno
  have q2 := grown_cell gm (ka.cell q2) hno
  have OM := Lib.hid om
  have hne : ((1 + (zp.length : Int)) != (1 + (zp.length : Int))) = false := by simp
  have hnn : ¬ (1 + (zp.length : Int)) < 0 := by omega
  clear om gm Og K4g ka hno
  go_wp2_with fail
  refine (heldOrder_own zu za 1 (.slice A1 zp.length c1) zp.length W5.heap.size _ (by omega) (by omega) (by omega) OM.out).mono ?_
  rintro e21 w21 ⟨rfl, k21⟩
  have OM2 := Lib.hid (ownsRow_keep OM.out k21)
  have K4i : Kp W4 w21 := K4h.trans k21
  have s21 := keep5f K4i HS4.out
  have q0 := k21.cell q0
  have q1 := k21.cell q1
  have q2 := k21.cell q2
  clear K4h k21 OM HS4
  go_wp2_with fail
  refine (CT.out _ (HP.out.keep s21.2.2.2.2.2)).mono ?_
  rintro e22 w22 ⟨goe, csoe, ysoe, rfl, hcoe, o22, _, _, k22⟩
  have s22 := keep5f k22 s21
  have R22 := Lib.hid (OwnOd.rds o22 rfl hcoe)
  clear s21 o22 hcoe
  go_wp2_with fail
  refine (CI.out _ _ R22.out).mono ?_
  rintro e23 w23 ⟨A2, c2, rfl, o23, k23⟩
  have kd : Kp w23 (w23.alloc (.cells #[.int .i64 zu, .slice A2 zp.length c2, .int .i64 za] 28)) := (Kp.refl w23).alloc _
  have K2 := k22.trans (k23.trans kd)
  have s23 := keep5f (k23.trans kd) s22
  have O23 := Lib.hid (o23.rd.keep kd)
  have OM3 := Lib.hid (ownsRow_keep OM2.out K2)
  have R05 := Lib.hid (R0.out.keep (K4i.trans K2))
  have q0 := K2.cell q0
  have q1 := K2.cell q1
  have q2 := K2.cell q2
  have n0 : (w23.alloc (.cells #[.int .i64 zu, .slice A2 zp.length c2, .int .i64 za] 28)).cell? ⟨w23.heap.size, 0, none⟩ = some (.int .i64 zu) := by simp [go_sem]
  have n1 : (w23.alloc (.cells #[.int .i64 zu, .slice A2 zp.length c2, .int .i64 za] 28)).cell? ⟨w23.heap.size, 1, none⟩ = some (.slice A2 zp.length c2) := by simp [go_sem]
  have n2 : (w23.alloc (.cells #[.int .i64 zu, .slice A2 zp.length c2, .int .i64 za] 28)).cell? ⟨w23.heap.size, 2, none⟩ = some (.int .i64 za) := by simp [go_sem]
  clear s22 k22 k23 kd K2 o23 OM2 R0 R22 K4i
  go_wp2_with fail
  generalize (w23.alloc (.cells #[.int .i64 zu, .slice A2 zp.length c2, .int .i64 za] 28)) = W23 at *
  refine (eqOrder_same zu za _ _ zp _ O23.out R05.out hzn).mono ?_
  rintro e26 w26 ⟨rfl, k26⟩
  have OM4 := Lib.hid (ownsRow_keep OM3.out k26)
  have Kx : Kp w w26 := s23.2.2.2.2.2.trans k26
  have q0 := k26.cell q0
  have q1 := k26.cell q1
  have q2 := k26.cell q2
  clear OM3 O23 R05 k26 s23 n0 n1 n2
  go_wp2_with fail
  refine (heldOrder_own zu za 1 (.slice A1 zp.length c1) zp.length W5.heap.size _ (by omega) (by omega) (by omega) OM4.out).mono ?_
  rintro e27 w27 ⟨rfl, k27⟩
  go_wp2_with fail
  go_ret
  exact ⟨rfl, Kx.trans k27⟩

set_option maxRecDepth 100000 in
theorem lifted (os : Os) (started : os.Started) (H : Type) (enc : TypeId × Value → H) :
    ReturnsInHanded {} Try.checked os 3 .any (Rows.fnExactOrderOfSpec.pre6 enc Try.prog Try.f3 Rows.fnExactOrderOfRow.domain false) (Rows.fnExactOrderOfSpec.post enc Try.prog Try.f3 false true false false) := by
  refine returnsInHanded_of_change (C := Try.checked) own started (by kernel_rfl) Try.func3
    (ChangeSpec.witness6 (enc := enc) (C := Try.checked) false ⟨#[], #[.agg #[.int .i64 0, .slice none 0 0], .int .i64 0], []⟩ 8 (by kernel_rfl) (by kernel_rfl) (by kernel_rfl) (by kernel_rfl)) ?_
  intro W base args ds gs before hval0 hW _ _
  have hval : ∀ (j : Nat) t v, Try.f3.params[j]? = some t → args[j]? = some v → Value.okWide Try.prog W .any base t v := hval0
  have hW' := hW
  obtain ⟨p, q, hA0, hV, rfl, _, _⟩ := hW
  have hA : DataW.TrodAll enc Try.prog W 0 (fun _ => true) true Try.f3.params.toList args.toList ds p := hA0
  rw [Try.params3] at hA hval
  obtain ⟨v0, v1, d0, d1, p0, p1, rfl, rfl, rfl, h0, h1⟩ := trodAll_two hA
  obtain ⟨rfl, rfl⟩ := trodVars_none hV
  obtain ⟨ou, ox, ol, rfl, hP, hQ, hQc, _⟩ := open_sheet (hval 0 24 v0 rfl rfl) h0
  obtain ⟨n1, rfl, _, _, wf1⟩ := open_int Try.underlying3 (hval 1 3 v1 rfl rfl) h1
  refine (walk n1 ou ox ol W hP hQ hQc).mono fun e W' ⟨he, hg⟩ => ?_
  subst he
  exact ⟨_, rfl, law_post hW' laidOut (by kernel_rfl) (by kernel_rfl) (by kernel_rfl) Try.underlying4 rfl hg⟩

theorem proved : Rows.FnExactOrderOfSaid :=
  OpenClaim.holds_of_wide 3 Try.f3 rfl rfl rfl rfl rfl rfl rfl ⟨rfl, rfl, rfl, rfl, rfl⟩ rfl rfl rfl rfl rfl (by kernel_rfl) Try.func3 (by kernel_rfl)
    (of_decide_eq_true (by kernel_rfl)) (by unfold Func.isWrapper; first | (rw [if_pos (by decide +kernel)]; kernel_rfl) | (rw [if_neg (by decide +kernel)]; exact ⟨rfl, rfl⟩))
    (fun os started H enc _ => lifted os started H enc)
#print axioms proved

end Go.Proofs.Ytacgknllagdkoaa.orderOfLaw
