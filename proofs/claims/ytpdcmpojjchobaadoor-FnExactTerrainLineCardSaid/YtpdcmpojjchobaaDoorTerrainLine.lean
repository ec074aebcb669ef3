/-
  The law on TerrainLine holds at every argument: the program's answer is the reference's, and the arguments read as before. The named variables hold what the program's text lays (the card ties them).
-/
import Derived.Test.YtpdcmpojjchobaaDoorFcTerrainLine
import Derived.Test.YtpdcmpojjchobaaDoorBuc
import Derived.Test.YtpdcmpojjchobaaDoorBud
namespace Go.Proofs.YtpdcmpojjchobaaDoor.terrainLineLaw
open Go.ChangeShapes Go.WideShapes Go.ChangeAt Go.RowKit Go.Joins

theorem keep7k {W0 w w1 : World} {p0 p1 p2 p3 p4 p5 p6 : Addr} {v0 v1 v2 v3 v4 v5 v6 : Value} (k : Kp w w1) (h : w.cell? p0 = some v0 ∧ w.cell? p1 = some v1 ∧ w.cell? p2 = some v2 ∧ w.cell? p3 = some v3 ∧ w.cell? p4 = some v4 ∧ w.cell? p5 = some v5 ∧ w.cell? p6 = some v6 ∧ Kp W0 w) : w1.cell? p0 = some v0 ∧ w1.cell? p1 = some v1 ∧ w1.cell? p2 = some v2 ∧ w1.cell? p3 = some v3 ∧ w1.cell? p4 = some v4 ∧ w1.cell? p5 = some v5 ∧ w1.cell? p6 = some v6 ∧ Kp W0 w1 :=
  ⟨k.cell h.1, k.cell h.2.1, k.cell h.2.2.1, k.cell h.2.2.2.1, k.cell h.2.2.2.2.1, k.cell h.2.2.2.2.2.1, k.cell h.2.2.2.2.2.2.1, h.2.2.2.2.2.2.2.trans k⟩
theorem drew7k {W0 w : World} {p0 p1 p2 p3 p4 p5 p6 : Addr} {v0 v1 v2 v3 v4 v5 v6 : Value} (h : w.cell? p0 = some v0 ∧ w.cell? p1 = some v1 ∧ w.cell? p2 = some v2 ∧ w.cell? p3 = some v3 ∧ w.cell? p4 = some v4 ∧ w.cell? p5 = some v5 ∧ w.cell? p6 = some v6 ∧ Kp W0 w) : w.drew.cell? p0 = some v0 ∧ w.drew.cell? p1 = some v1 ∧ w.drew.cell? p2 = some v2 ∧ w.drew.cell? p3 = some v3 ∧ w.drew.cell? p4 = some v4 ∧ w.drew.cell? p5 = some v5 ∧ w.drew.cell? p6 = some v6 ∧ Kp W0 w.drew :=
  ⟨h.1, h.2.1, h.2.2.1, h.2.2.2.1, h.2.2.2.2.1, h.2.2.2.2.2.1, h.2.2.2.2.2.2.1, h.2.2.2.2.2.2.2.drew⟩
theorem keep14k {W0 w w1 : World} {p0 p1 p2 p3 p4 p5 p6 p7 p8 p9 p10 p11 p12 p13 : Addr} {v0 v1 v2 v3 v4 v5 v6 v7 v8 v9 v10 v11 v12 v13 : Value} (k : Kp w w1) (h : w.cell? p0 = some v0 ∧ w.cell? p1 = some v1 ∧ w.cell? p2 = some v2 ∧ w.cell? p3 = some v3 ∧ w.cell? p4 = some v4 ∧ w.cell? p5 = some v5 ∧ w.cell? p6 = some v6 ∧ w.cell? p7 = some v7 ∧ w.cell? p8 = some v8 ∧ w.cell? p9 = some v9 ∧ w.cell? p10 = some v10 ∧ w.cell? p11 = some v11 ∧ w.cell? p12 = some v12 ∧ w.cell? p13 = some v13 ∧ Kp W0 w) : w1.cell? p0 = some v0 ∧ w1.cell? p1 = some v1 ∧ w1.cell? p2 = some v2 ∧ w1.cell? p3 = some v3 ∧ w1.cell? p4 = some v4 ∧ w1.cell? p5 = some v5 ∧ w1.cell? p6 = some v6 ∧ w1.cell? p7 = some v7 ∧ w1.cell? p8 = some v8 ∧ w1.cell? p9 = some v9 ∧ w1.cell? p10 = some v10 ∧ w1.cell? p11 = some v11 ∧ w1.cell? p12 = some v12 ∧ w1.cell? p13 = some v13 ∧ Kp W0 w1 :=
  ⟨k.cell h.1, k.cell h.2.1, k.cell h.2.2.1, k.cell h.2.2.2.1, k.cell h.2.2.2.2.1, k.cell h.2.2.2.2.2.1, k.cell h.2.2.2.2.2.2.1, k.cell h.2.2.2.2.2.2.2.1, k.cell h.2.2.2.2.2.2.2.2.1, k.cell h.2.2.2.2.2.2.2.2.2.1, k.cell h.2.2.2.2.2.2.2.2.2.2.1, k.cell h.2.2.2.2.2.2.2.2.2.2.2.1, k.cell h.2.2.2.2.2.2.2.2.2.2.2.2.1, k.cell h.2.2.2.2.2.2.2.2.2.2.2.2.2.1, h.2.2.2.2.2.2.2.2.2.2.2.2.2.2.trans k⟩
theorem drew14k {W0 w : World} {p0 p1 p2 p3 p4 p5 p6 p7 p8 p9 p10 p11 p12 p13 : Addr} {v0 v1 v2 v3 v4 v5 v6 v7 v8 v9 v10 v11 v12 v13 : Value} (h : w.cell? p0 = some v0 ∧ w.cell? p1 = some v1 ∧ w.cell? p2 = some v2 ∧ w.cell? p3 = some v3 ∧ w.cell? p4 = some v4 ∧ w.cell? p5 = some v5 ∧ w.cell? p6 = some v6 ∧ w.cell? p7 = some v7 ∧ w.cell? p8 = some v8 ∧ w.cell? p9 = some v9 ∧ w.cell? p10 = some v10 ∧ w.cell? p11 = some v11 ∧ w.cell? p12 = some v12 ∧ w.cell? p13 = some v13 ∧ Kp W0 w) : w.drew.cell? p0 = some v0 ∧ w.drew.cell? p1 = some v1 ∧ w.drew.cell? p2 = some v2 ∧ w.drew.cell? p3 = some v3 ∧ w.drew.cell? p4 = some v4 ∧ w.drew.cell? p5 = some v5 ∧ w.drew.cell? p6 = some v6 ∧ w.drew.cell? p7 = some v7 ∧ w.drew.cell? p8 = some v8 ∧ w.drew.cell? p9 = some v9 ∧ w.drew.cell? p10 = some v10 ∧ w.drew.cell? p11 = some v11 ∧ w.drew.cell? p12 = some v12 ∧ w.drew.cell? p13 = some v13 ∧ Kp W0 w.drew :=
  ⟨h.1, h.2.1, h.2.2.1, h.2.2.2.1, h.2.2.2.2.1, h.2.2.2.2.2.1, h.2.2.2.2.2.2.1, h.2.2.2.2.2.2.2.1, h.2.2.2.2.2.2.2.2.1, h.2.2.2.2.2.2.2.2.2.1, h.2.2.2.2.2.2.2.2.2.2.1, h.2.2.2.2.2.2.2.2.2.2.2.1, h.2.2.2.2.2.2.2.2.2.2.2.2.1, h.2.2.2.2.2.2.2.2.2.2.2.2.2.1, h.2.2.2.2.2.2.2.2.2.2.2.2.2.2.drew⟩

set_option maxRecDepth 100000 in
set_option maxHeartbeats 16000000 in
theorem walk (At Ak : Option Addr) (nt nk ct ck : Nat) (l : List Ter) (m : List Knd) (a b c d e : Int) (i : Int) (w : World) (hs : SpP w) (hr : RulIn w At Ak nt nk l m) (_hi : isI64 i) :
    Calls Tryd.prog 4 #[rv (.slice At nt ct) (.slice Ak nk ck) a b c d e, .int .i64 i] w fun e' w' => e' = .returned (.bool true) ∧ Kp w w' := by
  have HR := Lib.hid hr
  have HS := Lib.hid hs
  obtain ⟨U, hU⟩ : ∃ x, x = (tlT (rulOk ⟨l, m, a, b, c, d, e⟩) l i) := ⟨_, rfl⟩
  obtain ⟨C, hC⟩ : ∃ x, x = (tlB (rulOk ⟨l, m, a, b, c, d, e⟩) l i) := ⟨_, rfl⟩
  have CS : Hid (∀ (At Ak : Option Addr) (ct ck : Nat) (w : World), RulAt w At Ak nt nk l m → Calls Tryd.prog 13 #[rv (.slice At nt ct) (.slice Ak nk ck) a b c d e, .int .i64 i] w fun e' w' => e' = .returned (.tuple #[.string U, .bool C]) ∧ Kp w w') := Lib.hid fun At Ak ct ck w h => by
    rw [hU, hC]
    exact specTerrainLine_any At Ak nt nk ct ck l m a b c d e i w h
  have CI : Hid (∀ (At Ak : Option Addr) (ct ck : Nat) (w : World), RulAt w At Ak nt nk l m → SpP w → Calls Tryd.prog 14 #[rv (.slice At nt ct) (.slice Ak nk ck) a b c d e, .int .i64 i] w fun e' w' => e' = .returned (.tuple #[.string U, .bool C]) ∧ Kp w w') := Lib.hid fun At Ak ct ck w h hs => by
    rw [hU, hC]
    exact implTerrainLine_any At Ak nt nk ct ck l m a b c d e i w hs h
  have eC : (C != C) = false := by simp
  clear hr hs hU hC
  have s0 : (w.alloc (.cells #[.slice At nt ct, .slice Ak nk ck, .int .i64 a, .int .i64 b, .int .i64 c, .int .i64 d, .int .i64 e] 25)).cell? ⟨w.heap.size, 0, none⟩ = some (.slice At nt ct) ∧ (w.alloc (.cells #[.slice At nt ct, .slice Ak nk ck, .int .i64 a, .int .i64 b, .int .i64 c, .int .i64 d, .int .i64 e] 25)).cell? ⟨w.heap.size, 1, none⟩ = some (.slice Ak nk ck) ∧ (w.alloc (.cells #[.slice At nt ct, .slice Ak nk ck, .int .i64 a, .int .i64 b, .int .i64 c, .int .i64 d, .int .i64 e] 25)).cell? ⟨w.heap.size, 2, none⟩ = some (.int .i64 a) ∧ (w.alloc (.cells #[.slice At nt ct, .slice Ak nk ck, .int .i64 a, .int .i64 b, .int .i64 c, .int .i64 d, .int .i64 e] 25)).cell? ⟨w.heap.size, 3, none⟩ = some (.int .i64 b) ∧ (w.alloc (.cells #[.slice At nt ct, .slice Ak nk ck, .int .i64 a, .int .i64 b, .int .i64 c, .int .i64 d, .int .i64 e] 25)).cell? ⟨w.heap.size, 4, none⟩ = some (.int .i64 c) ∧ (w.alloc (.cells #[.slice At nt ct, .slice Ak nk ck, .int .i64 a, .int .i64 b, .int .i64 c, .int .i64 d, .int .i64 e] 25)).cell? ⟨w.heap.size, 5, none⟩ = some (.int .i64 d) ∧ (w.alloc (.cells #[.slice At nt ct, .slice Ak nk ck, .int .i64 a, .int .i64 b, .int .i64 c, .int .i64 d, .int .i64 e] 25)).cell? ⟨w.heap.size, 6, none⟩ = some (.int .i64 e) ∧ Kp w (w.alloc (.cells #[.slice At nt ct, .slice Ak nk ck, .int .i64 a, .int .i64 b, .int .i64 c, .int .i64 d, .int .i64 e] 25)) := ⟨by simp [go_sem], by simp [go_sem], by simp [go_sem], by simp [go_sem], by simp [go_sem], by simp [go_sem], by simp [go_sem], (Kp.refl w).alloc _⟩
  go_enter Tryd.func4, Tryd.ntmps4
  go_wp2_with fail
  refine (szRules_any _ _ _ _ _ _ l m _ _ _ _ _ _ _ (HR.out.keep s0.2.2.2.2.2.2.2) (by omega) (by omega)).mono ?_
  rintro e1 w1 ⟨r1, rfl, u1, u2, u3, k1⟩
  have s1 := keep7k k1 s0
  have U3 := Lib.hid u3
  clear s0 k1 u3
  by_cases hneg : r1 < 0
  · go_wp2_with fail
    go_ret
    exact ⟨rfl, s1.2.2.2.2.2.2.2⟩
  have RA := Lib.hid (HR.out.at (U3.out (by omega)))
  clear U3
  go_wp2_with fail
  refine (toRules_any _ _ _ _ _ _ l m _ _ _ _ _ _ (RA.out.keep s1.2.2.2.2.2.2.2)).mono ?_
  rintro e2 w2 ⟨g1a, g2a, csa, ysa, zsa, rfl, o2, k2⟩
  have s2 := keep7k k2 s1
  have L2 := Lib.hid (o2.rul RA.out)
  clear s1 k2 o2
  go_wp2_with fail
  refine (CS.out _ _ _ _ _ L2.out).mono ?_
  rintro e3 w3 ⟨rfl, k3⟩
  have s3 := keep7k k3 s2
  clear s2 k3 L2
  go_wp2_with fail
  refine (toRules_any _ _ _ _ _ _ l m _ _ _ _ _ _ (RA.out.keep s3.2.2.2.2.2.2.2)).mono ?_
  rintro e4 w4 ⟨g1b, g2b, csb, ysb, zsb, rfl, o4, k4⟩
  have s4a := keep7k k4 s3
  have kb : Kp w4 (w4.alloc (.cells #[.slice (some ⟨g1b, 0, none⟩) nt nt, .slice (some ⟨g2b, 0, none⟩) nk nk, .int .i64 a, .int .i64 b, .int .i64 c, .int .i64 d, .int .i64 e] 32)) := (Kp.refl w4).alloc _
  have s4 : (w4.alloc (.cells #[.slice (some ⟨g1b, 0, none⟩) nt nt, .slice (some ⟨g2b, 0, none⟩) nk nk, .int .i64 a, .int .i64 b, .int .i64 c, .int .i64 d, .int .i64 e] 32)).cell? ⟨w.heap.size, 0, none⟩ = some (.slice At nt ct) ∧ (w4.alloc (.cells #[.slice (some ⟨g1b, 0, none⟩) nt nt, .slice (some ⟨g2b, 0, none⟩) nk nk, .int .i64 a, .int .i64 b, .int .i64 c, .int .i64 d, .int .i64 e] 32)).cell? ⟨w.heap.size, 1, none⟩ = some (.slice Ak nk ck) ∧ (w4.alloc (.cells #[.slice (some ⟨g1b, 0, none⟩) nt nt, .slice (some ⟨g2b, 0, none⟩) nk nk, .int .i64 a, .int .i64 b, .int .i64 c, .int .i64 d, .int .i64 e] 32)).cell? ⟨w.heap.size, 2, none⟩ = some (.int .i64 a) ∧ (w4.alloc (.cells #[.slice (some ⟨g1b, 0, none⟩) nt nt, .slice (some ⟨g2b, 0, none⟩) nk nk, .int .i64 a, .int .i64 b, .int .i64 c, .int .i64 d, .int .i64 e] 32)).cell? ⟨w.heap.size, 3, none⟩ = some (.int .i64 b) ∧ (w4.alloc (.cells #[.slice (some ⟨g1b, 0, none⟩) nt nt, .slice (some ⟨g2b, 0, none⟩) nk nk, .int .i64 a, .int .i64 b, .int .i64 c, .int .i64 d, .int .i64 e] 32)).cell? ⟨w.heap.size, 4, none⟩ = some (.int .i64 c) ∧ (w4.alloc (.cells #[.slice (some ⟨g1b, 0, none⟩) nt nt, .slice (some ⟨g2b, 0, none⟩) nk nk, .int .i64 a, .int .i64 b, .int .i64 c, .int .i64 d, .int .i64 e] 32)).cell? ⟨w.heap.size, 5, none⟩ = some (.int .i64 d) ∧ (w4.alloc (.cells #[.slice (some ⟨g1b, 0, none⟩) nt nt, .slice (some ⟨g2b, 0, none⟩) nk nk, .int .i64 a, .int .i64 b, .int .i64 c, .int .i64 d, .int .i64 e] 32)).cell? ⟨w.heap.size, 6, none⟩ = some (.int .i64 e) ∧ (w4.alloc (.cells #[.slice (some ⟨g1b, 0, none⟩) nt nt, .slice (some ⟨g2b, 0, none⟩) nk nk, .int .i64 a, .int .i64 b, .int .i64 c, .int .i64 d, .int .i64 e] 32)).cell? ⟨w4.heap.size, 0, none⟩ = some (.slice (some ⟨g1b, 0, none⟩) nt nt) ∧ (w4.alloc (.cells #[.slice (some ⟨g1b, 0, none⟩) nt nt, .slice (some ⟨g2b, 0, none⟩) nk nk, .int .i64 a, .int .i64 b, .int .i64 c, .int .i64 d, .int .i64 e] 32)).cell? ⟨w4.heap.size, 1, none⟩ = some (.slice (some ⟨g2b, 0, none⟩) nk nk) ∧ (w4.alloc (.cells #[.slice (some ⟨g1b, 0, none⟩) nt nt, .slice (some ⟨g2b, 0, none⟩) nk nk, .int .i64 a, .int .i64 b, .int .i64 c, .int .i64 d, .int .i64 e] 32)).cell? ⟨w4.heap.size, 2, none⟩ = some (.int .i64 a) ∧ (w4.alloc (.cells #[.slice (some ⟨g1b, 0, none⟩) nt nt, .slice (some ⟨g2b, 0, none⟩) nk nk, .int .i64 a, .int .i64 b, .int .i64 c, .int .i64 d, .int .i64 e] 32)).cell? ⟨w4.heap.size, 3, none⟩ = some (.int .i64 b) ∧ (w4.alloc (.cells #[.slice (some ⟨g1b, 0, none⟩) nt nt, .slice (some ⟨g2b, 0, none⟩) nk nk, .int .i64 a, .int .i64 b, .int .i64 c, .int .i64 d, .int .i64 e] 32)).cell? ⟨w4.heap.size, 4, none⟩ = some (.int .i64 c) ∧ (w4.alloc (.cells #[.slice (some ⟨g1b, 0, none⟩) nt nt, .slice (some ⟨g2b, 0, none⟩) nk nk, .int .i64 a, .int .i64 b, .int .i64 c, .int .i64 d, .int .i64 e] 32)).cell? ⟨w4.heap.size, 5, none⟩ = some (.int .i64 d) ∧ (w4.alloc (.cells #[.slice (some ⟨g1b, 0, none⟩) nt nt, .slice (some ⟨g2b, 0, none⟩) nk nk, .int .i64 a, .int .i64 b, .int .i64 c, .int .i64 d, .int .i64 e] 32)).cell? ⟨w4.heap.size, 6, none⟩ = some (.int .i64 e) ∧ Kp w (w4.alloc (.cells #[.slice (some ⟨g1b, 0, none⟩) nt nt, .slice (some ⟨g2b, 0, none⟩) nk nk, .int .i64 a, .int .i64 b, .int .i64 c, .int .i64 d, .int .i64 e] 32)) := ⟨kb.cell s4a.1, kb.cell s4a.2.1, kb.cell s4a.2.2.1, kb.cell s4a.2.2.2.1, kb.cell s4a.2.2.2.2.1, kb.cell s4a.2.2.2.2.2.1, kb.cell s4a.2.2.2.2.2.2.1, by simp [go_sem], by simp [go_sem], by simp [go_sem], by simp [go_sem], by simp [go_sem], by simp [go_sem], by simp [go_sem], s4a.2.2.2.2.2.2.2.trans kb⟩
  have L4 := Lib.hid ((o4.rul RA.out).keep kb)
  clear s3 k4 o4 s4a kb
  go_wp2_with fail
  generalize hW5 : w4.alloc (.cells #[.slice (some ⟨g1b, 0, none⟩) nt nt, .slice (some ⟨g2b, 0, none⟩) nk nk, .int .i64 a, .int .i64 b, .int .i64 c, .int .i64 d, .int .i64 e] 32) = W5 at *
  clear hW5
  refine (CI.out _ _ _ _ _ L4.out (HS.out.keep s4.2.2.2.2.2.2.2.2.2.2.2.2.2.2)).mono ?_
  rintro e6 w6 ⟨rfl, k6⟩
  have s6 := keep14k k6 s4
  have L6 := Lib.hid (L4.out.keep k6)
  clear s4 L4 k6
  have s7 := drew14k s6
  go_wp2_with fail
  go_region_held3 (fun w' => w'.cell? ⟨w.heap.size, 0, none⟩ = some (.slice At nt ct) ∧ w'.cell? ⟨w.heap.size, 1, none⟩ = some (.slice Ak nk ck) ∧ w'.cell? ⟨w.heap.size, 2, none⟩ = some (.int .i64 a) ∧ w'.cell? ⟨w.heap.size, 3, none⟩ = some (.int .i64 b) ∧ w'.cell? ⟨w.heap.size, 4, none⟩ = some (.int .i64 c) ∧ w'.cell? ⟨w.heap.size, 5, none⟩ = some (.int .i64 d) ∧ w'.cell? ⟨w.heap.size, 6, none⟩ = some (.int .i64 e) ∧ w'.cell? ⟨w4.heap.size, 0, none⟩ = some (.slice (some ⟨g1b, 0, none⟩) nt nt) ∧ w'.cell? ⟨w4.heap.size, 1, none⟩ = some (.slice (some ⟨g2b, 0, none⟩) nk nk) ∧ w'.cell? ⟨w4.heap.size, 2, none⟩ = some (.int .i64 a) ∧ w'.cell? ⟨w4.heap.size, 3, none⟩ = some (.int .i64 b) ∧ w'.cell? ⟨w4.heap.size, 4, none⟩ = some (.int .i64 c) ∧ w'.cell? ⟨w4.heap.size, 5, none⟩ = some (.int .i64 d) ∧ w'.cell? ⟨w4.heap.size, 6, none⟩ = some (.int .i64 e) ∧ Kp w w') (first | assumption | exact s7)
    (first
      | (go_at_call 10; refine (toRules_any _ _ _ _ _ _ l m _ _ _ _ _ _ (RA.out.keep s7.2.2.2.2.2.2.2.2.2.2.2.2.2.2)).mono ?_; rintro e8 w8 ⟨g1c, g2c, csc, ysc, zsc, rfl, o8, k8⟩; have s8 := keep14k k8 s7; have L8 := Lib.hid (o8.rul RA.out); have M8 := Lib.hid ((L6.out.keep ((Kp.refl _).drew)).keep k8))
      | (go_at_call 12; refine (eqRules_same _ _ _ _ _ _ _ _ _ _ l m _ _ _ _ _ _ M8.out.rt M8.out.rk L8.out.rt L8.out.rk M8.out.bt M8.out.bk (fun x hx => (M8.out.bc x hx).1)).mono ?_; rintro e9 w9 ⟨rfl, k9⟩; have s9 := keep14k k9 s8))
  all_goals
    go_wp2_with fail
    go_ret
    exact ⟨rfl, s9.2.2.2.2.2.2.2.2.2.2.2.2.2.2⟩

set_option maxRecDepth 100000 in
theorem contract (H : Type) (enc : TypeId × Value → H) (W : World) (base : Nat) (args : Array Value) (ds gs : List (DataW H)) (before : List MemPlace)
    (hval : ∀ (j : Nat) t v, Tryd.f4.params[j]? = some t → args[j]? = some v → Value.okWide Tryd.prog W .any base t v)
    (hW : DataW.Whole enc Tryd.prog Tryd.f4.params.toList Rows.fnExactTerrainLineSpec.vars false W args.toList ds gs before) (hL : laidMetH Tryd.prog Rows.fnExactTerrainLineRow.laid W) :
    Calls Tryd.prog 4 args W fun e W' => ∃ v, e = .returned v ∧ Rows.fnExactTerrainLineSpec.post enc Tryd.prog Tryd.f4 false true false false W args v W' := by
  have hW' := hW
  obtain ⟨p, q, hA0, hV, rfl, hfz, hnd⟩ := hW
  have hA : DataW.TrodAll enc Tryd.prog W 0 (fun _ => true) true Tryd.f4.params.toList args.toList ds p := hA0
  rw [Tryd.params4] at hA hval
  obtain ⟨v0, v1, d0, d1, p0, p1, rfl, rfl, rfl, h0, h1⟩ := trodAll_two hA
  obtain ⟨_, _, _, _, _, _, _, _, _, _, _, _, _, _, rfl⟩ := lenv14 (trodVars_len hV)
  obtain ⟨At0, Ak0, nt0, nk0, ct0, ck0, l0, m0, a0, b0, c0, d0, e0, rfl, hR0, hI0⟩ := open_rules (hval 0 25 v0 rfl rfl) h0
  obtain ⟨n1, rfl, _, _, wf1⟩ := open_int Tryd.underlying3 (hval 1 3 v1 rfl rfl) h1
  refine (walk At0 Ak0 nt0 nk0 ct0 ck0 l0 m0 a0 b0 c0 d0 e0 n1 W ⟨terrainLine_sp hL, terrainLine_pow hL⟩ hR0 (bounds_i64 wf1)).mono fun e W' ⟨he, hg⟩ => ?_
  subst he
  exact ⟨_, rfl, law_post hW' laidOut (by kernel_rfl) (by kernel_rfl) (by kernel_rfl) Tryd.underlying4 rfl hg⟩

theorem laid_met (os : Os) : laidMet Tryd.prog Rows.fnExactTerrainLineRow.laid ((laidWorldK os).forCall (fun _ _ => 0) ⟨#[], #[.agg #[.slice none 0 0, .slice none 0 0, .int .i64 0, .int .i64 0, .int .i64 0, .int .i64 0, .int .i64 0], .int .i64 0], []⟩).memory :=
  laidMet_of_run' 8 (by kernel_rfl) (by kernel_rfl)
theorem reads (os : Os) {H : Type} (enc : TypeId × Value → H) : ∃ ds gs places, DataW.whole enc Tryd.prog ((laidWorldK os).forCall (fun _ _ => 0) ⟨#[], #[.agg #[.slice none 0 0, .slice none 0 0, .int .i64 0, .int .i64 0, .int .i64 0, .int .i64 0, .int .i64 0], .int .i64 0], []⟩).memory Tryd.f4.params.toList Rows.fnExactTerrainLineSpec.vars false #[.agg #[.slice none 0 0, .slice none 0 0, .int .i64 0, .int .i64 0, .int .i64 0, .int .i64 0, .int .i64 0], .int .i64 0].toList 8 = some (ds, gs, places) :=
  ⟨[.agg [.nil, .nil, .lit (.int .i64 0), .lit (.int .i64 0), .lit (.int .i64 0), .lit (.int .i64 0), .lit (.int .i64 0)], .lit (.int .i64 0)], [Rows.laid_loop_example_g00886_impl_terrainsSpan, Rows.laid_loop_example_g00886_impl_kindsSpan, Rows.laid_loop_example_g00886_impl_stackSpan, Rows.laid_loop_example_g00886_impl_riverSpan, Rows.laid_loop_example_g00886_impl_roadSpan, Rows.laid_loop_example_g00886_impl_supplySpan, Rows.laid_loop_example_g00886_impl_turnsSpan, Rows.laid_loop_example_g00886_impl_costSpan, Rows.laid_loop_example_g00886_impl_shiftSpan, Rows.laid_loop_example_g00886_impl_heightSpan, Rows.laid_loop_example_g00886_impl_strengthSpan, Rows.laid_loop_example_g00886_impl_movesSpan, Rows.laid_loop_example_g00886_impl_stepsSpan, Rows.laid_loop_example_g00886_impl_viewSpan], MemPlace.row ⟨2, 0, none⟩ 2 ++ (MemPlace.row ⟨3, 0, none⟩ 2 ++ (MemPlace.row ⟨4, 0, none⟩ 2 ++ (MemPlace.row ⟨5, 0, none⟩ 2 ++ (MemPlace.row ⟨6, 0, none⟩ 2 ++ (MemPlace.row ⟨7, 0, none⟩ 2 ++ (MemPlace.row ⟨8, 0, none⟩ 2 ++ (MemPlace.row ⟨9, 0, none⟩ 2 ++ (MemPlace.row ⟨10, 0, none⟩ 2 ++ (MemPlace.row ⟨11, 0, none⟩ 2 ++ (MemPlace.row ⟨12, 0, none⟩ 2 ++ (MemPlace.row ⟨13, 0, none⟩ 2 ++ (MemPlace.row ⟨14, 0, none⟩ 2 ++ (MemPlace.row ⟨15, 0, none⟩ 2))))))))))))), by kernel_rfl⟩

set_option maxRecDepth 100000 in
theorem lifted (os : Os) (started : os.Started) (H : Type) (enc : TypeId × Value → H) (F : Stop.Interp) :
    ReturnsInHanded {} Tryd.checked os 4 .any ((OpenSpec.ofChange Rows.fnExactTerrainLineSpec).preRow enc Tryd.prog Tryd.f4 Rows.fnExactTerrainLineRow.domain false Rows.fnExactTerrainLineRow.laid) (((OpenSpec.ofChange Rows.fnExactTerrainLineSpec).at F).post enc Tryd.prog Tryd.f4 false true false false) := by
  obtain ⟨ds, gs, places, hx⟩ := reads os enc
  refine returnsInHanded_of_row (C := Tryd.checked) (s := OpenSpec.ofChange Rows.fnExactTerrainLineSpec) own started (by kernel_rfl) Tryd.func4
    (witness_row_at (enc := enc) (C := Tryd.checked) false (laidWorldK os) #[.agg #[.slice none 0 0, .slice none 0 0, .int .i64 0, .int .i64 0, .int .i64 0, .int .i64 0, .int .i64 0], .int .i64 0] rfl (by kernel_rfl) (by kernel_rfl) (by kernel_rfl)
      (OpenSpec.preRow_of_cond 8 hx (by kernel_rfl) (fun k hk => by cases hk) (by kernel_rfl) (laid_met os))) ?_
  intro W base args ds gs before hval hW _ _ _ hL _ _
  exact contract H enc W base args ds gs before hval hW hL

theorem said : Rows.FnExactTerrainLineSaid :=
  OpenClaim.holds_of_cond 4 Tryd.f4 rfl rfl rfl rfl rfl rfl rfl ⟨rfl, rfl, rfl, rfl, rfl⟩ rfl rfl rfl rfl rfl (by kernel_rfl) Tryd.func4 terrainLineFacts.closed
    (of_decide_eq_true (by kernel_rfl)) (by unfold Func.isWrapper; first | (rw [if_pos (by decide +kernel)]; kernel_rfl) | (rw [if_neg (by decide +kernel)]; exact ⟨rfl, rfl⟩))
    (fun os started H enc _ F => by rw [OpenClaim.pre_eq_preRow]; exact lifted os started H enc F)

theorem plain (f : FuncId) (fn : Func) (hf : Tryd.pinned.checked.prog.funcNamed "loop.example/g00886/laws.FnExactTerrainLine" = some f) (hfn : Tryd.pinned.checked.prog.funcs[f]? = some fn) :
    true = Tryd.pinned.checked.prog.looks [] ∧ ∀ (j : Nat) t, fn.params[j]? = some t → Tryd.pinned.checked.prog.wantsStandIn t = false := by
  obtain rfl : f = 4 := Option.some.inj ((show Tryd.prog.funcNamed "loop.example/g00886/laws.FnExactTerrainLine" = some 4 by kernel_rfl).symm.trans hf) |>.symm
  obtain rfl : fn = Tryd.f4 := (Option.some.inj (Tryd.func4.symm.trans hfn)).symm
  refine ⟨by kernel_rfl, fun j t ht => ?_⟩
  rw [Tryd.params4] at ht
  have hm := Array.mem_of_getElem? ht
  simp only [List.mem_toArray, List.mem_cons, List.not_mem_nil, or_false] at hm
  rcases hm with rfl | rfl
  · exact (show Tryd.prog.wantsStandIn 25 = false by kernel_rfl)
  · exact (show Tryd.prog.wantsStandIn 3 = false by kernel_rfl)

/-- The card: the row, with what it lists tied to the program's text. -/
theorem card : Rows.FnExactTerrainLineCardSaid :=
  Claim7.holds_tied_plain_at .later [] _ _ _ _ said (fun _ h => by cases h) (by kernel_rfl) (fun _ h => by cases h) fnExactTerrainLine_row_tie rfl ⟨rfl, rfl⟩ (by kernel_rfl) rfl plain (by kernel_rfl)
#print axioms card

end Go.Proofs.YtpdcmpojjchobaaDoor.terrainLineLaw
