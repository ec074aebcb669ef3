/-
  The law on MirrorMap holds at every argument: the program's answer is the reference's, in memory of its own, and the argument reads as before. The table of directions holds what the program's text lays (the card ties it).
-/
import Derived.Test.YtcdfbcmfpeceeaaDoorMirQ
import Derived.Test.YtcdfbcmfpeceeaaDoorMarkI
import Derived.Test.YtcdfbcmfpeceeaaDoorFcMirrorMap
namespace Go.Proofs.YtcdfbcmfpeceeaaDoor.mirrorMapLaw
open Go.ChangeShapes Go.WideShapes Go.ChangeAt Go.RowKit Go.Joins

/-- Three slices that read as lists within the law's size. -/
structure RdM (w : World) (t r d : Value) (lt lr ld : List Int) : Prop where
  rt : RdI w t lt
  rr : RdI w r lr
  rd : RdI w d ld
  bt : lt.length ≤ 1048576
  br : lr.length ≤ 1048576
  bd : ld.length ≤ 1048576
theorem RdM.keep {w w' : World} {t r d : Value} {lt lr ld : List Int} (h : RdM w t r d lt lr ld) (k : Kp w w') : RdM w' t r d lt lr ld := ⟨h.rt.keep k, h.rr.keep k, h.rd.keep k, h.bt, h.br, h.bd⟩
theorem rdM_own {w : World} {base : Nat} {t r d : Value} {lt lr ld : List Int} (h : Own3 w base t r d lt lr ld) (b : lt.length ≤ 1048576 ∧ lr.length ≤ 1048576 ∧ ld.length ≤ 1048576) : RdM w t r d lt lr ld := ⟨h.ot.rd, h.or.rd, h.od.rd, b.1, b.2.1, b.2.2⟩
theorem eqMap_rd (W H : Int) (ta ra da tb rb db : Value) (lt lr ld : List Int) (w : World) (ha : RdM w ta ra da lt lr ld) (hb : RdM w tb rb db lt lr ld) :
    Calls Tryd.prog 32 #[mp W H ta ra da, mp W H tb rb db] w fun e w' => e = .returned (.bool true) ∧ Kp w w' := by
  have hne : ∀ n : Int, (n != n) = false := fun n => by simp
  have HA := Lib.hid (ha.keep (((Kp.refl w).alloc (.cells #[.int .i64 W, .int .i64 H, ta, ra, da] 44)).alloc (.cells #[.int .i64 W, .int .i64 H, tb, rb, db] 44)))
  have HB := Lib.hid (hb.keep (((Kp.refl w).alloc (.cells #[.int .i64 W, .int .i64 H, ta, ra, da] 44)).alloc (.cells #[.int .i64 W, .int .i64 H, tb, rb, db] 44)))
  clear ha hb
  go_enter Tryd.func32, Tryd.ntmps32
  go_wp2_with fail
  refine (eqIntS_same _ _ lt _ HA.out.rt HB.out.rt HA.out.bt).mono ?_
  rintro e1 w1 ⟨rfl, k1⟩
  have p3 : w1.cell? ⟨w.heap.size, 3, none⟩ = some ra := k1.cell (by simp [go_sem])
  have p4 : w1.cell? ⟨w.heap.size, 4, none⟩ = some da := k1.cell (by simp [go_sem])
  have q3 : w1.cell? ⟨w.heap.size + 1, 3, none⟩ = some rb := k1.cell (by simp [go_sem])
  have q4 : w1.cell? ⟨w.heap.size + 1, 4, none⟩ = some db := k1.cell (by simp [go_sem])
  have K1 : Kp w w1 := (((Kp.refl w).alloc _).alloc _).trans k1
  have HA1 := Lib.hid (HA.out.keep k1)
  have HB1 := Lib.hid (HB.out.keep k1)
  clear HA HB k1
  go_wp2_with fail
  refine (eqIntS_same _ _ lr _ HA1.out.rr HB1.out.rr HA1.out.br).mono ?_
  rintro e2 w2 ⟨rfl, k2⟩
  have r4 := k2.cell p4
  have s4 := k2.cell q4
  clear p3 p4 q3 q4
  go_wp2_with fail
  refine (eqIntS_same _ _ ld _ (HA1.out.keep k2).rd (HB1.out.keep k2).rd HA1.out.bd).mono ?_
  rintro e3 w3 ⟨rfl, k3⟩
  go_wp2_with fail
  go_ret
  exact ⟨rfl, (K1.trans k2).trans k3⟩

theorem marked_cell {w w' : World} {t r d v : Value} {b o : Nat} (h : Marked w w' t r d) (hc : w.cell? ⟨b, o, none⟩ = some v) (h1 : t.ownBlock ≠ some b) (h2 : r.ownBlock ≠ some b) (h3 : d.ownBlock ≠ some b) : w'.cell? ⟨b, o, none⟩ = some v := by
  obtain ⟨w0, wa, wb, k0, g1, g2, g3⟩ := h
  exact g3.cell (g2.cell (g1.cell (k0.cell hc) (fun e => h1 e.symm)) (fun e => h2 e.symm)) (fun e => h3 e.symm)
theorem marked5 {W0 w w' : World} {t r d v0 v1 v2 v3 v4 : Value} {b : Nat} (h : Marked w w' t r d) (s : w.cell? ⟨b, 0, none⟩ = some v0 ∧ w.cell? ⟨b, 1, none⟩ = some v1 ∧ w.cell? ⟨b, 2, none⟩ = some v2 ∧ w.cell? ⟨b, 3, none⟩ = some v3 ∧ w.cell? ⟨b, 4, none⟩ = some v4 ∧ Kp W0 w)
    (h1 : t.ownBlock ≠ some b) (h2 : r.ownBlock ≠ some b) (h3 : d.ownBlock ≠ some b) (K : Kp W0 w') :
    w'.cell? ⟨b, 0, none⟩ = some v0 ∧ w'.cell? ⟨b, 1, none⟩ = some v1 ∧ w'.cell? ⟨b, 2, none⟩ = some v2 ∧ w'.cell? ⟨b, 3, none⟩ = some v3 ∧ w'.cell? ⟨b, 4, none⟩ = some v4 ∧ Kp W0 w' :=
  ⟨marked_cell h s.1 h1 h2 h3, marked_cell h s.2.1 h1 h2 h3, marked_cell h s.2.2.1 h1 h2 h3, marked_cell h s.2.2.2.1 h1 h2 h3, marked_cell h s.2.2.2.2.1 h1 h2 h3, K⟩
theorem own3_marked {w w' : World} {base : Nat} {t r d t' r' d' : Value} {lt lr ld : List Int} (m : Marked w w' t r d) (o : Own3 w base t' r' d' lt lr ld) (h : ∀ g, base ≤ g → t.ownBlock ≠ some g ∧ r.ownBlock ≠ some g ∧ d.ownBlock ≠ some g) : Own3 w' base t' r' d' lt lr ld :=
  ⟨m.own o.ot fun g hg => h g (World.ownsRow.lt o.ot g hg).1, m.own o.or fun g hg => h g (World.ownsRow.lt o.or g hg).1, m.own o.od fun g hg => h g (World.ownsRow.lt o.od g hg).1, o.tr, o.td, o.rd⟩
theorem own3_hi {w : World} {base : Nat} {t r d : Value} {lt lr ld : List Int} (o : Own3 w base t r d lt lr ld) : ∀ g, w.heap.size ≤ g → t.ownBlock ≠ some g ∧ r.ownBlock ≠ some g ∧ d.ownBlock ≠ some g := fun g hg =>
  ⟨fun e => by have := (World.ownsRow.lt o.ot g e).2; omega, fun e => by have := (World.ownsRow.lt o.or g e).2; omega, fun e => by have := (World.ownsRow.lt o.od g e).2; omega⟩

/-- What both sides hand back, whatever the argument. -/
theorem both (W H : Int) (lt lr ld : List Int) (hb : lt.length + lr.length + ld.length ≤ 1048576) : ∃ (B : Bool) (X Y : Int) (LT LR LD : List Int) (pT pR pD : Nat), (LT.length = pT ∧ LR.length = pR ∧ LD.length = pD) ∧ (pT ≤ 1048576 ∧ pR ≤ 1048576 ∧ pD ≤ 1048576) ∧
    (∀ t r d w, Lists w t r d lt lr ld → Calls Tryd.prog 29 #[mp W H t r d] w fun e w' => ∃ (A1 : Option Addr) (c1 : Nat) (A2 : Option Addr) (c2 : Nat) (A3 : Option Addr) (c3 : Nat), e = .returned (.tuple #[mp X Y (.slice A1 pT c1) (.slice A2 pR c2) (.slice A3 pD c3), .bool B]) ∧ Own3 w' w.heap.size (.slice A1 pT c1) (.slice A2 pR c2) (.slice A3 pD c3) LT LR LD ∧ Kp w w') ∧
    (∀ t r d w, Tab w → Lists w t r d lt lr ld → Calls Tryd.prog 31 #[mp W H t r d] w fun e w' => ∃ (A1 : Option Addr) (c1 : Nat) (A2 : Option Addr) (c2 : Nat) (A3 : Option Addr) (c3 : Nat), e = .returned (.tuple #[mp X Y (.slice A1 pT c1) (.slice A2 pR c2) (.slice A3 pD c3), .bool B]) ∧ Own3 w' w.heap.size (.slice A1 pT c1) (.slice A2 pR c2) (.slice A3 pD c3) LT LR LD ∧ Kp w w') := by
  have conv : ∀ {B : Bool} {X Y : Int} {LT LR LD : List Int} {w : World} {e : Ending} {w' : World}, MapPost B X Y LT LR LD w e w' → ∃ (A1 : Option Addr) (c1 : Nat) (A2 : Option Addr) (c2 : Nat) (A3 : Option Addr) (c3 : Nat), e = .returned (.tuple #[mp X Y (.slice A1 LT.length c1) (.slice A2 LR.length c2) (.slice A3 LD.length c3), .bool B]) ∧ Own3 w' w.heap.size (.slice A1 LT.length c1) (.slice A2 LR.length c2) (.slice A3 LD.length c3) LT LR LD ∧ Kp w w' := by
    rintro B X Y LT LR LD w e w' ⟨t, r, d, he, o, k⟩
    obtain ⟨A1, c1, rfl⟩ := o.ot.slice
    obtain ⟨A2, c2, rfl⟩ := o.or.slice
    obtain ⟨A3, c3, rfl⟩ := o.od.slice
    exact ⟨A1, c1, A2, c2, A3, c3, he, o, k⟩
  cases hok : mapOk W H lt lr ld
  · exact ⟨false, 0, 0, [], [], [], _, _, _, ⟨rfl, rfl, rfl⟩, by simp, fun t r d w h => (specMirrorMap_no W H t r d lt lr ld w h hok).mono fun _ _ => conv, fun t r d w k h => (mirrorMap_no W H t r d lt lr ld w k h hok).mono fun _ _ => conv⟩
  · refine ⟨true, H, W, _, _, _, _, _, _, ⟨rfl, rfl, rfl⟩, ?_, fun t r d w h => (specMirrorMap_yes W H t r d lt lr ld w h hok).mono fun _ _ => conv, fun t r d w k h => (mirrorMap_yes W H t r d lt lr ld w k h hok).mono fun _ _ => conv⟩
    rw [mirT_length, List.length_mergeSort, List.length_mergeSort, List.length_map, List.length_map]
    omega

set_option maxRecDepth 100000 in
set_option maxHeartbeats 16000000 in
theorem walk (W H : Int) (t r d : Value) (lt lr ld : List Int) (w : World) (ht : Tab w) (hr : Reads w t r d lt lr ld) :
    Calls Tryd.prog 4 #[mp W H t r d] w fun e w' => e = .returned (.bool true) ∧ Kp w w' := by
  by_cases hbig : lt.length + lr.length + ld.length ≤ 1048576
  · have HL := Lib.hid (hr.lists hbig)
    have HT := Lib.hid ht
    obtain ⟨B, X, Y, LT, LR, LD, pT, pR, pD, hP, ⟨pb1, pb2, pb3⟩, cs, ci⟩ := both W H lt lr ld hbig
    have HP := Lib.hid hP
    have HPB : Hid (LT.length ≤ 1048576 ∧ LR.length ≤ 1048576 ∧ LD.length ≤ 1048576) := Lib.hid (by obtain ⟨h1, h2, h3⟩ := hP; omega)
    have CS := Lib.hid cs
    have CI := Lib.hid ci
    have eB : (B != B) = false := by simp
    obtain ⟨At, ct, rfl, _⟩ := hr.rt
    obtain ⟨Ar, cr, rfl, _⟩ := hr.rr
    obtain ⟨Ad, cd, rfl, _⟩ := hr.rd
    obtain ⟨S0, hS0⟩ : ∃ S0, szTot lt.length lr.length ld.length = S0 := ⟨_, rfl⟩
    have hs0 : 0 ≤ S0 := by rw [← hS0]; unfold szTot; rw [if_pos hbig]; omega
    have CZ := Lib.hid (fun w => szMap_s W H At Ar Ad lt.length ct lr.length cr ld.length cd S0 w hr.bt hr.br hr.bd hS0)
    obtain ⟨nt, hnt⟩ : ∃ n, lt.length = n := ⟨_, rfl⟩
    obtain ⟨nr, hnr⟩ : ∃ n, lr.length = n := ⟨_, rfl⟩
    obtain ⟨nd, hnd⟩ : ∃ n, ld.length = n := ⟨_, rfl⟩
    have CT := Lib.hid (fun t r d w (h : Lists w t r d lt lr ld) => toMap_sl W H t r d lt lr ld nt nr nd w h hnt hnr hnd)
    rw [hnt, hnr, hnd] at HL CZ ⊢
    have hb1 : nt ≤ 1048576 := by omega
    have hb2 : nr ≤ 1048576 := by omega
    have hb3 : nd ≤ 1048576 := by omega
    have HLN := Lib.hid (And.intro hnt (And.intro hnr hnd))
    clear hr ht hS0 hbig hnt hnr hnd hP cs ci
    have s0 := new5 w (.int .i64 W) (.int .i64 H) (.slice At nt ct) (.slice Ar nr cr) (.slice Ad nd cd) 42
    go_enter Tryd.func4, Tryd.ntmps4
    go_wp2_with fail
    refine (CZ.out _).mono ?_
    rintro e1 w1 ⟨rfl, k1⟩
    have s1 := keep5 k1 s0
    clear s0 k1
    go_wp2_with fail
    refine (CT.out _ _ _ _ (HL.out.keep s1.2.2.2.2.2)).mono ?_
    rintro e2 w2 ⟨A1, a1, A2, a2, A3, a3, rfl, o2, k2⟩
    have s2 := keep5 k2 s1
    have L2 := Lib.hid (o2.lists HL.out)
    clear s1 k2 o2
    go_wp2_with fail
    refine (CS.out _ _ _ _ L2.out).mono ?_
    rintro e3 w3 ⟨G1, g1, G2, g2, G3, g3, rfl, o3, k3⟩
    have kb3 := (Kp.refl w3).alloc (.cells #[.int .i64 X, .int .i64 Y, .slice G1 pT g1, .slice G2 pR g2, .slice G3 pD g3] 44)
    have s3 := box10 (.int .i64 X) (.int .i64 Y) (.slice G1 pT g1) (.slice G2 pR g2) (.slice G3 pD g3) 44 (keep5 k3 s2)
    have R3 := Lib.hid ((rdM_own o3 HPB.out).keep kb3)
    clear s2 k3 L2 o3 kb3
    go_wp2_with fail
    generalize hW3 : w3.alloc (.cells #[.int .i64 X, .int .i64 Y, .slice G1 pT g1, .slice G2 pR g2, .slice G3 pD g3] 44) = W3 at *
    clear hW3
    have HS3 := Lib.hid s3
    refine (CT.out _ _ _ _ (HL.out.keep s3.1.2.2.2.2.2)).mono ?_
    rintro e4 w4 ⟨B1, b1, B2, b2, B3, b3, rfl, o4, k4⟩
    have s4a := box10 (.int .i64 W) (.int .i64 H) (.slice B1 nt b1) (.slice B2 nr b2) (.slice B3 nd b3) 44 (keep5 k4 s3.1)
    have kb := (Kp.refl w4).alloc (.cells #[.int .i64 W, .int .i64 H, .slice B1 nt b1, .slice B2 nr b2, .slice B3 nd b3] 44)
    have s4b := keep5 (k4.trans kb) s3.2
    have O4 := Lib.hid (o4.keep kb)
    have K34 : Kp W3 (w4.alloc (.cells #[.int .i64 W, .int .i64 H, .slice B1 nt b1, .slice B2 nr b2, .slice B3 nd b3] 44)) := k4.trans kb
    have hz34 : W3.heap.size ≤ w4.heap.size := k4.size
    have hz4 : w4.heap.size < (w4.alloc (.cells #[.int .i64 W, .int .i64 H, .slice B1 nt b1, .slice B2 nr b2, .slice B3 nd b3] 44)).heap.size := by simp
    have BO := Lib.hid (own3_hi o4)
    clear s3 k4 o4 kb
    go_wp2_with fail
    generalize hW4 : w4.alloc (.cells #[.int .i64 W, .int .i64 H, .slice B1 nt b1, .slice B2 nr b2, .slice B3 nd b3] 44) = W4 at *
    clear hW4
    refine (CI.out _ _ _ _ (HT.out.keep s4a.1.2.2.2.2.2) (O4.out.lists HL.out)).mono ?_
    rintro e6 w6 ⟨F1, f1, F2, f2, F3, f3, rfl, o6, k6⟩
    have kb6 := (Kp.refl w6).alloc (.cells #[.int .i64 X, .int .i64 Y, .slice F1 pT f1, .slice F2 pR f2, .slice F3 pD f3] 44)
    have k46 := k6.trans kb6
    have s6a := keep10 k46 s4a
    have s6b := keep5 k46 s4b
    have s6g := (box10 (.int .i64 X) (.int .i64 Y) (.slice F1 pT f1) (.slice F2 pR f2) (.slice F3 pD f3) 44 (keep5 k6 s4b)).2
    have O6 := Lib.hid (o6.keep kb6)
    have BG := Lib.hid (own3_hi o6)
    have O4a := Lib.hid (O4.out.keep k46)
    have K36 : Kp W3 (w6.alloc (.cells #[.int .i64 X, .int .i64 Y, .slice F1 pT f1, .slice F2 pR f2, .slice F3 pD f3] 44)) := K34.trans k46
    have hz46 : W4.heap.size ≤ w6.heap.size := k6.size
    clear s4a s4b o6 O4 K34 k6 kb6 k46
    go_wp2_with fail
    generalize hW6 : w6.alloc (.cells #[.int .i64 X, .int .i64 Y, .slice F1 pT f1, .slice F2 pR f2, .slice F3 pD f3] 44) = W6 at *
    clear hW6
    refine (eqMap_rd _ _ _ _ _ _ _ _ LT LR LD _ (rdM_own O6.out HPB.out) (R3.out.keep K36)).mono ?_
    rintro e7 w7 ⟨rfl, k7⟩
    have s7a := keep10 k7 s6a
    have s7b := keep5 k7 s6b
    have s7g := keep5 k7 s6g
    have O6a := Lib.hid (O6.out.keep k7)
    have O4b := Lib.hid (O4a.out.keep k7)
    have K37 : Kp W3 w7 := K36.trans k7
    clear s6a s6b s6g O6 O4a K36 k7
    have s7 := drew10 s7a
    have HS7 := Lib.hid (And.intro s7b s7g)
    clear s7a s7b s7g
    go_wp2_with fail
    go_region_held3 (fun w' => (w'.cell? ⟨w.heap.size, 0, none⟩ = some (.int .i64 W) ∧ w'.cell? ⟨w.heap.size, 1, none⟩ = some (.int .i64 H) ∧ w'.cell? ⟨w.heap.size, 2, none⟩ = some (.slice At nt ct) ∧ w'.cell? ⟨w.heap.size, 3, none⟩ = some (.slice Ar nr cr) ∧ w'.cell? ⟨w.heap.size, 4, none⟩ = some (.slice Ad nd cd) ∧ Kp w w') ∧ w'.cell? ⟨w4.heap.size, 0, none⟩ = some (.int .i64 W) ∧ w'.cell? ⟨w4.heap.size, 1, none⟩ = some (.int .i64 H) ∧ w'.cell? ⟨w4.heap.size, 2, none⟩ = some (.slice B1 nt b1) ∧ w'.cell? ⟨w4.heap.size, 3, none⟩ = some (.slice B2 nr b2) ∧ w'.cell? ⟨w4.heap.size, 4, none⟩ = some (.slice B3 nd b3) ∧ Kp w w') (first | assumption | exact s7)
      (first
        | (go_at_call 30; refine (CT.out _ _ _ _ (HL.out.keep s7.1.2.2.2.2.2)).mono ?_; rintro e8 w8 ⟨C1, c1, C2, c2, C3, c3, rfl, o8, k8⟩; have s8 := keep10 k8 s7; have L8 := Lib.hid (o8.lists HL.out); have M8 := Lib.hid ((O4b.out.keep ((Kp.refl _).drew)).keep k8); have k78 := Lib.hid ((Kp.refl w7).drew.trans k8))
        | (go_at_call 32; refine (eqMap_same _ _ _ _ _ _ _ _ lt lr ld _ (M8.out.lists HL.out) L8.out).mono ?_; rintro e9 w9 ⟨rfl, k9⟩; have s9 := keep10 k9 s8; have M9 := Lib.hid (M8.out.keep k9); have k79 := Lib.hid (k78.out.trans k9)))
    have O9 := Lib.hid (O6a.out.keep k79.out)
    have K39 : Kp W3 w9 := K37.trans k79.out
    have s9g := keep5 k79.out HS7.out.2
    clear s7 s8 L8 M8 k78 k79 O6a O4b K37 HS7
    go_wp2_with fail
    refine (markMap_any _ _ _ _ _ lt lr ld nt nr nd W3.heap.size _ M9.out HLN.out.1 HLN.out.2.1 HLN.out.2.2 hb1 hb2 hb3).mono ?_
    rintro e10 w10 ⟨rfl, m10, _⟩
    have K3a : Kp W3 w10 := m10.kp M9.out K39 (Nat.le_refl _)
    have Kw10 : Kp w w10 := HS3.out.1.2.2.2.2.2.trans K3a
    have s10b := keep5 K3a HS3.out.2
    have s10g := marked5 m10 s9g (BO.out _ (by omega)).1 (BO.out _ (by omega)).2.1 (BO.out _ (by omega)).2.2 Kw10
    have O10 := Lib.hid (own3_marked m10 O9.out (fun g hg => BO.out g (by omega)))
    have R10 := Lib.hid (R3.out.keep K3a)
    have hk0 : ¬ (1 + (nt : Int) + nr + nd) < 0 := by omega
    clear m10 M9 O9 K39 s9 s9g
    go_wp2_with fail
    refine (eqMap_rd _ _ _ _ _ _ _ _ LT LR LD _ (rdM_own O10.out HPB.out) R10.out).mono ?_
    rintro e11 w11 ⟨rfl, k11⟩
    have O11 := Lib.hid (O10.out.keep k11)
    have s11g := keep5 k11 s10g
    have K3b : Kp W3 w11 := K3a.trans k11
    clear O10 K3a k11 s10b s10g R10 Kw10
    go_wp2_with fail
    refine (markMap_any _ _ _ _ _ LT LR LD pT pR pD W4.heap.size _ O11.out HP.out.1 HP.out.2.1 HP.out.2.2 pb1 pb2 pb3).mono ?_
    rintro e12 w12 ⟨rfl, m12, om⟩
    have K3c : Kp W3 w12 := m12.kp O11.out K3b (by omega)
    have Kw12 : Kp w w12 := HS3.out.1.2.2.2.2.2.trans K3c
    have s12g := marked5 m12 s11g (BG.out _ (Nat.le_refl _)).1 (BG.out _ (Nat.le_refl _)).2.1 (BG.out _ (Nat.le_refl _)).2.2 Kw12
    have OM := Lib.hid om
    have hne : ((1 + (pT : Int) + pR + pD) != (1 + (pT : Int) + pR + pD)) = false := by simp
    have hk1 : ¬ (1 + (pT : Int) + pR + pD) < 0 := by omega
    clear om m12 O11 K3b s11g Kw12
    go_wp2_with fail
    refine (heldMap_any _ _ _ _ _ pT pR pD W4.heap.size _ OM.out pb1 pb2 pb3).mono ?_
    rintro e13 w13 ⟨rfl, k13⟩
    have OM2 := Lib.hid (OM.out.keep k13)
    have K3d : Kp W3 w13 := K3c.trans k13
    have s13g := keep5 k13 s12g
    have s13 := keep5 K3d HS3.out.1
    clear K3c k13 OM s12g
    go_wp2_with fail
    refine (CT.out _ _ _ _ (HL.out.keep s13.2.2.2.2.2)).mono ?_
    rintro e14 w14 ⟨D1, d1, D2, d2, D3, d3, rfl, o14, k14⟩
    have s14 := keep5 k14 s13
    have L14 := Lib.hid (o14.lists HL.out)
    clear s13 o14
    go_wp2_with fail
    refine (CI.out _ _ _ _ (HT.out.keep s14.2.2.2.2.2) L14.out).mono ?_
    rintro e15 w15 ⟨E1, e1, E2, e2, E3, e3, rfl, o15, k15⟩
    have kb15 := (Kp.refl w15).alloc (.cells #[.int .i64 X, .int .i64 Y, .slice E1 pT e1, .slice E2 pR e2, .slice E3 pD e3] 44)
    have O15 := Lib.hid (o15.keep kb15)
    have K13 : Kp w13 (w15.alloc (.cells #[.int .i64 X, .int .i64 Y, .slice E1 pT e1, .slice E2 pR e2, .slice E3 pD e3] 44)) := (k14.trans k15).trans kb15
    have s15b := keep5 (K3d.trans K13) HS3.out.2
    have s15g := keep5 K13 s13g
    have s15e := (box10 (.int .i64 X) (.int .i64 Y) (.slice E1 pT e1) (.slice E2 pR e2) (.slice E3 pD e3) 44 (keep5 (k14.trans k15) s13g)).2
    have R15 := Lib.hid (R3.out.keep (K3d.trans K13))
    have OM3 := Lib.hid (OM2.out.keep K13)
    have Kw : Kp w (w15.alloc (.cells #[.int .i64 X, .int .i64 Y, .slice E1 pT e1, .slice E2 pR e2, .slice E3 pD e3] 44)) := s15g.2.2.2.2.2
    clear o15 k15 k14 s14 L14 s13g K13 OM2 kb15
    go_wp2_with fail
    generalize hW15 : w15.alloc (.cells #[.int .i64 X, .int .i64 Y, .slice E1 pT e1, .slice E2 pR e2, .slice E3 pD e3] 44) = W15 at *
    clear hW15
    refine (eqMap_rd _ _ _ _ _ _ _ _ LT LR LD _ (rdM_own O15.out HPB.out) R15.out).mono ?_
    rintro e16 w16 ⟨rfl, k16⟩
    have OM4 := Lib.hid (OM3.out.keep k16)
    have s16g := keep5 k16 s15g
    clear OM3 s15g s15b s15e R15 O15
    go_wp2_with fail
    refine (heldMap_any _ _ _ _ _ pT pR pD W4.heap.size _ OM4.out pb1 pb2 pb3).mono ?_
    rintro e17 w17 ⟨rfl, k17⟩
    go_wp2_with fail
    go_ret
    exact ⟨rfl, (Kw.trans k16).trans k17⟩
  · obtain ⟨At, ct, rfl, _⟩ := hr.rt
    obtain ⟨Ar, cr, rfl, _⟩ := hr.rr
    obtain ⟨Ad, cd, rfl, _⟩ := hr.rd
    have hS0 : szTot lt.length lr.length ld.length = -1 := by unfold szTot; rw [if_neg hbig]
    have CZ := Lib.hid (fun w => szMap_s W H At Ar Ad lt.length ct lr.length cr ld.length cd (-1) w hr.bt hr.br hr.bd hS0)
    clear hr ht hS0 hbig
    go_enter Tryd.func4, Tryd.ntmps4
    go_wp2_with fail
    refine (CZ.out _).mono ?_
    rintro e1 w1 ⟨rfl, k1⟩
    go_wp2_with fail
    go_ret
    exact ⟨rfl, ((Kp.refl _).alloc _).trans k1⟩

set_option maxRecDepth 100000 in
theorem contract (H : Type) (enc : TypeId × Value → H) (W : World) (base : Nat) (args : Array Value) (ds gs : List (DataW H)) (before : List MemPlace)
    (hval : ∀ (j : Nat) t v, Tryd.f4.params[j]? = some t → args[j]? = some v → Value.okWide Tryd.prog W .any base t v)
    (hW : DataW.Whole enc Tryd.prog Tryd.f4.params.toList Rows.fnExactMirrorMapSpec.vars false W args.toList ds gs before) (hL : laidMetH Tryd.prog Rows.fnExactMirrorMapRow.laid W) :
    Calls Tryd.prog 4 args W fun e W' => ∃ v, e = .returned v ∧ Rows.fnExactMirrorMapSpec.post enc Tryd.prog Tryd.f4 false true false false W args v W' := by
  have hW' := hW
  obtain ⟨p, q, hA0, hV, rfl, hfz, hnd⟩ := hW
  have hA : DataW.TrodAll enc Tryd.prog W 0 (fun _ => true) true Tryd.f4.params.toList args.toList ds p := hA0
  rw [Tryd.params4] at hA hval
  obtain ⟨v0, d0, rfl, rfl, h0⟩ := trodAll_one hA
  obtain ⟨_, _, _, _, g0, _, rfl, _, _, _, _, _⟩ := trodVars_one hV
  obtain ⟨wd0, ht0, t0, r0, e0, lt0, lr0, ld0, rfl, hR0⟩ := open_map5 (hval 0 42 v0 rfl rfl) h0
  refine (walk wd0 ht0 t0 r0 e0 lt0 lr0 ld0 W (tab_of_laid hL) hR0).mono fun e W' ⟨he, hg⟩ => ?_
  subst he
  exact ⟨_, rfl, law_post hW' laidOut (by kernel_rfl) (by kernel_rfl) (by kernel_rfl) Tryd.underlying4 rfl hg⟩

theorem laid_met (os : Os) : laidMet Tryd.prog Rows.fnExactMirrorMapRow.laid ((laidWorld os).forCall (fun _ _ => 0) ⟨#[], #[.agg #[.int .i64 0, .int .i64 0, .slice none 0 0, .slice none 0 0, .slice none 0 0]], []⟩).memory :=
  laidMet_of_run' 8 (by kernel_rfl) (by kernel_rfl)
theorem reads (os : Os) {H : Type} (enc : TypeId × Value → H) : ∃ ds gs places, DataW.whole enc Tryd.prog ((laidWorld os).forCall (fun _ _ => 0) ⟨#[], #[.agg #[.int .i64 0, .int .i64 0, .slice none 0 0, .slice none 0 0, .slice none 0 0]], []⟩).memory Tryd.f4.params.toList Rows.fnExactMirrorMapSpec.vars false #[.agg #[.int .i64 0, .int .i64 0, .slice none 0 0, .slice none 0 0, .slice none 0 0]].toList 8 = some (ds, gs, places) :=
  ⟨[.agg [.lit (.int .i64 0), .lit (.int .i64 0), .nil, .nil, .nil]], [Rows.laid_loop_example_g00886_impl_directionSteps], MemPlace.row ⟨7, 0, none⟩ 12, by kernel_rfl⟩

set_option maxRecDepth 100000 in
theorem lifted (os : Os) (started : os.Started) (H : Type) (enc : TypeId × Value → H) (F : Stop.Interp) :
    ReturnsInHanded {} Tryd.checked os 4 .any ((OpenSpec.ofChange Rows.fnExactMirrorMapSpec).preRow enc Tryd.prog Tryd.f4 Rows.fnExactMirrorMapRow.domain false Rows.fnExactMirrorMapRow.laid) (((OpenSpec.ofChange Rows.fnExactMirrorMapSpec).at F).post enc Tryd.prog Tryd.f4 false true false false) := by
  obtain ⟨ds, gs, places, hx⟩ := reads os enc
  refine returnsInHanded_of_row (C := Tryd.checked) (s := OpenSpec.ofChange Rows.fnExactMirrorMapSpec) own started (by kernel_rfl) Tryd.func4
    (witness_row_at (enc := enc) (C := Tryd.checked) false (laidWorld os) #[.agg #[.int .i64 0, .int .i64 0, .slice none 0 0, .slice none 0 0, .slice none 0 0]] rfl (by kernel_rfl) (by kernel_rfl) (by kernel_rfl)
      (OpenSpec.preRow_of_cond 8 hx (by kernel_rfl) (fun k hk => by cases hk) (by kernel_rfl) (laid_met os))) ?_
  intro W base args ds gs before hval hW _ _ _ hL _ _
  exact contract H enc W base args ds gs before hval hW hL

theorem said : Rows.FnExactMirrorMapSaid :=
  OpenClaim.holds_of_cond 4 Tryd.f4 rfl rfl rfl rfl rfl rfl rfl ⟨rfl, rfl, rfl, rfl, rfl⟩ rfl rfl rfl rfl rfl (by kernel_rfl) Tryd.func4 mirrorMapFacts.closed
    (of_decide_eq_true (by kernel_rfl)) (by unfold Func.isWrapper; first | (rw [if_pos (by decide +kernel)]; kernel_rfl) | (rw [if_neg (by decide +kernel)]; exact ⟨rfl, rfl⟩))
    (fun os started H enc _ F => by rw [OpenClaim.pre_eq_preRow]; exact lifted os started H enc F)

theorem plain (f : FuncId) (fn : Func) (hf : Tryd.pinned.checked.prog.funcNamed "loop.example/g00886/laws.FnExactMirrorMap" = some f) (hfn : Tryd.pinned.checked.prog.funcs[f]? = some fn) :
    true = Tryd.pinned.checked.prog.looks [] ∧ ∀ (j : Nat) t, fn.params[j]? = some t → Tryd.pinned.checked.prog.wantsStandIn t = false := by
  obtain rfl : f = 4 := Option.some.inj ((show Tryd.prog.funcNamed "loop.example/g00886/laws.FnExactMirrorMap" = some 4 by kernel_rfl).symm.trans hf) |>.symm
  obtain rfl : fn = Tryd.f4 := (Option.some.inj (Tryd.func4.symm.trans hfn)).symm
  refine ⟨by kernel_rfl, fun j t ht => ?_⟩
  rw [Tryd.params4] at ht
  have hm := Array.mem_of_getElem? ht
  simp only [List.mem_toArray, List.mem_cons, List.not_mem_nil, or_false] at hm
  subst hm
  exact (show Tryd.prog.wantsStandIn 42 = false by kernel_rfl)

/-- The card: the row, with what it lists tied to the program's text. -/
theorem card : Rows.FnExactMirrorMapCardSaid :=
  Claim7.holds_tied_plain_at .later [] _ _ _ _ said (fun _ h => by cases h) (by kernel_rfl) (fun _ h => by cases h) fnExactMirrorMap_row_tie rfl ⟨rfl, rfl⟩ (by kernel_rfl) rfl plain (by kernel_rfl)
#print axioms card
end Go.Proofs.YtcdfbcmfpeceeaaDoor.mirrorMapLaw
