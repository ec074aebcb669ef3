/-
  The laws' marks of a board whose map lies below its rules, and of a zero board; what a law asks of both, as one.
-/
import Derived.Test.YtmolpkjdjkhnpaaGreatDoorMbS
namespace Go.Proofs.YtmolpkjdjkhnpaaGreatDoor
open Go.RowKit

theorem Own3.low {w w' : World} {b base : Nat} {t r d : Value} {lt lr ld : List Int} (h : Below b w w') (o : Own3 w base t r d lt lr ld) (i1 : ∀ g, t.ownBlock = some g → g < b) (i2 : ∀ g, r.ownBlock = some g → g < b) (i3 : ∀ g, d.ownBlock = some g → g < b) : Own3 w' base t r d lt lr ld :=
  ⟨ownsRow_low h o.ot i1, ownsRow_low h o.or i2, ownsRow_low h o.od i3, o.tr, o.td, o.rd⟩
theorem Own3.high {w w' : World} {lo hi base : Nat} {t r d : Value} {lt lr ld : List Int} (h : Mk lo hi w w') (o : Own3 w base t r d lt lr ld) (hb : hi ≤ base) : Own3 w' base t r d lt lr ld :=
  ⟨h.own o.ot (fun g e => by have := (World.ownsRow.lt o.ot g e).1; omega), h.own o.or (fun g e => by have := (World.ownsRow.lt o.or g e).1; omega), h.own o.od (fun g e => by have := (World.ownsRow.lt o.od g e).1; omega), o.tr, o.td, o.rd⟩
theorem GOwnB.keep {w w' : World} {mlo lo mid hi g1 g2 nt nk c1 c2 : Nat} {l : List Ter} {m : List Knd} {cs : List (Option Addr × Nat)} {ys zs : List Value} {t r d : Value} {LT LR LD : List Int} (h : GOwnB w mlo lo mid hi g1 g2 nt nk c1 c2 l m cs ys zs t r d LT LR LD) (k : Kp w w') : GOwnB w' mlo lo mid hi g1 g2 nt nk c1 c2 l m cs ys zs t r d LT LR LD :=
  ⟨h.T.keep k, h.K.keep k, h.M.keep k, h.i1, h.i2, h.i3, h.h1, h.h2, h.h3, Nat.le_trans h.h4 k.size⟩
theorem GOwnB.high {w w' : World} {mlo lo mid hi g1 g2 nt nk c1 c2 b c : Nat} {l : List Ter} {m : List Knd} {cs : List (Option Addr × Nat)} {ys zs : List Value} {t r d : Value} {LT LR LD : List Int} (h : GOwnB w mlo lo mid hi g1 g2 nt nk c1 c2 l m cs ys zs t r d LT LR LD) (k : Mk b c w w') (hc : c ≤ mlo) : GOwnB w' mlo lo mid hi g1 g2 nt nk c1 c2 l m cs ys zs t r d LT LR LD :=
  ⟨h.T.high k (Nat.le_trans hc h.h1), h.K.high k (Nat.le_trans hc (Nat.le_trans h.h1 h.h2)), h.M.high k hc, h.i1, h.i2, h.i3, h.h1, h.h2, h.h3, Nat.le_trans h.h4 k.1.size⟩

set_option maxRecDepth 100000 in
set_option maxHeartbeats 4000000 in
theorem markBoard_low (mlo lo mid hi g1 g2 nt nk c1 c2 : Nat) (l : List Ter) (m : List Knd) (cs : List (Option Addr × Nat)) (ys zs : List Value) (a b c d e W H : Int) (x r y : Value) (lt lr ld : List Int) (k0 : Nat) (w : World) (h : GOwnB w mlo lo mid hi g1 g2 nt nk c1 c2 l m cs ys zs x r y lt lr ld)
    (hb1 : nt ≤ 1048576) (hb2 : nk ≤ 1048576) (hb : ∀ x ∈ l, x.cost.length ≤ 1048576) (n1 : lt.length ≤ 1048576) (n2 : lr.length ≤ 1048576) (n3 : ld.length ≤ 1048576) (p1 : k0 ≤ 100000000000000) :
    Calls Tryz.prog 9 #[bv (.slice (some ⟨g1, 0, none⟩) nt c1) (.slice (some ⟨g2, 0, none⟩) nk c2) a b c d e W H x r y, .int .i64 (k0 : Int)] w fun e' w' => e' = .returned (.int .i64 ((k0 : Int) + cntT l + 6 * (nk : Int) + lt.length + lr.length + ld.length)) ∧ (∃ ys', TerB w' lo mid g1 nt c1 (mkTs k0 l) cs ys') ∧ (∃ zs', KndB w' mid hi g2 nk c2 (mkKs ((k0 : Int) + cntT l) nk) zs') ∧ MarksM w' mlo x r y lt.length lr.length ld.length ((k0 : Int) + cntT l + 6 * (nk : Int)) ∧ Mk mlo hi w w' := by
  obtain ⟨ht, hk, ho, i1, i2, i3, q1, q2, q3, q4⟩ := h
  have KA : Kp w (w.alloc (.cells #[.slice (some ⟨g1, 0, none⟩) nt c1, .slice (some ⟨g2, 0, none⟩) nk c2, .int .i64 a, .int .i64 b, .int .i64 c, .int .i64 d, .int .i64 e, .int .i64 W, .int .i64 H, x, r, y] 38)) := (Kp.refl w).alloc _
  obtain ⟨s0, s1, s2, s3, s4, s5, s6, s7, s8, s9, s10, s11⟩ := new12 w (.slice (some ⟨g1, 0, none⟩) nt c1) (.slice (some ⟨g2, 0, none⟩) nk c2) (.int .i64 a) (.int .i64 b) (.int .i64 c) (.int .i64 d) (.int .i64 e) (.int .i64 W) (.int .i64 H) x r y 38
  have S := Lib.hid (new12 w (.slice (some ⟨g1, 0, none⟩) nt c1) (.slice (some ⟨g2, 0, none⟩) nk c2) (.int .i64 a) (.int .i64 b) (.int .i64 c) (.int .i64 d) (.int .i64 e) (.int .i64 W) (.int .i64 H) x r y 38)
  have HT := Lib.hid (ht.keep KA)
  have HK := Lib.hid (hk.keep KA)
  have HO := Lib.hid (ho.keep KA)
  have HB := Lib.hid hb
  have hcn := cntT_bound l hb
  rw [ht.lt] at hcn
  have I1 := Lib.hid i1
  have I2 := Lib.hid i2
  have I3 := Lib.hid i3
  have hzA : w.heap.size ≤ (w.alloc (.cells #[.slice (some ⟨g1, 0, none⟩) nt c1, .slice (some ⟨g2, 0, none⟩) nk c2, .int .i64 a, .int .i64 b, .int .i64 c, .int .i64 d, .int .i64 e, .int .i64 W, .int .i64 H, x, r, y] 38)).heap.size := KA.size
  clear ht hk ho hb i1 i2 i3
  generalize hK : (k0 : Int) + cntT l + 6 * (nk : Int) = kq
  have HKQ := Lib.hid hK
  have hkq0 : 0 ≤ kq := by omega
  have hkq1 : kq ≤ 200000000000000 := by omega
  clear hcn hK
  go_enter Tryz.func9, Tryz.ntmps9
  go_wp2_with fail
  refine (markRules_own lo mid hi g1 g2 nt nk c1 c2 l m cs ys zs a b c d e k0 _ HT.out HK.out hb1 hb2 HB.out q2 (by omega) (by omega) p1).mono ?_
  rintro e1 w1 ⟨rfl, t1, z1, m1⟩
  rw [HKQ.out]
  have T := cell12_high m1 (by omega) S.out
  clear s0 s1 s2 s3 s4 s5 s6 s7 s8 s9 s10 s11
  obtain ⟨s0, s1, s2, s3, s4, s5, s6, s7, s8, s9, s10, s11⟩ := T
  have O1 := Lib.hid (Own3.low m1.1 HO.out I1.out I2.out I3.out)
  have T1 := Lib.hid t1
  have Z1 := Lib.hid z1
  have M1 : Mk mlo hi w w1 := (Mk.of_kp KA (by omega)).trans ⟨Below.mono m1.1 q1, m1.2⟩
  have hz1 := m1.1.size
  clear S m1 t1 z1 HT HK HO
  go_wp2_with fail
  refine (markMap_own W H x r y lt lr ld lt.length lr.length ld.length mlo lo kq _ O1.out rfl rfl rfl n1 n2 n3 (by omega) I1.out I2.out I3.out hkq0 (by omega)).mono ?_
  rintro e2 w2 ⟨rfl, mm, m2⟩
  have T2 : Hid (∃ ys', TerB w2 lo mid g1 nt c1 (mkTs k0 l) cs ys') := Lib.hid (by
    obtain ⟨ys', h⟩ := T1.out
    exact ⟨ys', h.high m2 (Nat.le_refl _)⟩)
  have Z2 : Hid (∃ zs', KndB w2 mid hi g2 nk c2 (mkKs ((k0 : Int) + cntT l) nk) zs') := Lib.hid (by
    obtain ⟨zs', h⟩ := Z1.out
    exact ⟨zs', h.high m2 q2⟩)
  have M2 : Mk mlo hi w w2 := M1.trans (m2.wide (by omega))
  have MM := Lib.hid mm
  clear s0 s1 s2 s3 s4 s5 s6 s7 s8 s9 s10 s11 m2 mm T1 Z1 O1 M1
  go_wp2_with fail
  go_ret
  exact ⟨rfl, T2.out, Z2.out, MM.out, M2⟩

set_option maxRecDepth 100000 in
theorem markTerrainS0 (k : Int) (w : World) : Calls Tryz.prog 51 #[.slice none 0 0, .int .i64 k] w fun e w' => e = .returned (.int .i64 k) ∧ Kp w w' := by
  go_enter Tryz.func51, Tryz.ntmps51
  go_wp2_with fail
  go_loopw [1, 5] (fun kk i wr => i = .int .i64 0 ∧ kk = .int .i64 k ∧ Kp w wr) (fun _ _ _ => 0)
  case atStart => exact ⟨rfl, rfl, Kp.refl _⟩
  case round =>
    obtain ⟨rfl, rfl, kr⟩ := hrel
    go_wp2_with fail
    go_ret
    exact ⟨rfl, kr⟩

set_option maxRecDepth 100000 in
theorem markKindS0 (k : Int) (w : World) : Calls Tryz.prog 52 #[.slice none 0 0, .int .i64 k] w fun e w' => e = .returned (.int .i64 k) ∧ Kp w w' := by
  go_enter Tryz.func52, Tryz.ntmps52
  go_wp2_with fail
  go_loopw [1, 5] (fun kk i wr => i = .int .i64 0 ∧ kk = .int .i64 k ∧ Kp w wr) (fun _ _ _ => 0)
  case atStart => exact ⟨rfl, rfl, Kp.refl _⟩
  case round =>
    obtain ⟨rfl, rfl, kr⟩ := hrel
    go_wp2_with fail
    go_ret
    exact ⟨rfl, kr⟩

set_option maxRecDepth 100000 in
theorem markRules0 (k : Int) (w : World) : Calls Tryz.prog 23 #[rv (.slice none 0 0) (.slice none 0 0) 0 0 0 0 0, .int .i64 k] w fun e w' => e = .returned (.int .i64 k) ∧ Kp w w' := by
  have kA : Kp w (w.alloc (.cells #[.slice none 0 0, .slice none 0 0, .int .i64 0, .int .i64 0, .int .i64 0, .int .i64 0, .int .i64 0] 35)) := (Kp.refl w).alloc _
  have c1 : (w.alloc (.cells #[.slice none 0 0, .slice none 0 0, .int .i64 0, .int .i64 0, .int .i64 0, .int .i64 0, .int .i64 0] 35)).cell? ⟨w.heap.size, 1, none⟩ = some (.slice none 0 0) := by simp [go_sem]
  go_enter Tryz.func23, Tryz.ntmps23
  go_wp2_with fail
  refine (markTerrainS0 k _).mono ?_
  rintro e1 w1 ⟨rfl, k1⟩
  have d1 := k1.cell c1
  clear c1
  go_wp2_with fail
  refine (markKindS0 k _).mono ?_
  rintro e2 w2 ⟨rfl, k2⟩
  go_wp2_with fail
  go_ret
  exact ⟨rfl, (kA.trans k1).trans k2⟩
set_option maxRecDepth 100000 in
set_option maxHeartbeats 4000000 in
theorem markBoard0 (k : Int) (w : World) (p0 : 0 ≤ k) (p1 : k ≤ 500000000000000) : Calls Tryz.prog 9 #[bv (.slice none 0 0) (.slice none 0 0) 0 0 0 0 0 0 0 (.slice none 0 0) (.slice none 0 0) (.slice none 0 0), .int .i64 k] w fun e w' => e = .returned (.int .i64 k) ∧ Kp w w' := by
  have kA : Kp w (w.alloc (.cells #[.slice none 0 0, .slice none 0 0, .int .i64 0, .int .i64 0, .int .i64 0, .int .i64 0, .int .i64 0, .int .i64 0, .int .i64 0, .slice none 0 0, .slice none 0 0, .slice none 0 0] 38)) := (Kp.refl w).alloc _
  obtain ⟨s0, s1, s2, s3, s4, s5, s6, s7, s8, s9, s10, s11⟩ := new12 w (.slice none 0 0) (.slice none 0 0) (.int .i64 0) (.int .i64 0) (.int .i64 0) (.int .i64 0) (.int .i64 0) (.int .i64 0) (.int .i64 0) (.slice none 0 0) (.slice none 0 0) (.slice none 0 0) 38
  have S := Lib.hid (new12 w (.slice none 0 0) (.slice none 0 0) (.int .i64 0) (.int .i64 0) (.int .i64 0) (.int .i64 0) (.int .i64 0) (.int .i64 0) (.int .i64 0) (.slice none 0 0) (.slice none 0 0) (.slice none 0 0) 38)
  go_enter Tryz.func9, Tryz.ntmps9
  go_wp2_with fail
  refine (markRules0 k _).mono ?_
  rintro e1 w1 ⟨rfl, k1⟩
  have T := cell12_keep k1 S.out
  clear s0 s1 s2 s3 s4 s5 s6 s7 s8 s9 s10 s11 S
  obtain ⟨s0, s1, s2, s3, s4, s5, s6, s7, s8, s9, s10, s11⟩ := T
  go_wp2_with fail
  refine (markMap_own 0 0 (.slice none 0 0) (.slice none 0 0) (.slice none 0 0) [] [] [] 0 0 0 w1.heap.size w1.heap.size k w1 (own3_nil _ _) rfl rfl rfl (by omega) (by omega) (by omega) (Nat.le_refl _) (fun g e => by simp [Value.ownBlock] at e) (fun g e => by simp [Value.ownBlock] at e) (fun g e => by simp [Value.ownBlock] at e) p0 p1).mono ?_
  rintro e2 w2 ⟨rfl, _, m2⟩
  go_wp2_with fail
  go_ret
  exact ⟨ret_int (by simp), m2.kp (kA.trans k1) (kA.trans k1).size⟩

/-- What a law asks of a board that a call hands back: it is marked in blocks of its own, from base on and below top, and looked at. -/
structure Mker (G : Value) (base top : Nat) (own rd : World → Prop) (kk : Int) : Prop where
  ok : ∀ w w', own w → Kp w w' → own w'
  om : ∀ w w' b c, own w → Mk b c w w' → c ≤ base → own w'
  dk : ∀ w, own w → Calls Tryz.prog 9 #[G, .int .i64 1] w fun e w' => e = .returned (.int .i64 kk) ∧ rd w' ∧ Mk base top w w'
  rk : ∀ w w', rd w → Kp w w' → rd w'
  hd : ∀ w, rd w → Calls Tryz.prog 10 #[G, .int .i64 1] w fun e w' => e = .returned (.int .i64 kk) ∧ Kp w w'
  k0 : 0 ≤ kk
theorem mker_zero (base top : Nat) : Mker (bv (.slice none 0 0) (.slice none 0 0) 0 0 0 0 0 0 0 (.slice none 0 0) (.slice none 0 0) (.slice none 0 0)) base top (fun w => base ≤ w.heap.size) (fun _ => True) 1 where
  ok := fun _ _ h k => Nat.le_trans h k.size
  om := fun _ _ _ _ h k _ => Nat.le_trans h k.1.size
  dk := fun w h => (markBoard0 1 w (by decide) (by decide)).mono fun _ _ ⟨h1, h2⟩ => ⟨h1, trivial, Mk.of_kp h2 h⟩
  rk := fun _ _ _ _ => trivial
  hd := fun w _ => heldBoard_rd none none 0 0 0 0 [] 0 0 0 0 0 0 0 (.slice none 0 0) (.slice none 0 0) (.slice none 0 0) 0 0 0 1 w ⟨rfl, fun h => absurd h (by decide)⟩ ⟨rfl, fun h => absurd h (by decide)⟩ ⟨⟨none, 0, rfl, fun h => absurd h (by decide)⟩, ⟨none, 0, rfl, fun h => absurd h (by decide)⟩, ⟨none, 0, rfl, fun h => absurd h (by decide)⟩⟩ rfl (by decide) (by decide) (fun x hx => by cases hx) (by decide) (by decide) (by decide) (by decide)
  k0 := by decide
theorem mker_own (mlo lo mid hi g1 g2 nt nk c1 c2 : Nat) (l : List Ter) (m : List Knd) (cs : List (Option Addr × Nat)) (ys zs : List Value) (a b c d e W H : Int) (x r y : Value) (lt lr ld : List Int)
    (hl : l.length = nt) (hb1 : nt ≤ 1048576) (hb2 : nk ≤ 1048576) (hb : ∀ x ∈ l, x.cost.length ≤ 1048576) (n1 : lt.length ≤ 1048576) (n2 : lr.length ≤ 1048576) (n3 : ld.length ≤ 1048576) :
    Mker (bv (.slice (some ⟨g1, 0, none⟩) nt c1) (.slice (some ⟨g2, 0, none⟩) nk c2) a b c d e W H x r y) mlo hi (fun w => GOwnB w mlo lo mid hi g1 g2 nt nk c1 c2 l m cs ys zs x r y lt lr ld) (fun w => RdT w (some ⟨g1, 0, none⟩) nt (mkTs 1 l) ∧ RdK w (some ⟨g2, 0, none⟩) nk (mkKs (1 + cntT l) nk) ∧ ReadsM w x r y lt.length lr.length ld.length (1 + cntT l + 6 * (nk : Int))) (1 + cntT l + 6 * (nk : Int) + lt.length + lr.length + ld.length) where
  ok := fun _ _ h k => h.keep k
  om := fun _ _ _ _ h k hc => h.high k hc
  dk := fun w h => (markBoard_low mlo lo mid hi g1 g2 nt nk c1 c2 l m cs ys zs a b c d e W H x r y lt lr ld 1 w h hb1 hb2 hb n1 n2 n3 (by decide)).mono fun _ _ ⟨h1, ⟨_, h2⟩, ⟨_, h3⟩, h4, h5⟩ => ⟨h1, ⟨h2.rd, h3.rd, h4.rd⟩, h5⟩
  rk := fun _ _ ⟨h1, h2, h3⟩ k => ⟨h1.keep k, h2.keep k, h3.keep k⟩
  hd := fun w ⟨h1, h2, h3⟩ => heldBoard_rd (some ⟨g1, 0, none⟩) (some ⟨g2, 0, none⟩) nt nk c1 c2 l a b c d e W H x r y lt.length lr.length ld.length 1 w h1 h2 h3 hl hb1 hb2 hb n1 n2 n3 (by decide)
  k0 := by
    have := (cntT_bound l hb).1
    omega

end Go.Proofs.YtmolpkjdjkhnpaaGreatDoor
