/-
  The laws' copy of a map: the same numbers and lists, in memory of its own. Nothing that was there is changed.
-/
import Derived.Test.YtcdfbcmfpeceeaaDoorMapL
namespace Go.Proofs.YtcdfbcmfpeceeaaDoor
open Go.RowKit

def ToMapPost (W H : Int) (lt lr ld : List Int) (w : World) (e : Ending) (w' : World) : Prop :=
  ∃ t r d, e = .returned (mp W H t r d) ∧ Own3 w' w.heap.size t r d lt lr ld ∧ Kp w w'

theorem toIntS_sl (v : Value) (l : List Int) (w : World) (h : RdI w v l) (hl : l.length ≤ 1048576) :
    Calls Tryd.prog 73 #[v] w fun e w' => ∃ A c, e = .returned (.slice A l.length c) ∧ OwnI w' w.heap.size (.slice A l.length c) l ∧ Kp w w' :=
  (toIntS_any v l w h hl).mono fun e w' ⟨v', he, ho, hk⟩ => by
    obtain ⟨A, c, rfl⟩ := ho.slice
    exact ⟨A, c, he, ho, hk⟩

set_option maxHeartbeats 2000000 in
theorem toMap_any (W H : Int) (t r d : Value) (lt lr ld : List Int) (w : World) (hL : Lists w t r d lt lr ld) :
    Calls Tryd.prog 30 #[mp W H t r d] w (ToMapPost W H lt lr ld w) := by
  have HL := Lib.hid hL
  obtain ⟨At, ct, rfl, _⟩ := hL.rt
  obtain ⟨Ar, cr, rfl, _⟩ := hL.rr
  obtain ⟨Ad, cd, rfl, _⟩ := hL.rd
  have C := Lib.hid toIntS_sl
  obtain ⟨nt, hnt⟩ : ∃ n, lt.length = n := ⟨_, rfl⟩
  obtain ⟨nr, hnr⟩ : ∃ n, lr.length = n := ⟨_, rfl⟩
  obtain ⟨nd, hnd⟩ : ∃ n, ld.length = n := ⟨_, rfl⟩
  have HNt := Lib.hid hnt
  have HNr := Lib.hid hnr
  have HNd := Lib.hid hnd
  rw [hnt, hnr, hnd]
  have CT : Hid (∀ w, RdI w (.slice At nt ct) lt → Calls Tryd.prog 73 #[.slice At nt ct] w fun e w' => ∃ A c, e = .returned (.slice A nt c) ∧ OwnI w' w.heap.size (.slice A nt c) lt ∧ Kp w w') := Lib.hid fun w h => by
    have := toIntS_sl _ lt w h hL.bt
    rw [hnt] at this
    exact this
  have CR : Hid (∀ w, RdI w (.slice Ar nr cr) lr → Calls Tryd.prog 73 #[.slice Ar nr cr] w fun e w' => ∃ A c, e = .returned (.slice A nr c) ∧ OwnI w' w.heap.size (.slice A nr c) lr ∧ Kp w w') := Lib.hid fun w h => by
    have := toIntS_sl _ lr w h hL.br
    rw [hnr] at this
    exact this
  have CD : Hid (∀ w, RdI w (.slice Ad nd cd) ld → Calls Tryd.prog 73 #[.slice Ad nd cd] w fun e w' => ∃ A c, e = .returned (.slice A nd c) ∧ OwnI w' w.heap.size (.slice A nd c) ld ∧ Kp w w') := Lib.hid fun w h => by
    have := toIntS_sl _ ld w h hL.bd
    rw [hnd] at this
    exact this
  rw [hnt, hnr, hnd] at HL
  clear hL hnt hnr hnd C
  go_enter Tryd.func30, Tryd.ntmps30
  go_wp2_with fail
  have k0 : Kp w (((w.alloc (.cells #[.int .i64 W, .int .i64 H, .slice At nt ct, .slice Ar nr cr, .slice Ad nd cd] 42)).alloc (.cells #[.int .i64 0, .int .i64 0, .slice none 0 0, .slice none 0 0, .slice none 0 0] 44)).alloc (.cells #[.int .i64 W, .int .i64 H, .slice none 0 0, .slice none 0 0, .slice none 0 0] 44)) := (((Kp.refl w).alloc _).alloc _).alloc _
  refine (CT.out _ (HL.out.keep k0).rt).mono ?_
  rintro e1 w1 ⟨A1, c1, rfl, o1, k1⟩
  have a3 : w1.cell? ⟨w.heap.size, 3, none⟩ = some (.slice Ar nr cr) := k1.cell (by simp [go_sem])
  have a4 : w1.cell? ⟨w.heap.size, 4, none⟩ = some (.slice Ad nd cd) := k1.cell (by simp [go_sem])
  have L1 : Live5 w1 (w.heap.size + 1) (.int .i64 0) (.int .i64 0) (.slice none 0 0) (.slice none 0 0) (.slice none 0 0) := live5_keep k1 ⟨by simp [go_sem], by simp [go_sem], by simp [go_sem], by simp [go_sem], by simp [go_sem]⟩
  have M1 : Live5 w1 (w.heap.size + 1 + 1) (.int .i64 W) (.int .i64 H) (.slice none 0 0) (.slice none 0 0) (.slice none 0 0) := live5_keep k1 ⟨by simp [go_sem], by simp [go_sem], by simp [go_sem], by simp [go_sem], by simp [go_sem]⟩
  have K1 : Kp w w1 := k0.trans k1
  have z1 : w.heap.size + 3 ≤ w1.heap.size := by have := k1.size; simp at this; omega
  have O1 := Lib.hid (o1.base (b := w.heap.size + 3) (by simp <;> omega))
  clear k0 k1 o1
  go_wp2_with fail
  have K1' : Kp w (w1.setCell ⟨w.heap.size + 1 + 1, 2, none⟩ (.slice A1 nt c1)) := K1.setCell (by simp <;> omega) _
  refine (CR.out _ (HL.out.keep K1').rr).mono ?_
  rintro e2 w2 ⟨A2, c2, rfl, o2, k2⟩
  have b4 : w2.cell? ⟨w.heap.size, 4, none⟩ = some (.slice Ad nd cd) := k2.cell (by simp [go_sem, *])
  have L2 : Live5 w2 (w.heap.size + 1) (.int .i64 0) (.int .i64 0) (.slice none 0 0) (.slice none 0 0) (.slice none 0 0) := live5_keep k2 ⟨by simp [go_sem, *], by simp [go_sem, *], by simp [go_sem, *], by simp [go_sem, *], by simp [go_sem, *]⟩
  have M2 : Live5 w2 (w.heap.size + 1 + 1) (.int .i64 W) (.int .i64 H) (.slice A1 nt c1) (.slice none 0 0) (.slice none 0 0) := live5_keep k2 ⟨by simp [go_sem, *], by simp [go_sem, *], by simp [go_sem, *], by simp [go_sem, *], by simp [go_sem, *]⟩
  have K2 : Kp w w2 := K1'.trans k2
  have z2 : w.heap.size + 3 ≤ w2.heap.size := by have := k2.size; simp at this; omega
  have O1b := Lib.hid ((O1.out.far (O1.out.not (g := w.heap.size + 1 + 1) (by omega)) (.slice A1 nt c1) (j := 2)).keep k2)
  have D12 : Hid (∀ g, (Value.slice A1 nt c1).ownBlock = some g → (Value.slice A2 nr c2).ownBlock ≠ some g) := Lib.hid fun g hg hg' => by
    have h1 := (World.ownsRow.lt O1.out g hg).2
    have h2 := (World.ownsRow.lt o2 g hg').1
    simp at h2
    omega
  have O2 := Lib.hid (o2.base (b := w.heap.size + 3) (by simp <;> omega))
  clear K1' k2 o2 a3 a4 L1 M1 K1 O1
  go_wp2_with fail
  have K2' : Kp w (w2.setCell ⟨w.heap.size + 1 + 1, 3, none⟩ (.slice A2 nr c2)) := K2.setCell (by simp <;> omega) _
  refine (CD.out _ (HL.out.keep K2').rd).mono ?_
  rintro e3 w3 ⟨A3, c3, rfl, o3, k3⟩
  have L3 : Live5 w3 (w.heap.size + 1) (.int .i64 0) (.int .i64 0) (.slice none 0 0) (.slice none 0 0) (.slice none 0 0) := live5_keep k3 ⟨by simp [go_sem, *], by simp [go_sem, *], by simp [go_sem, *], by simp [go_sem, *], by simp [go_sem, *]⟩
  have M3 : Live5 w3 (w.heap.size + 1 + 1) (.int .i64 W) (.int .i64 H) (.slice A1 nt c1) (.slice A2 nr c2) (.slice none 0 0) := live5_keep k3 ⟨by simp [go_sem, *], by simp [go_sem, *], by simp [go_sem, *], by simp [go_sem, *], by simp [go_sem, *]⟩
  have K3 : Kp w w3 := K2'.trans k3
  have O1c := Lib.hid ((O1b.out.far (O1b.out.not (g := w.heap.size + 1 + 1) (by omega)) (.slice A2 nr c2) (j := 3)).keep k3)
  have O2b := Lib.hid ((O2.out.far (O2.out.not (g := w.heap.size + 1 + 1) (by omega)) (.slice A2 nr c2) (j := 3)).keep k3)
  have D13 : Hid (∀ g, (Value.slice A1 nt c1).ownBlock = some g → (Value.slice A3 nd c3).ownBlock ≠ some g) := Lib.hid fun g hg hg' => by
    have h1 := (World.ownsRow.lt O1b.out g hg).2
    have h2 := (World.ownsRow.lt o3 g hg').1
    simp at h2
    omega
  have D23 : Hid (∀ g, (Value.slice A2 nr c2).ownBlock = some g → (Value.slice A3 nd c3).ownBlock ≠ some g) := Lib.hid fun g hg hg' => by
    have h1 := (World.ownsRow.lt O2.out g hg).2
    have h2 := (World.ownsRow.lt o3 g hg').1
    simp at h2
    omega
  have O3 := Lib.hid (o3.base (b := w.heap.size + 3) (by simp <;> omega))
  clear K2' k3 o3 b4 L2 M2 K2 O1b O2
  go_wp2_with fail
  have n1 : ∀ g, g < w.heap.size + 3 → (Value.slice A1 nt c1).ownBlock ≠ some g := fun g hg => O1c.out.not (by omega)
  have n2 : ∀ g, g < w.heap.size + 3 → (Value.slice A2 nr c2).ownBlock ≠ some g := fun g hg => O2b.out.not (by omega)
  have n3 : ∀ g, g < w.heap.size + 3 → (Value.slice A3 nd c3).ownBlock ≠ some g := fun g hg => O3.out.not (by omega)
  refine bodyPost_ret (v := mp W H (.slice A1 nt c1) (.slice A2 nr c2) (.slice A3 nd c3)) (by simp [results, Tryd.results30, go_sem, *]) rfl ⟨_, _, _, rfl, ⟨?_, ?_, ?_, D12.out, D13.out, D23.out⟩, ?_⟩
  · exact ((((((O1c.out.far (n1 _ (by omega)) _).far (n1 _ (by omega)) _).far (n1 _ (by omega)) _).far (n1 _ (by omega)) _).far (n1 _ (by omega)) _).far (n1 _ (by omega)) _).base (by omega)
  · exact ((((((O2b.out.far (n2 _ (by omega)) _).far (n2 _ (by omega)) _).far (n2 _ (by omega)) _).far (n2 _ (by omega)) _).far (n2 _ (by omega)) _).far (n2 _ (by omega)) _).base (by omega)
  · exact ((((((O3.out.far (n3 _ (by omega)) _).far (n3 _ (by omega)) _).far (n3 _ (by omega)) _).far (n3 _ (by omega)) _).far (n3 _ (by omega)) _).far (n3 _ (by omega)) _).base (by omega)
  · exact (((((K3.setCell (by simp <;> omega) _).setCell (by simp <;> omega) _).setCell (by simp <;> omega) _).setCell (by simp <;> omega) _).setCell (by simp <;> omega) _).setCell (by simp <;> omega) _

end Go.Proofs.YtcdfbcmfpeceeaaDoor
