/-
  The laws' own functions on maps: the size, the copy (in memory of its own), the comparison of two maps that read as the same lists. Nothing that was there is changed.
-/
import Derived.Test.YtcdfbcmfpeceeaaDoorMapK
import Derived.Test.YtcdfbcmfpeceeaaDoorOpenI
import Derived.OpenShut
namespace Go.Proofs.YtcdfbcmfpeceeaaDoor
open Go.RowKit

/-- Three slices that the call owns, in blocks of their own from a number on. -/
structure Own3 (w : World) (base : Nat) (t r d : Value) (lt lr ld : List Int) : Prop where
  ot : OwnI w base t lt
  or : OwnI w base r lr
  od : OwnI w base d ld
  tr : ∀ g, t.ownBlock = some g → r.ownBlock ≠ some g
  td : ∀ g, t.ownBlock = some g → d.ownBlock ≠ some g
  rd : ∀ g, r.ownBlock = some g → d.ownBlock ≠ some g
theorem Own3.keep {w w' : World} {base : Nat} {t r d : Value} {lt lr ld : List Int} (h : Own3 w base t r d lt lr ld) (k : Kp w w') : Own3 w' base t r d lt lr ld :=
  ⟨h.ot.keep k, h.or.keep k, h.od.keep k, h.tr, h.td, h.rd⟩

abbrev Live5 (w : World) (b : Nat) (v0 v1 v2 v3 v4 : Value) : Prop :=
  (w.cell? ⟨b, 0, none⟩ = some v0 ∧ w.frozen? ⟨b, 0, none⟩ = false) ∧ (w.cell? ⟨b, 1, none⟩ = some v1 ∧ w.frozen? ⟨b, 1, none⟩ = false) ∧ (w.cell? ⟨b, 2, none⟩ = some v2 ∧ w.frozen? ⟨b, 2, none⟩ = false) ∧ (w.cell? ⟨b, 3, none⟩ = some v3 ∧ w.frozen? ⟨b, 3, none⟩ = false) ∧ (w.cell? ⟨b, 4, none⟩ = some v4 ∧ w.frozen? ⟨b, 4, none⟩ = false)
theorem live5_keep {w w' : World} {b : Nat} {v0 v1 v2 v3 v4 : Value} (k : Kp w w') (h : Live5 w b v0 v1 v2 v3 v4) : Live5 w' b v0 v1 v2 v3 v4 :=
  ⟨k.liv h.1, k.liv h.2.1, k.liv h.2.2.1, k.liv h.2.2.2.1, k.liv h.2.2.2.2⟩

def szTot (a b c : Nat) : Int := if a + b + c ≤ 1048576 then 1048576 - (a + b + c : Nat) else -1

theorem szMap_any (W H : Int) (At Ar Ad : Option Addr) (nt ct nr cr nd cd : Nat) (w : World) (h1 : nt ≤ 9223372036854775807) (h2 : nr ≤ 9223372036854775807) (h3 : nd ≤ 9223372036854775807) :
    Calls Tryd.prog 28 #[mp W H (.slice At nt ct) (.slice Ar nr cr) (.slice Ad nd cd), .int .i64 1048576] w fun e w' => e = .returned (.int .i64 (szTot nt nr nd)) ∧ Kp w w' := by
  have fin : ∀ x : Int, szTot nt nr nd = x → Ending.returned (.int .i64 x) = .returned (.int .i64 (szTot nt nr nd)) := fun x h => by rw [h]
  have HF := Lib.hid fin
  clear fin
  by_cases a1 : nt ≤ 1048576
  · by_cases a2 : nt + nr ≤ 1048576
    · by_cases a3 : nt + nr + nd ≤ 1048576
      · go_enter Tryd.func28, Tryd.ntmps28
        go_wp2_with fail
        refine (szIntS_yes _ _ _ _ _ (by omega) (by omega) (by omega)).mono ?_
        rintro e1 w1 ⟨rfl, rfl⟩
        go_wp2_with fail
        refine (szIntS_yes _ _ _ _ _ (by omega) (by omega) (by omega)).mono ?_
        rintro e1 w1 ⟨rfl, rfl⟩
        go_wp2_with fail
        refine (szIntS_yes _ _ _ _ _ (by omega) (by omega) (by omega)).mono ?_
        rintro e1 w1 ⟨rfl, rfl⟩
        go_wp2_with fail
        go_ret
        exact ⟨HF.out _ (by unfold szTot; rw [if_pos a3]; omega), (Kp.refl _).alloc _⟩
      · go_enter Tryd.func28, Tryd.ntmps28
        go_wp2_with fail
        refine (szIntS_yes _ _ _ _ _ (by omega) (by omega) (by omega)).mono ?_
        rintro e1 w1 ⟨rfl, rfl⟩
        go_wp2_with fail
        refine (szIntS_yes _ _ _ _ _ (by omega) (by omega) (by omega)).mono ?_
        rintro e1 w1 ⟨rfl, rfl⟩
        go_wp2_with fail
        refine (szIntS_no _ _ _ _ _ (by omega) (by omega) (by omega) (by omega)).mono ?_
        rintro e1 w1 ⟨rfl, rfl⟩
        go_wp2_with fail
        go_ret
        exact ⟨HF.out _ (by unfold szTot; rw [if_neg a3]), (Kp.refl _).alloc _⟩
    · go_enter Tryd.func28, Tryd.ntmps28
      go_wp2_with fail
      refine (szIntS_yes _ _ _ _ _ (by omega) (by omega) (by omega)).mono ?_
      rintro e1 w1 ⟨rfl, rfl⟩
      go_wp2_with fail
      refine (szIntS_no _ _ _ _ _ (by omega) (by omega) (by omega) (by omega)).mono ?_
      rintro e1 w1 ⟨rfl, rfl⟩
      go_wp2_with fail
      go_ret
      exact ⟨HF.out _ (by unfold szTot; rw [if_neg (by omega)]), (Kp.refl _).alloc _⟩
  · go_enter Tryd.func28, Tryd.ntmps28
    go_wp2_with fail
    refine (szIntS_no _ _ _ _ _ (by omega) (by omega) (by omega) (by omega)).mono ?_
    rintro e1 w1 ⟨rfl, rfl⟩
    go_wp2_with fail
    go_ret
    exact ⟨HF.out _ (by unfold szTot; rw [if_neg (by omega)]), (Kp.refl _).alloc _⟩

theorem eqMap_same (W H : Int) (ta ra da tb rb db : Value) (lt lr ld : List Int) (w : World) (ha : Lists w ta ra da lt lr ld) (hb : Lists w tb rb db lt lr ld) :
    Calls Tryd.prog 32 #[mp W H ta ra da, mp W H tb rb db] w fun e w' => e = .returned (.bool true) ∧ Kp w w' := by
  have hne : ∀ n : Int, (n != n) = false := fun n => by simp
  have HA := Lib.hid (ha.keep (((Kp.refl w).alloc (.cells #[.int .i64 W, .int .i64 H, ta, ra, da] 44)).alloc (.cells #[.int .i64 W, .int .i64 H, tb, rb, db] 44)))
  have HB := Lib.hid (hb.keep (((Kp.refl w).alloc (.cells #[.int .i64 W, .int .i64 H, ta, ra, da] 44)).alloc (.cells #[.int .i64 W, .int .i64 H, tb, rb, db] 44)))
  clear ha hb
  go_enter Tryd.func32, Tryd.ntmps32
  go_wp2_with fail
  refine (eqIntS_same _ _ lt _ HA.out.rt HB.out.rt HA.out.bt).mono ?_
  rintro e1 w1 ⟨rfl, k1⟩
  have p3 : w1.cell? ⟨w.heap.size, 3, none⟩ = some ra := k1.cell (by simp [go_sem])
  have p4 : w1.cell? ⟨w.heap.size, 4, none⟩ = some da := k1.cell (by simp [go_sem])
  have q3 : w1.cell? ⟨w.heap.size + 1, 3, none⟩ = some rb := k1.cell (by simp [go_sem])
  have q4 : w1.cell? ⟨w.heap.size + 1, 4, none⟩ = some db := k1.cell (by simp [go_sem])
  have K1 : Kp w w1 := (((Kp.refl w).alloc _).alloc _).trans k1
  have HA1 := Lib.hid (HA.out.keep k1)
  have HB1 := Lib.hid (HB.out.keep k1)
  clear HA HB k1
  go_wp2_with fail
  refine (eqIntS_same _ _ lr _ HA1.out.rr HB1.out.rr HA1.out.br).mono ?_
  rintro e2 w2 ⟨rfl, k2⟩
  have r4 := k2.cell p4
  have s4 := k2.cell q4
  clear p3 p4 q3 q4
  go_wp2_with fail
  refine (eqIntS_same _ _ ld _ (HA1.out.keep k2).rd (HB1.out.keep k2).rd HA1.out.bd).mono ?_
  rintro e3 w3 ⟨rfl, k3⟩
  go_wp2_with fail
  go_ret
  exact ⟨rfl, (K1.trans k2).trans k3⟩

end Go.Proofs.YtcdfbcmfpeceeaaDoor
