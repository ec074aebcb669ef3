/-
  The program's lists of edges and its test of a map return what plain functions on lists say, and change nothing that was there. The table of directions holds what the program's text lays.
-/
import Derived.Test.YtcdfbcmfpeceeaaDoorMapJ
namespace Go.Proofs.YtcdfbcmfpeceeaaDoor
open Go.RowKit

theorem Tab.k5 {w w' : World} {b : Nat} {v0 v1 v2 v3 v4 : Value} (ht : Tab w)
    (h : w'.cell? ⟨b, 0, none⟩ = some v0 ∧ w'.cell? ⟨b, 1, none⟩ = some v1 ∧ w'.cell? ⟨b, 2, none⟩ = some v2 ∧ w'.cell? ⟨b, 3, none⟩ = some v3 ∧ w'.cell? ⟨b, 4, none⟩ = some v4 ∧ Kp w w') : Tab w' := ht.keep h.2.2.2.2.2

theorem edgesFrom_no1 {W H p x : Int} {l : List Int} (h : edgeB W H x = false) : edgesFrom W H p (x :: l) = false := by simp [edgesFrom, h]
theorem edgesFrom_no2 {W H p x : Int} {l : List Int} (h : ¬ p < x) : edgesFrom W H p (x :: l) = false := by simp [edgesFrom, h]
theorem edgesFrom_go {W H p x : Int} {l : List Int} (h : edgeB W H x = true) (h' : p < x) : edgesFrom W H p (x :: l) = edgesFrom W H x l := by simp [edgesFrom, h, h']

theorem areEdges_any (W H : Int) (t r d v : Value) (l : List Int) (w : World) (a : 1 ≤ W) (b : W ≤ 10) (c : 1 ≤ H) (e : H ≤ 10) (ht : Tab w) (h : RdI w v l) (hB : ∀ x ∈ l, isI64 x) (hl : l.length ≤ 1048576) :
    Calls Tryd.prog 114 #[mp W H t r d, v] w fun e w' => e = .returned (.bool (edgesOk W H l)) ∧ Kp w w' := by
  obtain ⟨A, cp, rfl, h⟩ := h
  have HA := Lib.hid h
  have HB := Lib.hid hB
  have HT := Lib.hid ht
  obtain ⟨R, hR⟩ : ∃ R, R = edgesOk W H l := ⟨_, rfl⟩
  rw [← hR]
  have HR := Lib.hid hR
  clear h hB ht hR
  generalize hn : l.length = n at *
  have HN := Lib.hid hn
  clear hn
  have s0 := new5 w (.int .i64 W) (.int .i64 H) t r d 44
  go_enter Tryd.func114, Tryd.ntmps114
  go_wp2_with fail
  go_loopw [5, 13] (fun q i wr => ∃ (k : Nat) (p : Int), k ≤ n ∧ i = .int .i64 k ∧ q = .int .i64 p ∧ Hid (edgesFrom W H p (l.drop k) = R) ∧
    (wr.cell? ⟨w.heap.size, 0, none⟩ = some (.int .i64 W) ∧ wr.cell? ⟨w.heap.size, 1, none⟩ = some (.int .i64 H) ∧ wr.cell? ⟨w.heap.size, 2, none⟩ = some t ∧ wr.cell? ⟨w.heap.size, 3, none⟩ = some r ∧ wr.cell? ⟨w.heap.size, 4, none⟩ = some d ∧ Kp w wr)) (fun _ i _ => n - (intOf i).toNat)
  case atStart => exact ⟨0, -1, by omega, rfl, rfl, Lib.hid (by rw [HR.out]; rfl), s0⟩
  case round =>
    clear s0
    obtain ⟨k, p, hk, rfl, rfl, hE, sr⟩ := hrel
    by_cases hlt : k < n
    · obtain ⟨g, off, rfl, hc⟩ := HA.out (by omega)
      obtain ⟨x, hx⟩ : ∃ x, l[k]? = some x := ⟨l[k]'(by have := HN.out; omega), List.getElem?_eq_getElem _⟩
      have a0 := sr.2.2.2.2.2.cell (hc k x hx)
      have HX := Lib.hid (drop_step hx)
      have Hx := Lib.hid (HB.out x (List.mem_of_getElem? hx))
      clear hc hx
      have hlt' : (k : Int) < n := by omega
      cases hok : edgeB W H x
      · go_wp2_with fail
        refine (edgeEnds_any _ _ _ _ _ _ _ a b c e (HT.out.k5 sr) Hx.out).mono ?_
        rintro e1 wa ⟨rfl, ka⟩
        go_wp2_with fail
        go_ret
        have e : R = false := by rw [← hE.out, HX.out]; exact edgesFrom_no1 hok
        exact ⟨ret_bool e.symm, sr.2.2.2.2.2.trans ka⟩
      · by_cases hp : p < x
        · have hp' : decide (x ≤ p) = false := by simp; omega
          have HE2 : Hid (edgesFrom W H x (l.drop (k + 1)) = R) := Lib.hid (by rw [← hE.out, HX.out]; exact (edgesFrom_go hok hp).symm)
          go_wp2_with fail
          refine (edgeEnds_any _ _ _ _ _ _ _ a b c e (HT.out.k5 sr) Hx.out).mono ?_
          rintro e1 wa ⟨rfl, ka⟩
          have sa := keep5 ka sr
          go_wp2_with fail
          go_roundw
          case rel => exact ⟨k + 1, x, by omega, by go_num, rfl, HE2, sa⟩
          case measure => simp [intOf]; omega
        · have hp' : x ≤ p := by omega
          have e : R = false := by rw [← hE.out, HX.out]; exact edgesFrom_no2 hp
          have HE2 := Lib.hid e
          clear e
          go_wp2_with fail
          refine (edgeEnds_any _ _ _ _ _ _ _ a b c ‹_› (HT.out.k5 sr) Hx.out).mono ?_
          rintro e1 wa ⟨rfl, ka⟩
          go_wp2_with fail
          go_ret
          exact ⟨ret_bool HE2.out.symm, sr.2.2.2.2.2.trans ka⟩
    · obtain rfl : k = n := by omega
      go_wp2_with fail
      go_ret
      refine ⟨ret_bool ?_, sr.2.2.2.2.2⟩
      rw [← hE.out, List.drop_of_length_le (by rw [HN.out]; omega)]
      rfl

theorem edgeListsOf_any (W H : Int) (t : Value) (Ar Ad : Option Addr) (nr cr nd cd : Nat) (w : World) :
    Calls Tryd.prog 113 #[mp W H t (.slice Ar nr cr) (.slice Ad nd cd)] w fun e w' => e = .returned (.agg #[.slice Ar nr cr, .slice Ad nd cd]) ∧ Kp w w' := by
  go_enter Tryd.func113, Tryd.ntmps113
  go_wp2
  exact bodyPost_ret (v := .agg #[.slice Ar nr cr, .slice Ad nd cd]) (by simp [results, Tryd.results113, go_sem]) rfl ⟨rfl, ((Kp.refl _).alloc _).alloc _⟩

/-- What a map's three lists are: slices that read as lists of numbers of 64 bits. -/
structure Lists (w : World) (t r d : Value) (lt lr ld : List Int) : Prop where
  rt : RdI w t lt
  rr : RdI w r lr
  rd : RdI w d ld
  bt : lt.length ≤ 1048576
  br : lr.length ≤ 1048576
  bd : ld.length ≤ 1048576
  it : ∀ x ∈ lt, isI64 x
  ir : ∀ x ∈ lr, isI64 x
  id : ∀ x ∈ ld, isI64 x
theorem Lists.keep {w w' : World} {t r d : Value} {lt lr ld : List Int} (h : Lists w t r d lt lr ld) (k : Kp w w') : Lists w' t r d lt lr ld :=
  ⟨h.rt.keep k, h.rr.keep k, h.rd.keep k, h.bt, h.br, h.bd, h.it, h.ir, h.id⟩

theorem index0 (r d : Value) (w : World) : (Instr.index 115 (.agg #[r, d]) (.int .i64 0)).run Tryd.prog w = .ok r w := by kernel_rfl
theorem index1 (r d : Value) (w : World) : (Instr.index 115 (.agg #[r, d]) (.int .i64 1)).run Tryd.prog w = .ok d w := by kernel_rfl

end Go.Proofs.YtcdfbcmfpeceeaaDoor
