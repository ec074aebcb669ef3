/-
  The reference's places of names and its test of rules return what plain functions on lists say, and change nothing that was there.
-/
import Derived.Test.YtkkcnofplddbmaaDoorIsRulesI
import Derived.Test.YtkkcnofplddbmaaDoorMapS
namespace Go.Proofs.YtkkcnofplddbmaaDoor
open Go.RowKit

set_option maxRecDepth 100000 in
set_option maxHeartbeats 1000000 in
theorem rTerrain_any (A : Option Addr) (n c : Nat) (l : List Ter) (m : ByteArray) (w : World) (h : RdT w A n l) (hl : n ≤ 1048576) :
    Calls Tryd.prog 64 #[.slice A n c, .string m] w fun e w' => e = .returned (.int .i64 (idxS (tNames l) m)) ∧ Kp w w' := by
  have HN := Lib.hid h.1
  have HA := Lib.hid h.2
  have HLn : Hid ((tNames l).length = n) := Lib.hid (by rw [← h.1]; simp [tNames])
  obtain ⟨R, hR⟩ : ∃ R, R = idxS (tNames l) m := ⟨_, rfl⟩
  rw [← hR]
  have HR := Lib.hid hR
  clear h hR
  go_enter Tryd.func64, Tryd.ntmps64
  go_wp2_with fail
  go_loopw [5, 6, 9] (fun _ _ i wr => ∃ k : Nat, k ≤ n ∧ i = .int .i64 k ∧ Hid (∀ j, j < k → (tNames l).getD j ByteArray.empty ≠ m) ∧ Kp w wr) (fun _ _ i _ => n - (intOf i).toNat)
  case atStart => exact ⟨0, by omega, rfl, Lib.hid fun j hj => absurd hj (by omega), Kp.refl _⟩
  case round =>
    obtain ⟨k, hk, rfl, hE, kr⟩ := hrel
    by_cases hlt : k < n
    · have hlt' : (k : Int) < n := by omega
      obtain ⟨g, off, rfl, hc⟩ := HA.out (by omega)
      obtain ⟨x, hx⟩ : ∃ x, l[k]? = some x := ⟨l[k]'(by have := HN.out; omega), List.getElem?_eq_getElem _⟩
      obtain ⟨Ac, cc, ⟨a0, a1, a2, a3, a4⟩, _⟩ := (hc k x hx).keep kr
      have HX : Hid ((tNames l)[k]? = some x.name) := Lib.hid (by simp [tNames, hx])
      obtain ⟨nm, cs, sh, hg, bl⟩ := x
      simp only at a0 a1 a2 a3 a4 HX
      generalize cs.length = nc at a1
      clear hc hx
      have KA : Kp wr (wr.alloc (.cells #[.string nm, .slice Ac nc cc, .int .i64 sh, .int .i64 hg, .bool bl] 79)) := (Kp.refl wr).alloc _
      by_cases hok : nm = m
      · have HE2 : Hid (R = (k : Int)) := Lib.hid (by rw [HR.out]; exact idxS_hit (by rw [← hok]; exact HX.out) hE.out)
        have he : (nm.toList == m.toList) = true := (Lib.bytes_beq_iff nm m).2 hok
        clear hok
        go_wp2_with fail
        go_ret
        exact ⟨ret_int HE2.out.symm, kr.trans KA⟩
      · have HE2 := Lib.hid (not_more HX.out hok hE.out)
        have he : (nm.toList == m.toList) = false := (Lib.bytes_beq_false_iff nm m).2 hok
        clear hok
        go_wp2_with fail
        go_roundw
        case rel => exact ⟨k + 1, by omega, by go_num, HE2, kr.trans KA⟩
        case measure => simp [intOf]; omega
    · obtain rfl : k = n := by omega
      go_wp2_with fail
      go_ret
      refine ⟨ret_int ?_, kr⟩
      rw [HR.out, idxS_miss (fun j hj => hE.out j (by have := HLn.out; omega))]

set_option maxRecDepth 100000 in
set_option maxHeartbeats 1000000 in
theorem rKind_any (A : Option Addr) (n c : Nat) (l : List Knd) (m : ByteArray) (w : World) (h : RdK w A n l) (hl : n ≤ 1048576) :
    Calls Tryd.prog 66 #[.slice A n c, .string m] w fun e w' => e = .returned (.int .i64 (idxS (kNames l) m)) ∧ Kp w w' := by
  have HN := Lib.hid h.1
  have HA := Lib.hid h.2
  have HLn : Hid ((kNames l).length = n) := Lib.hid (by rw [← h.1]; simp [kNames])
  obtain ⟨R, hR⟩ : ∃ R, R = idxS (kNames l) m := ⟨_, rfl⟩
  rw [← hR]
  have HR := Lib.hid hR
  clear h hR
  go_enter Tryd.func66, Tryd.ntmps66
  go_wp2_with fail
  go_loopw [5, 6, 9] (fun _ _ i wr => ∃ k : Nat, k ≤ n ∧ i = .int .i64 k ∧ Hid (∀ j, j < k → (kNames l).getD j ByteArray.empty ≠ m) ∧ Kp w wr) (fun _ _ i _ => n - (intOf i).toNat)
  case atStart => exact ⟨0, by omega, rfl, Lib.hid fun j hj => absurd hj (by omega), Kp.refl _⟩
  case round =>
    obtain ⟨k, hk, rfl, hE, kr⟩ := hrel
    by_cases hlt : k < n
    · have hlt' : (k : Int) < n := by omega
      obtain ⟨g, off, rfl, hc⟩ := HA.out (by omega)
      obtain ⟨x, hx⟩ : ∃ x, l[k]? = some x := ⟨l[k]'(by have := HN.out; omega), List.getElem?_eq_getElem _⟩
      obtain ⟨a0, a1, a2, a3, a4, a5⟩ := (hc k x hx).keep kr
      have HX : Hid ((kNames l)[k]? = some x.name) := Lib.hid (by simp [kNames, hx])
      obtain ⟨nm, ks, km, kt, kz, kw⟩ := x
      simp only at a0 a1 a2 a3 a4 a5 HX
      clear hc hx
      have KA : Kp wr (wr.alloc (.cells #[.string nm, .int .i64 ks, .int .i64 km, .int .i64 kt, .bool kz, .int .i64 kw] 81)) := (Kp.refl wr).alloc _
      by_cases hok : nm = m
      · have HE2 : Hid (R = (k : Int)) := Lib.hid (by rw [HR.out]; exact idxS_hit (by rw [← hok]; exact HX.out) hE.out)
        have he : (nm.toList == m.toList) = true := (Lib.bytes_beq_iff nm m).2 hok
        clear hok
        go_wp2_with fail
        go_ret
        exact ⟨ret_int HE2.out.symm, kr.trans KA⟩
      · have HE2 := Lib.hid (not_more HX.out hok hE.out)
        have he : (nm.toList == m.toList) = false := (Lib.bytes_beq_false_iff nm m).2 hok
        clear hok
        go_wp2_with fail
        go_roundw
        case rel => exact ⟨k + 1, by omega, by go_num, HE2, kr.trans KA⟩
        case measure => simp [intOf]; omega
    · obtain rfl : k = n := by omega
      go_wp2_with fail
      go_ret
      refine ⟨ret_int ?_, kr⟩
      rw [HR.out, idxS_miss (fun j hj => hE.out j (by have := HLn.out; omega))]

set_option maxRecDepth 100000 in
set_option maxHeartbeats 2000000 in
theorem rGood_no1 (At Ak : Option Addr) (nt nk ct ck : Nat) (l : List Ter) (m : List Knd) (a b c d e : Int) (w : World) (h : RulAt w At Ak nt nk l m) (h1 : spB 1 6 nt = false) :
    Calls Tryd.prog 51 #[rv (.slice At nt ct) (.slice Ak nk ck) a b c d e] w fun e' w' => e' = .returned (.bool false) ∧ Kp w w' := by
  have s0 : (w.alloc (.cells #[.slice At nt ct, .slice Ak nk ck, .int .i64 a, .int .i64 b, .int .i64 c, .int .i64 d, .int .i64 e] 31)).cell? ⟨w.heap.size, 0, none⟩ = some (.slice At nt ct) ∧ (w.alloc (.cells #[.slice At nt ct, .slice Ak nk ck, .int .i64 a, .int .i64 b, .int .i64 c, .int .i64 d, .int .i64 e] 31)).cell? ⟨w.heap.size, 1, none⟩ = some (.slice Ak nk ck) ∧ (w.alloc (.cells #[.slice At nt ct, .slice Ak nk ck, .int .i64 a, .int .i64 b, .int .i64 c, .int .i64 d, .int .i64 e] 31)).cell? ⟨w.heap.size, 2, none⟩ = some (.int .i64 a) ∧ (w.alloc (.cells #[.slice At nt ct, .slice Ak nk ck, .int .i64 a, .int .i64 b, .int .i64 c, .int .i64 d, .int .i64 e] 31)).cell? ⟨w.heap.size, 3, none⟩ = some (.int .i64 b) ∧ (w.alloc (.cells #[.slice At nt ct, .slice Ak nk ck, .int .i64 a, .int .i64 b, .int .i64 c, .int .i64 d, .int .i64 e] 31)).cell? ⟨w.heap.size, 4, none⟩ = some (.int .i64 c) ∧ (w.alloc (.cells #[.slice At nt ct, .slice Ak nk ck, .int .i64 a, .int .i64 b, .int .i64 c, .int .i64 d, .int .i64 e] 31)).cell? ⟨w.heap.size, 5, none⟩ = some (.int .i64 d) ∧ (w.alloc (.cells #[.slice At nt ct, .slice Ak nk ck, .int .i64 a, .int .i64 b, .int .i64 c, .int .i64 d, .int .i64 e] 31)).cell? ⟨w.heap.size, 6, none⟩ = some (.int .i64 e) ∧ Kp w (w.alloc (.cells #[.slice At nt ct, .slice Ak nk ck, .int .i64 a, .int .i64 b, .int .i64 c, .int .i64 d, .int .i64 e] 31)) :=
    ⟨by simp [go_sem], by simp [go_sem], by simp [go_sem], by simp [go_sem], by simp [go_sem], by simp [go_sem], by simp [go_sem], (Kp.refl w).alloc _⟩
  have HL := Lib.hid h
  have hb1 := h.bt
  have hb2 := h.bk
  clear h
  go_enter Tryd.func51, Tryd.ntmps51
  go_wp2_with fail
  generalize w.alloc (.cells #[.slice At nt ct, .slice Ak nk ck, .int .i64 a, .int .i64 b, .int .i64 c, .int .i64 d, .int .i64 e] 31) = W0 at *
  refine (l1In_sp _ _ _ _).mono ?_
  rintro e1 w1 ⟨rfl, rfl⟩
  go_wp2_with fail
  go_ret
  exact ⟨rfl, s0.2.2.2.2.2.2.2⟩

set_option maxRecDepth 100000 in
set_option maxHeartbeats 2000000 in
theorem rGood_no2 (At Ak : Option Addr) (nt nk ct ck : Nat) (l : List Ter) (m : List Knd) (a b c d e : Int) (w : World) (h : RulAt w At Ak nt nk l m) (h1 : spB 1 6 nt = true) (h2 : spB 1 4 nk = false) :
    Calls Tryd.prog 51 #[rv (.slice At nt ct) (.slice Ak nk ck) a b c d e] w fun e' w' => e' = .returned (.bool false) ∧ Kp w w' := by
  have s0 : (w.alloc (.cells #[.slice At nt ct, .slice Ak nk ck, .int .i64 a, .int .i64 b, .int .i64 c, .int .i64 d, .int .i64 e] 31)).cell? ⟨w.heap.size, 0, none⟩ = some (.slice At nt ct) ∧ (w.alloc (.cells #[.slice At nt ct, .slice Ak nk ck, .int .i64 a, .int .i64 b, .int .i64 c, .int .i64 d, .int .i64 e] 31)).cell? ⟨w.heap.size, 1, none⟩ = some (.slice Ak nk ck) ∧ (w.alloc (.cells #[.slice At nt ct, .slice Ak nk ck, .int .i64 a, .int .i64 b, .int .i64 c, .int .i64 d, .int .i64 e] 31)).cell? ⟨w.heap.size, 2, none⟩ = some (.int .i64 a) ∧ (w.alloc (.cells #[.slice At nt ct, .slice Ak nk ck, .int .i64 a, .int .i64 b, .int .i64 c, .int .i64 d, .int .i64 e] 31)).cell? ⟨w.heap.size, 3, none⟩ = some (.int .i64 b) ∧ (w.alloc (.cells #[.slice At nt ct, .slice Ak nk ck, .int .i64 a, .int .i64 b, .int .i64 c, .int .i64 d, .int .i64 e] 31)).cell? ⟨w.heap.size, 4, none⟩ = some (.int .i64 c) ∧ (w.alloc (.cells #[.slice At nt ct, .slice Ak nk ck, .int .i64 a, .int .i64 b, .int .i64 c, .int .i64 d, .int .i64 e] 31)).cell? ⟨w.heap.size, 5, none⟩ = some (.int .i64 d) ∧ (w.alloc (.cells #[.slice At nt ct, .slice Ak nk ck, .int .i64 a, .int .i64 b, .int .i64 c, .int .i64 d, .int .i64 e] 31)).cell? ⟨w.heap.size, 6, none⟩ = some (.int .i64 e) ∧ Kp w (w.alloc (.cells #[.slice At nt ct, .slice Ak nk ck, .int .i64 a, .int .i64 b, .int .i64 c, .int .i64 d, .int .i64 e] 31)) :=
    ⟨by simp [go_sem], by simp [go_sem], by simp [go_sem], by simp [go_sem], by simp [go_sem], by simp [go_sem], by simp [go_sem], (Kp.refl w).alloc _⟩
  have HL := Lib.hid h
  have hb1 := h.bt
  have hb2 := h.bk
  clear h
  go_enter Tryd.func51, Tryd.ntmps51
  go_wp2_with fail
  generalize w.alloc (.cells #[.slice At nt ct, .slice Ak nk ck, .int .i64 a, .int .i64 b, .int .i64 c, .int .i64 d, .int .i64 e] 31) = W0 at *
  refine (l1In_sp _ _ _ _).mono ?_
  rintro e1 w1 ⟨rfl, rfl⟩
  go_wp2_with fail
  refine (l1In_sp _ _ _ _).mono ?_
  rintro e2 w2 ⟨rfl, rfl⟩
  go_wp2_with fail
  go_ret
  exact ⟨rfl, s0.2.2.2.2.2.2.2⟩

theorem l1All_sp (v : Value) (l : List Int) (lo hi : Int) (w : World) (h : RdI w v l) (hl : l.length ≤ 1048576) :
    Calls Tryd.prog 93 #[v, .int .i64 lo, .int .i64 hi] w fun e w' => e = .returned (.bool (l.all (spB lo hi))) ∧ w = w' := l1All_any v l lo hi w h hl
theorem upto_more {f : Nat → Bool} {k : Nat} (h : f k = true) (hn : ∀ j, j < k → f j = true) : ∀ j, j < k + 1 → f j = true := fun j hj => by
  rcases Nat.lt_or_ge j k with h1 | h1
  · exact hn j h1
  · obtain rfl : j = k := by omega
    exact h

set_option maxRecDepth 100000 in
set_option maxHeartbeats 16000000 in
theorem rGood_yes (At Ak : Option Addr) (nt nk ct ck : Nat) (l : List Ter) (m : List Knd) (a b c d e : Int) (w : World) (h : RulAt w At Ak nt nk l m) (h1 : spB 1 6 nt = true) (h2 : spB 1 4 nk = true) :
    Calls Tryd.prog 51 #[rv (.slice At nt ct) (.slice Ak nk ck) a b c d e] w fun e' w' => e' = .returned (.bool (allN nt (terF l nk) && (allN nk (kndF m) && limB a b c d e))) ∧ Kp w w' := by
  have s0 : (w.alloc (.cells #[.slice At nt ct, .slice Ak nk ck, .int .i64 a, .int .i64 b, .int .i64 c, .int .i64 d, .int .i64 e] 31)).cell? ⟨w.heap.size, 0, none⟩ = some (.slice At nt ct) ∧ (w.alloc (.cells #[.slice At nt ct, .slice Ak nk ck, .int .i64 a, .int .i64 b, .int .i64 c, .int .i64 d, .int .i64 e] 31)).cell? ⟨w.heap.size, 1, none⟩ = some (.slice Ak nk ck) ∧ (w.alloc (.cells #[.slice At nt ct, .slice Ak nk ck, .int .i64 a, .int .i64 b, .int .i64 c, .int .i64 d, .int .i64 e] 31)).cell? ⟨w.heap.size, 2, none⟩ = some (.int .i64 a) ∧ (w.alloc (.cells #[.slice At nt ct, .slice Ak nk ck, .int .i64 a, .int .i64 b, .int .i64 c, .int .i64 d, .int .i64 e] 31)).cell? ⟨w.heap.size, 3, none⟩ = some (.int .i64 b) ∧ (w.alloc (.cells #[.slice At nt ct, .slice Ak nk ck, .int .i64 a, .int .i64 b, .int .i64 c, .int .i64 d, .int .i64 e] 31)).cell? ⟨w.heap.size, 4, none⟩ = some (.int .i64 c) ∧ (w.alloc (.cells #[.slice At nt ct, .slice Ak nk ck, .int .i64 a, .int .i64 b, .int .i64 c, .int .i64 d, .int .i64 e] 31)).cell? ⟨w.heap.size, 5, none⟩ = some (.int .i64 d) ∧ (w.alloc (.cells #[.slice At nt ct, .slice Ak nk ck, .int .i64 a, .int .i64 b, .int .i64 c, .int .i64 d, .int .i64 e] 31)).cell? ⟨w.heap.size, 6, none⟩ = some (.int .i64 e) ∧ Kp w (w.alloc (.cells #[.slice At nt ct, .slice Ak nk ck, .int .i64 a, .int .i64 b, .int .i64 c, .int .i64 d, .int .i64 e] 31)) :=
    ⟨by simp [go_sem], by simp [go_sem], by simp [go_sem], by simp [go_sem], by simp [go_sem], by simp [go_sem], by simp [go_sem], (Kp.refl w).alloc _⟩
  have HL := Lib.hid h
  have hb1 := h.bt
  have hb2 := h.bk
  clear h
  obtain ⟨R, hR⟩ : ∃ R, R = allN nt (terF l nk) := ⟨_, rfl⟩
  obtain ⟨Q, hQ⟩ : ∃ Q, Q = allN nk (kndF m) := ⟨_, rfl⟩
  rw [← hR, ← hQ]
  have HR := Lib.hid hR
  have HQ := Lib.hid hQ
  have HNt := Lib.hid HL.out.rt.1
  have HNk := Lib.hid HL.out.rk.1
  have HAt := Lib.hid HL.out.rt.2
  have HAk := Lib.hid HL.out.rk.2
  clear hR hQ
  go_enter Tryd.func51, Tryd.ntmps51
  go_wp2_with fail
  generalize w.alloc (.cells #[.slice At nt ct, .slice Ak nk ck, .int .i64 a, .int .i64 b, .int .i64 c, .int .i64 d, .int .i64 e] 31) = W0 at *
  refine (l1In_sp _ _ _ _).mono ?_
  rintro e1 w1 ⟨rfl, rfl⟩
  go_wp2_with fail
  refine (l1In_sp _ _ _ _).mono ?_
  rintro e2 w2 ⟨rfl, rfl⟩
  go_wp2_with fail
  go_loopw [3, 4, 22] (fun _ _ i wr => ∃ k : Nat, k ≤ nt ∧ i = .int .i64 k ∧ Hid (∀ j, j < k → terF l nk j = true) ∧ Kp W0 wr) (fun _ _ i _ => nt - (intOf i).toNat)
  case atStart => exact ⟨0, by omega, rfl, Lib.hid fun j hj => absurd hj (by omega), Kp.refl _⟩
  case round =>
    obtain ⟨k, hk, rfl, hE, kr⟩ := hrel
    have K0 : Kp w wr := s0.2.2.2.2.2.2.2.trans kr
    by_cases hlt : k < nt
    · have hlt' : (k : Int) < nt := by omega
      obtain ⟨g, off, rfl, hc⟩ := HAt.out (by omega)
      obtain ⟨x, hx⟩ : ∃ x, l[k]? = some x := ⟨l[k]'(by have := HNt.out; omega), List.getElem?_eq_getElem _⟩
      obtain ⟨Ac, cc, ⟨a0, a1, a2, a3, a4⟩, hri⟩ := (hc k x hx).keep K0
      have HX := Lib.hid hx
      obtain ⟨hcb, hnb⟩ := HL.out.bc x (List.mem_of_getElem? hx)
      obtain ⟨nm, cs, sh, hg, bl⟩ := x
      simp only at a0 a1 a2 a3 a4 hri hcb hnb
      have hcb2 := hcb
      have c0 := kr.cell s0.1
      have c1 := kr.cell s0.2.1
      have hz := cell_lt c1
      generalize hnc : cs.length = nc at a1 hri hcb
      have HNC2 := Lib.hid hnc
      clear hc hx hnc
      have KA : Kp wr (wr.alloc (.cells #[.string nm, .slice Ac nc cc, .int .i64 sh, .int .i64 hg, .bool bl] 79)) := (Kp.refl wr).alloc _
      have HRI := Lib.hid (hri.keep KA)
      have g1 : (wr.alloc (.cells #[.string nm, .slice Ac nc cc, .int .i64 sh, .int .i64 hg, .bool bl] 79)).cell? ⟨wr.heap.size, 1, none⟩ = some (.slice Ac nc cc) := by simp [go_sem]
      have g2 : (wr.alloc (.cells #[.string nm, .slice Ac nc cc, .int .i64 sh, .int .i64 hg, .bool bl] 79)).cell? ⟨wr.heap.size, 2, none⟩ = some (.int .i64 sh) := by simp [go_sem]
      have g3 : (wr.alloc (.cells #[.string nm, .slice Ac nc cc, .int .i64 sh, .int .i64 hg, .bool bl] 79)).cell? ⟨wr.heap.size, 3, none⟩ = some (.int .i64 hg) := by simp [go_sem]
      have f1 := KA.cell c1
      clear hri
      cases p1 : nameOk nm
      · have HF : Hid (R = false) := Lib.hid (by rw [HR.out]; exact allN_no (k := k) (by have := HNt.out; omega) (by rw [terF_at HX.out]; simp only [terAt, p1]; rfl))
        go_wp2_with fail
        refine (rName_any _ _ hnb).mono ?_; rintro e3 w3 ⟨rfl, rfl⟩
        go_wp2_with fail
        go_ret
        exact ⟨ret_bool (by rw [HF.out]; rfl), s0.2.2.2.2.2.2.2.trans (kr.trans KA)⟩
      · skip
        cases p2 : decide (idxS (tNames l) nm = (k : Int))
        · have HF : Hid (R = false) := Lib.hid (by rw [HR.out]; exact allN_no (k := k) (by have := HNt.out; omega) (by rw [terF_at HX.out]; simp only [terAt, p1, p2]; rfl))
          have q2 : (idxS (tNames l) nm != (k : Int)) = true := by simpa using p2
          go_wp2_with fail
          refine (rName_any _ _ hnb).mono ?_; rintro e3 w3 ⟨rfl, rfl⟩
          go_wp2_with fail
          refine (rTerrain_any _ _ _ l _ _ (HL.out.keep (K0.trans KA)).rt hb1).mono ?_; rintro e4 w4 ⟨rfl, k4⟩
          have t1 := k4.cell g1; have t2 := k4.cell g2; have t3 := k4.cell g3; have d1 := k4.cell f1
          have HR4 := Lib.hid (HRI.out.keep k4)
          go_wp2_with fail
          go_ret
          exact ⟨ret_bool (by rw [HF.out]; rfl), s0.2.2.2.2.2.2.2.trans ((kr.trans KA).trans k4)⟩
        · have q2 : (idxS (tNames l) nm != (k : Int)) = false := by simpa using p2
          cases p3 : decide (cs.length = nk)
          · have HF : Hid (R = false) := Lib.hid (by rw [HR.out]; exact allN_no (k := k) (by have := HNt.out; omega) (by rw [terF_at HX.out]; simp only [terAt, p1, p2, p3]; rfl))
            have q3 : ((nc : Int) != (nk : Int)) = true := by have := HNC2.out; simp at p3; simp; omega
            have q3' : (nc != nk) = true := by have := HNC2.out; simp at p3; simp; omega
            go_wp2_with fail
            refine (rName_any _ _ hnb).mono ?_; rintro e3 w3 ⟨rfl, rfl⟩
            go_wp2_with fail
            refine (rTerrain_any _ _ _ l _ _ (HL.out.keep (K0.trans KA)).rt hb1).mono ?_; rintro e4 w4 ⟨rfl, k4⟩
            have t1 := k4.cell g1; have t2 := k4.cell g2; have t3 := k4.cell g3; have d1 := k4.cell f1
            have HR4 := Lib.hid (HRI.out.keep k4)
            go_wp2_with fail
            go_ret
            exact ⟨ret_bool (by rw [HF.out]; rfl), s0.2.2.2.2.2.2.2.trans ((kr.trans KA).trans k4)⟩
          · have q3 : ((nc : Int) != (nk : Int)) = false := by have := HNC2.out; simp at p3; simp; omega
            have q3' : (nc != nk) = false := by have := HNC2.out; simp at p3; simp; omega
            cases p4 : cs.all (spB 0 9)
            · have HF : Hid (R = false) := Lib.hid (by rw [HR.out]; exact allN_no (k := k) (by have := HNt.out; omega) (by rw [terF_at HX.out]; simp only [terAt, p1, p2, p3, p4]; rfl))
              go_wp2_with fail
              refine (rName_any _ _ hnb).mono ?_; rintro e3 w3 ⟨rfl, rfl⟩
              go_wp2_with fail
              refine (rTerrain_any _ _ _ l _ _ (HL.out.keep (K0.trans KA)).rt hb1).mono ?_; rintro e4 w4 ⟨rfl, k4⟩
              have t1 := k4.cell g1; have t2 := k4.cell g2; have t3 := k4.cell g3; have d1 := k4.cell f1
              have HR4 := Lib.hid (HRI.out.keep k4)
              go_wp2_with fail
              refine (l1All_sp _ cs _ _ _ HR4.out hcb2).mono ?_; rintro e5 w5 ⟨rfl, rfl⟩
              rw [p4]
              go_wp2_with fail
              go_ret
              exact ⟨ret_bool (by rw [HF.out]; rfl), s0.2.2.2.2.2.2.2.trans ((kr.trans KA).trans k4)⟩
            · skip
              cases p5 : spB (-3) 3 sh
              · have HF : Hid (R = false) := Lib.hid (by rw [HR.out]; exact allN_no (k := k) (by have := HNt.out; omega) (by rw [terF_at HX.out]; simp only [terAt, p1, p2, p3, p4, p5]; rfl))
                go_wp2_with fail
                refine (rName_any _ _ hnb).mono ?_; rintro e3 w3 ⟨rfl, rfl⟩
                go_wp2_with fail
                refine (rTerrain_any _ _ _ l _ _ (HL.out.keep (K0.trans KA)).rt hb1).mono ?_; rintro e4 w4 ⟨rfl, k4⟩
                have t1 := k4.cell g1; have t2 := k4.cell g2; have t3 := k4.cell g3; have d1 := k4.cell f1
                have HR4 := Lib.hid (HRI.out.keep k4)
                go_wp2_with fail
                refine (l1All_sp _ cs _ _ _ HR4.out hcb2).mono ?_; rintro e5 w5 ⟨rfl, rfl⟩
                rw [p4]
                go_wp2_with fail
                refine (l1In_sp _ _ _ _).mono ?_; rintro e6 w6 ⟨rfl, rfl⟩
                go_wp2_with fail
                go_ret
                exact ⟨ret_bool (by rw [HF.out]; rfl), s0.2.2.2.2.2.2.2.trans ((kr.trans KA).trans k4)⟩
              · skip
                cases p6 : spB 0 3 hg
                · have HF : Hid (R = false) := Lib.hid (by rw [HR.out]; exact allN_no (k := k) (by have := HNt.out; omega) (by rw [terF_at HX.out]; simp only [terAt, p1, p2, p3, p4, p5, p6]; rfl))
                  go_wp2_with fail
                  refine (rName_any _ _ hnb).mono ?_; rintro e3 w3 ⟨rfl, rfl⟩
                  go_wp2_with fail
                  refine (rTerrain_any _ _ _ l _ _ (HL.out.keep (K0.trans KA)).rt hb1).mono ?_; rintro e4 w4 ⟨rfl, k4⟩
                  have t1 := k4.cell g1; have t2 := k4.cell g2; have t3 := k4.cell g3; have d1 := k4.cell f1
                  have HR4 := Lib.hid (HRI.out.keep k4)
                  go_wp2_with fail
                  refine (l1All_sp _ cs _ _ _ HR4.out hcb2).mono ?_; rintro e5 w5 ⟨rfl, rfl⟩
                  rw [p4]
                  go_wp2_with fail
                  refine (l1In_sp _ _ _ _).mono ?_; rintro e6 w6 ⟨rfl, rfl⟩
                  go_wp2_with fail
                  refine (l1In_sp _ _ _ _).mono ?_; rintro e7 w7 ⟨rfl, rfl⟩
                  go_wp2_with fail
                  go_ret
                  exact ⟨ret_bool (by rw [HF.out]; rfl), s0.2.2.2.2.2.2.2.trans ((kr.trans KA).trans k4)⟩
                · have HE2 := Lib.hid (upto_more (f := terF l nk) (by rw [terF_at HX.out]; simp only [terAt, p1, p2, p3, p4, p5, p6]; rfl) hE.out)
                  go_wp2_with fail
                  refine (rName_any _ _ hnb).mono ?_; rintro e3 w3 ⟨rfl, rfl⟩
                  go_wp2_with fail
                  refine (rTerrain_any _ _ _ l _ _ (HL.out.keep (K0.trans KA)).rt hb1).mono ?_; rintro e4 w4 ⟨rfl, k4⟩
                  have t1 := k4.cell g1; have t2 := k4.cell g2; have t3 := k4.cell g3; have d1 := k4.cell f1
                  have HR4 := Lib.hid (HRI.out.keep k4)
                  go_wp2_with fail
                  refine (l1All_sp _ cs _ _ _ HR4.out hcb2).mono ?_; rintro e5 w5 ⟨rfl, rfl⟩
                  rw [p4]
                  go_wp2_with fail
                  refine (l1In_sp _ _ _ _).mono ?_; rintro e6 w6 ⟨rfl, rfl⟩
                  go_wp2_with fail
                  refine (l1In_sp _ _ _ _).mono ?_; rintro e7 w7 ⟨rfl, rfl⟩
                  go_wp2_with fail
                  go_roundw
                  case rel => exact ⟨k + 1, by omega, by go_num, HE2, (kr.trans KA).trans k4⟩
                  case measure => simp [intOf]; omega
    · obtain rfl : k = nt := by omega
      have HR1 : Hid (R = true) := Lib.hid (by rw [HR.out]; exact allN_mk hE.out)
      have c1 := kr.cell s0.2.1
      go_wp2_with fail
      go_loopw [5, 6, 71] (fun _ _ i wx => ∃ j : Nat, j ≤ nk ∧ i = .int .i64 j ∧ Hid (∀ i, i < j → kndF m i = true) ∧ Kp W0 wx) (fun _ _ i _ => nk - (intOf i).toNat)
      case atStart => exact ⟨0, by omega, rfl, Lib.hid fun j hj => absurd hj (by omega), kr⟩
      case round =>
        clear c1 K0 kr hE
        obtain ⟨j, hj, rfl, hE, kr⟩ := hrel
        have K0 : Kp w wr := s0.2.2.2.2.2.2.2.trans kr
        by_cases hlt : j < nk
        · have hlt' : (j : Int) < nk := by omega
          obtain ⟨g, off, rfl, hc⟩ := HAk.out (by omega)
          obtain ⟨x, hx⟩ : ∃ x, m[j]? = some x := ⟨m[j]'(by have := HNk.out; omega), List.getElem?_eq_getElem _⟩
          obtain ⟨a0, a1, a2, a3, a4, a5⟩ := (hc j x hx).keep K0
          have HX := Lib.hid hx
          have hnb := HL.out.bn x (List.mem_of_getElem? hx)
          obtain ⟨nm, ks, km, kt, kz, kw⟩ := x
          simp only at a0 a1 a2 a3 a4 a5 hnb
          have c1 := kr.cell s0.2.1
          have hz := cell_lt c1
          clear hc hx
          have KA : Kp wr (wr.alloc (.cells #[.string nm, .int .i64 ks, .int .i64 km, .int .i64 kt, .bool kz, .int .i64 kw] 81)) := (Kp.refl wr).alloc _
          have g1 : (wr.alloc (.cells #[.string nm, .int .i64 ks, .int .i64 km, .int .i64 kt, .bool kz, .int .i64 kw] 81)).cell? ⟨wr.heap.size, 1, none⟩ = some (.int .i64 ks) := by simp [go_sem]
          have g2 : (wr.alloc (.cells #[.string nm, .int .i64 ks, .int .i64 km, .int .i64 kt, .bool kz, .int .i64 kw] 81)).cell? ⟨wr.heap.size, 2, none⟩ = some (.int .i64 km) := by simp [go_sem]
          have g3 : (wr.alloc (.cells #[.string nm, .int .i64 ks, .int .i64 km, .int .i64 kt, .bool kz, .int .i64 kw] 81)).cell? ⟨wr.heap.size, 3, none⟩ = some (.int .i64 kt) := by simp [go_sem]
          have g5 : (wr.alloc (.cells #[.string nm, .int .i64 ks, .int .i64 km, .int .i64 kt, .bool kz, .int .i64 kw] 81)).cell? ⟨wr.heap.size, 5, none⟩ = some (.int .i64 kw) := by simp [go_sem]
          cases p1 : nameOk nm
          · have HF : Hid (Q = false) := Lib.hid (by rw [HQ.out]; exact allN_no (k := j) (by have := HNk.out; omega) (by rw [kndF_at HX.out]; simp only [kndAt, p1]; rfl))
            go_wp2_with fail
            refine (rName_any _ _ hnb).mono ?_; rintro e3 w3 ⟨rfl, rfl⟩
            go_wp2_with fail
            go_ret
            exact ⟨ret_bool (by rw [HR1.out, HF.out]; rfl), s0.2.2.2.2.2.2.2.trans (kr.trans KA)⟩
          · skip
            cases p2 : decide (idxS (kNames m) nm = (j : Int))
            · have HF : Hid (Q = false) := Lib.hid (by rw [HQ.out]; exact allN_no (k := j) (by have := HNk.out; omega) (by rw [kndF_at HX.out]; simp only [kndAt, p1, p2]; rfl))
              have q2 : (idxS (kNames m) nm != (j : Int)) = true := by simpa using p2
              go_wp2_with fail
              refine (rName_any _ _ hnb).mono ?_; rintro e3 w3 ⟨rfl, rfl⟩
              go_wp2_with fail
              refine (rKind_any _ _ _ m _ _ (HL.out.keep (K0.trans KA)).rk hb2).mono ?_; rintro e4 w4 ⟨rfl, k4⟩
              have t1 := k4.cell g1; have t2 := k4.cell g2; have t3 := k4.cell g3; have t5 := k4.cell g5
              go_wp2_with fail
              go_ret
              exact ⟨ret_bool (by rw [HR1.out, HF.out]; rfl), s0.2.2.2.2.2.2.2.trans ((kr.trans KA).trans k4)⟩
            · have q2 : (idxS (kNames m) nm != (j : Int)) = false := by simpa using p2
              cases p3 : spB 1 9 ks
              · have HF : Hid (Q = false) := Lib.hid (by rw [HQ.out]; exact allN_no (k := j) (by have := HNk.out; omega) (by rw [kndF_at HX.out]; simp only [kndAt, p1, p2, p3]; rfl))
                go_wp2_with fail
                refine (rName_any _ _ hnb).mono ?_; rintro e3 w3 ⟨rfl, rfl⟩
                go_wp2_with fail
                refine (rKind_any _ _ _ m _ _ (HL.out.keep (K0.trans KA)).rk hb2).mono ?_; rintro e4 w4 ⟨rfl, k4⟩
                have t1 := k4.cell g1; have t2 := k4.cell g2; have t3 := k4.cell g3; have t5 := k4.cell g5
                go_wp2_with fail
                refine (l1In_sp _ _ _ _).mono ?_; rintro e6 w6 ⟨rfl, rfl⟩
                go_wp2_with fail
                go_ret
                exact ⟨ret_bool (by rw [HR1.out, HF.out]; rfl), s0.2.2.2.2.2.2.2.trans ((kr.trans KA).trans k4)⟩
              · skip
                cases p4 : spB 0 9 km
                · have HF : Hid (Q = false) := Lib.hid (by rw [HQ.out]; exact allN_no (k := j) (by have := HNk.out; omega) (by rw [kndF_at HX.out]; simp only [kndAt, p1, p2, p3, p4]; rfl))
                  go_wp2_with fail
                  refine (rName_any _ _ hnb).mono ?_; rintro e3 w3 ⟨rfl, rfl⟩
                  go_wp2_with fail
                  refine (rKind_any _ _ _ m _ _ (HL.out.keep (K0.trans KA)).rk hb2).mono ?_; rintro e4 w4 ⟨rfl, k4⟩
                  have t1 := k4.cell g1; have t2 := k4.cell g2; have t3 := k4.cell g3; have t5 := k4.cell g5
                  go_wp2_with fail
                  refine (l1In_sp _ _ _ _).mono ?_; rintro e6 w6 ⟨rfl, rfl⟩
                  go_wp2_with fail
                  refine (l1In_sp _ _ _ _).mono ?_; rintro e7 w7 ⟨rfl, rfl⟩
                  go_wp2_with fail
                  go_ret
                  exact ⟨ret_bool (by rw [HR1.out, HF.out]; rfl), s0.2.2.2.2.2.2.2.trans ((kr.trans KA).trans k4)⟩
                · skip
                  cases p5 : spB 1 4 kt
                  · have HF : Hid (Q = false) := Lib.hid (by rw [HQ.out]; exact allN_no (k := j) (by have := HNk.out; omega) (by rw [kndF_at HX.out]; simp only [kndAt, p1, p2, p3, p4, p5]; rfl))
                    go_wp2_with fail
                    refine (rName_any _ _ hnb).mono ?_; rintro e3 w3 ⟨rfl, rfl⟩
                    go_wp2_with fail
                    refine (rKind_any _ _ _ m _ _ (HL.out.keep (K0.trans KA)).rk hb2).mono ?_; rintro e4 w4 ⟨rfl, k4⟩
                    have t1 := k4.cell g1; have t2 := k4.cell g2; have t3 := k4.cell g3; have t5 := k4.cell g5
                    go_wp2_with fail
                    refine (l1In_sp _ _ _ _).mono ?_; rintro e6 w6 ⟨rfl, rfl⟩
                    go_wp2_with fail
                    refine (l1In_sp _ _ _ _).mono ?_; rintro e7 w7 ⟨rfl, rfl⟩
                    go_wp2_with fail
                    refine (l1In_sp _ _ _ _).mono ?_; rintro e8 w8 ⟨rfl, rfl⟩
                    go_wp2_with fail
                    go_ret
                    exact ⟨ret_bool (by rw [HR1.out, HF.out]; rfl), s0.2.2.2.2.2.2.2.trans ((kr.trans KA).trans k4)⟩
                  · skip
                    cases p6 : spB 0 4 kw
                    · have HF : Hid (Q = false) := Lib.hid (by rw [HQ.out]; exact allN_no (k := j) (by have := HNk.out; omega) (by rw [kndF_at HX.out]; simp only [kndAt, p1, p2, p3, p4, p5, p6]; rfl))
                      go_wp2_with fail
                      refine (rName_any _ _ hnb).mono ?_; rintro e3 w3 ⟨rfl, rfl⟩
                      go_wp2_with fail
                      refine (rKind_any _ _ _ m _ _ (HL.out.keep (K0.trans KA)).rk hb2).mono ?_; rintro e4 w4 ⟨rfl, k4⟩
                      have t1 := k4.cell g1; have t2 := k4.cell g2; have t3 := k4.cell g3; have t5 := k4.cell g5
                      go_wp2_with fail
                      refine (l1In_sp _ _ _ _).mono ?_; rintro e6 w6 ⟨rfl, rfl⟩
                      go_wp2_with fail
                      refine (l1In_sp _ _ _ _).mono ?_; rintro e7 w7 ⟨rfl, rfl⟩
                      go_wp2_with fail
                      refine (l1In_sp _ _ _ _).mono ?_; rintro e8 w8 ⟨rfl, rfl⟩
                      go_wp2_with fail
                      refine (l1In_sp _ _ _ _).mono ?_; rintro e9 w9 ⟨rfl, rfl⟩
                      go_wp2_with fail
                      go_ret
                      exact ⟨ret_bool (by rw [HR1.out, HF.out]; rfl), s0.2.2.2.2.2.2.2.trans ((kr.trans KA).trans k4)⟩
                    · have HE2 := Lib.hid (upto_more (f := kndF m) (by rw [kndF_at HX.out]; simp only [kndAt, p1, p2, p3, p4, p5, p6]; rfl) hE.out)
                      go_wp2_with fail
                      refine (rName_any _ _ hnb).mono ?_; rintro e3 w3 ⟨rfl, rfl⟩
                      go_wp2_with fail
                      refine (rKind_any _ _ _ m _ _ (HL.out.keep (K0.trans KA)).rk hb2).mono ?_; rintro e4 w4 ⟨rfl, k4⟩
                      have t1 := k4.cell g1; have t2 := k4.cell g2; have t3 := k4.cell g3; have t5 := k4.cell g5
                      go_wp2_with fail
                      refine (l1In_sp _ _ _ _).mono ?_; rintro e6 w6 ⟨rfl, rfl⟩
                      go_wp2_with fail
                      refine (l1In_sp _ _ _ _).mono ?_; rintro e7 w7 ⟨rfl, rfl⟩
                      go_wp2_with fail
                      refine (l1In_sp _ _ _ _).mono ?_; rintro e8 w8 ⟨rfl, rfl⟩
                      go_wp2_with fail
                      refine (l1In_sp _ _ _ _).mono ?_; rintro e9 w9 ⟨rfl, rfl⟩
                      go_wp2_with fail
                      go_roundw
                      case rel => exact ⟨j + 1, by omega, by go_num, HE2, (kr.trans KA).trans k4⟩
                      case measure => simp [intOf]; omega
        · obtain rfl : j = nk := by omega
          have HQ1 : Hid (Q = true) := Lib.hid (by rw [HQ.out]; exact allN_mk hE.out)
          have c2 := kr.cell s0.2.2.1
          have c3 := kr.cell s0.2.2.2.1
          have c4 := kr.cell s0.2.2.2.2.1
          have c5 := kr.cell s0.2.2.2.2.2.1
          have c6 := kr.cell s0.2.2.2.2.2.2.1
          cases h5 : spB 1 4 a
          · go_wp2_with fail
            refine (l1In_sp _ _ _ _).mono ?_; rintro e3 w3 ⟨rfl, rfl⟩
            go_wp2_with fail
            go_ret
            exact ⟨ret_bool (by rw [HR1.out, HQ1.out]; simp only [limB, h5]; rfl), K0⟩
          · skip
            cases h6 : spB 0 9 b
            · go_wp2_with fail
              refine (l1In_sp _ _ _ _).mono ?_; rintro e3 w3 ⟨rfl, rfl⟩
              go_wp2_with fail
              refine (l1In_sp _ _ _ _).mono ?_; rintro e4 w4 ⟨rfl, rfl⟩
              go_wp2_with fail
              go_ret
              exact ⟨ret_bool (by rw [HR1.out, HQ1.out]; simp only [limB, h5, h6]; rfl), K0⟩
            · skip
              cases h7 : spB 1 9 c
              · go_wp2_with fail
                refine (l1In_sp _ _ _ _).mono ?_; rintro e3 w3 ⟨rfl, rfl⟩
                go_wp2_with fail
                refine (l1In_sp _ _ _ _).mono ?_; rintro e4 w4 ⟨rfl, rfl⟩
                go_wp2_with fail
                refine (l1In_sp _ _ _ _).mono ?_; rintro e5 w5 ⟨rfl, rfl⟩
                go_wp2_with fail
                go_ret
                exact ⟨ret_bool (by rw [HR1.out, HQ1.out]; simp only [limB, h5, h6, h7]; rfl), K0⟩
              · skip
                cases h8 : spB 0 20 d
                · go_wp2_with fail
                  refine (l1In_sp _ _ _ _).mono ?_; rintro e3 w3 ⟨rfl, rfl⟩
                  go_wp2_with fail
                  refine (l1In_sp _ _ _ _).mono ?_; rintro e4 w4 ⟨rfl, rfl⟩
                  go_wp2_with fail
                  refine (l1In_sp _ _ _ _).mono ?_; rintro e5 w5 ⟨rfl, rfl⟩
                  go_wp2_with fail
                  refine (l1In_sp _ _ _ _).mono ?_; rintro e6 w6 ⟨rfl, rfl⟩
                  go_wp2_with fail
                  go_ret
                  exact ⟨ret_bool (by rw [HR1.out, HQ1.out]; simp only [limB, h5, h6, h7, h8]; rfl), K0⟩
                · go_wp2_with fail
                  refine (l1In_sp _ _ _ _).mono ?_; rintro e3 w3 ⟨rfl, rfl⟩
                  go_wp2_with fail
                  refine (l1In_sp _ _ _ _).mono ?_; rintro e4 w4 ⟨rfl, rfl⟩
                  go_wp2_with fail
                  refine (l1In_sp _ _ _ _).mono ?_; rintro e5 w5 ⟨rfl, rfl⟩
                  go_wp2_with fail
                  refine (l1In_sp _ _ _ _).mono ?_; rintro e6 w6 ⟨rfl, rfl⟩
                  go_wp2_with fail
                  refine (l1In_sp _ _ _ _).mono ?_; rintro e7 w7 ⟨rfl, rfl⟩
                  go_wp2_with fail
                  go_ret
                  exact ⟨ret_bool (by rw [HR1.out, HQ1.out]; simp only [limB, h5, h6, h7, h8]; rfl), K0⟩

theorem rGood_any (At Ak : Option Addr) (nt nk ct ck : Nat) (l : List Ter) (m : List Knd) (a b c d e : Int) (w : World) (h : RulAt w At Ak nt nk l m) :
    Calls Tryd.prog 51 #[rv (.slice At nt ct) (.slice Ak nk ck) a b c d e] w fun e' w' => e' = .returned (.bool (rulOk ⟨l, m, a, b, c, d, e⟩)) ∧ Kp w w' := by
  rw [← rulS_eq]
  unfold rulS
  simp only [h.rt.1, h.rk.1]
  cases h1 : spB 1 6 nt
  · exact rGood_no1 At Ak nt nk ct ck l m a b c d e w h h1
  · cases h2 : spB 1 4 nk
    · exact rGood_no2 At Ak nt nk ct ck l m a b c d e w h h1 h2
    · exact rGood_yes At Ak nt nk ct ck l m a b c d e w h h1 h2
theorem specIsRules_any (At Ak : Option Addr) (nt nk ct ck : Nat) (l : List Ter) (m : List Knd) (a b c d e : Int) (w : World) (h : RulAt w At Ak nt nk l m) :
    Calls Tryd.prog 14 #[rv (.slice At nt ct) (.slice Ak nk ck) a b c d e] w fun e' w' => e' = .returned (.bool (rulOk ⟨l, m, a, b, c, d, e⟩)) ∧ Kp w w' := by
  have HL := Lib.hid h
  obtain ⟨R, hR⟩ : ∃ R, R = rulOk ⟨l, m, a, b, c, d, e⟩ := ⟨_, rfl⟩
  have C : Hid (∀ w, RulAt w At Ak nt nk l m → Calls Tryd.prog 51 #[rv (.slice At nt ct) (.slice Ak nk ck) a b c d e] w fun e' w' => e' = .returned (.bool R) ∧ Kp w w') := Lib.hid fun w h => by
    rw [hR]
    exact rGood_any At Ak nt nk ct ck l m a b c d e w h
  rw [← hR]
  clear h hR
  go_enter Tryd.func14, Tryd.ntmps14
  go_wp2_with fail
  have KA : Kp w (w.alloc (.cells #[.slice At nt ct, .slice Ak nk ck, .int .i64 a, .int .i64 b, .int .i64 c, .int .i64 d, .int .i64 e] 31)) := (Kp.refl w).alloc _
  refine (C.out _ (HL.out.keep KA)).mono ?_
  rintro e1 w1 ⟨rfl, k1⟩
  go_wp2_with fail
  go_ret
  exact ⟨rfl, KA.trans k1⟩

end Go.Proofs.YtkkcnofplddbmaaDoor
