/-
  Texts of this seat in one module: RulS, RuK, SpK, SpL, RulE, MapL, ToMap, RulC, RulR, ImK, SzP.
-/
import Derived.OpenShut
import Derived.Test.YtpdcmpojjchobaaDoorBua
import Derived.Test.YtpdcmpojjchobaaDoorBub

/-
  The reference's places of names and its test of rules return what plain functions on lists say, and change nothing that was there.
-/
namespace Go.Proofs.YtpdcmpojjchobaaDoor
open Go.RowKit

set_option maxRecDepth 100000 in
set_option maxHeartbeats 1000000 in
theorem rTerrain_any (A : Option Addr) (n c : Nat) (l : List Ter) (m : ByteArray) (w : World) (h : RdT w A n l) (hl : n ≤ 1048576) :
    Calls Tryd.prog 67 #[.slice A n c, .string m] w fun e w' => e = .returned (.int .i64 (idxS (tNames l) m)) ∧ Kp w w' := by
  have HN := Lib.hid h.1
  have HA := Lib.hid h.2
  have HLn : Hid ((tNames l).length = n) := Lib.hid (by rw [← h.1]; simp [tNames])
  obtain ⟨R, hR⟩ : ∃ R, R = idxS (tNames l) m := ⟨_, rfl⟩
  rw [← hR]
  have HR := Lib.hid hR
  clear h hR
  go_enter Tryd.func67, Tryd.ntmps67
  go_wp2_with fail
  go_loopw [5, 6, 9] (fun _ _ i wr => ∃ k : Nat, k ≤ n ∧ i = .int .i64 k ∧ Hid (∀ j, j < k → (tNames l).getD j ByteArray.empty ≠ m) ∧ Kp w wr) (fun _ _ i _ => n - (intOf i).toNat)
  case atStart => exact ⟨0, by omega, rfl, Lib.hid fun j hj => absurd hj (by omega), Kp.refl _⟩
  case round =>
    obtain ⟨k, hk, rfl, hE, kr⟩ := hrel
    by_cases hlt : k < n
    · have hlt' : (k : Int) < n := by omega
      obtain ⟨g, off, rfl, hc⟩ := HA.out (by omega)
      obtain ⟨x, hx⟩ : ∃ x, l[k]? = some x := ⟨l[k]'(by have := HN.out; omega), List.getElem?_eq_getElem _⟩
      obtain ⟨Ac, cc, ⟨a0, a1, a2, a3, a4⟩, _⟩ := (hc k x hx).keep kr
      have HX : Hid ((tNames l)[k]? = some x.name) := Lib.hid (by simp [tNames, hx])
      obtain ⟨nm, cs, sh, hg, bl⟩ := x
      simp only at a0 a1 a2 a3 a4 HX
      generalize cs.length = nc at a1
      clear hc hx
      have KA : Kp wr (wr.alloc (.cells #[.string nm, .slice Ac nc cc, .int .i64 sh, .int .i64 hg, .bool bl] 70)) := (Kp.refl wr).alloc _
      by_cases hok : nm = m
      · have HE2 : Hid (R = (k : Int)) := Lib.hid (by rw [HR.out]; exact idxS_hit (by rw [← hok]; exact HX.out) hE.out)
        have he : (nm.toList == m.toList) = true := (Lib.bytes_beq_iff nm m).2 hok
        clear hok
        go_wp2_with fail
        go_ret
        exact ⟨ret_int HE2.out.symm, kr.trans KA⟩
      · have HE2 := Lib.hid (not_more HX.out hok hE.out)
        have he : (nm.toList == m.toList) = false := (Lib.bytes_beq_false_iff nm m).2 hok
        clear hok
        go_wp2_with fail
        go_roundw
        case rel => exact ⟨k + 1, by omega, by go_num, HE2, kr.trans KA⟩
        case measure => simp [intOf]; omega
    · obtain rfl : k = n := by omega
      go_wp2_with fail
      go_ret
      refine ⟨ret_int ?_, kr⟩
      rw [HR.out, idxS_miss (fun j hj => hE.out j (by have := HLn.out; omega))]

set_option maxRecDepth 100000 in
set_option maxHeartbeats 1000000 in
theorem rKind_any (A : Option Addr) (n c : Nat) (l : List Knd) (m : ByteArray) (w : World) (h : RdK w A n l) (hl : n ≤ 1048576) :
    Calls Tryd.prog 69 #[.slice A n c, .string m] w fun e w' => e = .returned (.int .i64 (idxS (kNames l) m)) ∧ Kp w w' := by
  have HN := Lib.hid h.1
  have HA := Lib.hid h.2
  have HLn : Hid ((kNames l).length = n) := Lib.hid (by rw [← h.1]; simp [kNames])
  obtain ⟨R, hR⟩ : ∃ R, R = idxS (kNames l) m := ⟨_, rfl⟩
  rw [← hR]
  have HR := Lib.hid hR
  clear h hR
  go_enter Tryd.func69, Tryd.ntmps69
  go_wp2_with fail
  go_loopw [5, 6, 9] (fun _ _ i wr => ∃ k : Nat, k ≤ n ∧ i = .int .i64 k ∧ Hid (∀ j, j < k → (kNames l).getD j ByteArray.empty ≠ m) ∧ Kp w wr) (fun _ _ i _ => n - (intOf i).toNat)
  case atStart => exact ⟨0, by omega, rfl, Lib.hid fun j hj => absurd hj (by omega), Kp.refl _⟩
  case round =>
    obtain ⟨k, hk, rfl, hE, kr⟩ := hrel
    by_cases hlt : k < n
    · have hlt' : (k : Int) < n := by omega
      obtain ⟨g, off, rfl, hc⟩ := HA.out (by omega)
      obtain ⟨x, hx⟩ : ∃ x, l[k]? = some x := ⟨l[k]'(by have := HN.out; omega), List.getElem?_eq_getElem _⟩
      obtain ⟨a0, a1, a2, a3, a4, a5⟩ := (hc k x hx).keep kr
      have HX : Hid ((kNames l)[k]? = some x.name) := Lib.hid (by simp [kNames, hx])
      obtain ⟨nm, ks, km, kt, kz, kw⟩ := x
      simp only at a0 a1 a2 a3 a4 a5 HX
      clear hc hx
      have KA : Kp wr (wr.alloc (.cells #[.string nm, .int .i64 ks, .int .i64 km, .int .i64 kt, .bool kz, .int .i64 kw] 62)) := (Kp.refl wr).alloc _
      by_cases hok : nm = m
      · have HE2 : Hid (R = (k : Int)) := Lib.hid (by rw [HR.out]; exact idxS_hit (by rw [← hok]; exact HX.out) hE.out)
        have he : (nm.toList == m.toList) = true := (Lib.bytes_beq_iff nm m).2 hok
        clear hok
        go_wp2_with fail
        go_ret
        exact ⟨ret_int HE2.out.symm, kr.trans KA⟩
      · have HE2 := Lib.hid (not_more HX.out hok hE.out)
        have he : (nm.toList == m.toList) = false := (Lib.bytes_beq_false_iff nm m).2 hok
        clear hok
        go_wp2_with fail
        go_roundw
        case rel => exact ⟨k + 1, by omega, by go_num, HE2, kr.trans KA⟩
        case measure => simp [intOf]; omega
    · obtain rfl : k = n := by omega
      go_wp2_with fail
      go_ret
      refine ⟨ret_int ?_, kr⟩
      rw [HR.out, idxS_miss (fun j hj => hE.out j (by have := HLn.out; omega))]

set_option maxRecDepth 100000 in
set_option maxHeartbeats 2000000 in
theorem rGood_no1 (At Ak : Option Addr) (nt nk ct ck : Nat) (l : List Ter) (m : List Knd) (a b c d e : Int) (w : World) (h : RulAt w At Ak nt nk l m) (h1 : spB 1 6 nt = false) :
    Calls Tryd.prog 29 #[rv (.slice At nt ct) (.slice Ak nk ck) a b c d e] w fun e' w' => e' = .returned (.bool false) ∧ Kp w w' := by
  have s0 : (w.alloc (.cells #[.slice At nt ct, .slice Ak nk ck, .int .i64 a, .int .i64 b, .int .i64 c, .int .i64 d, .int .i64 e] 32)).cell? ⟨w.heap.size, 0, none⟩ = some (.slice At nt ct) ∧ (w.alloc (.cells #[.slice At nt ct, .slice Ak nk ck, .int .i64 a, .int .i64 b, .int .i64 c, .int .i64 d, .int .i64 e] 32)).cell? ⟨w.heap.size, 1, none⟩ = some (.slice Ak nk ck) ∧ (w.alloc (.cells #[.slice At nt ct, .slice Ak nk ck, .int .i64 a, .int .i64 b, .int .i64 c, .int .i64 d, .int .i64 e] 32)).cell? ⟨w.heap.size, 2, none⟩ = some (.int .i64 a) ∧ (w.alloc (.cells #[.slice At nt ct, .slice Ak nk ck, .int .i64 a, .int .i64 b, .int .i64 c, .int .i64 d, .int .i64 e] 32)).cell? ⟨w.heap.size, 3, none⟩ = some (.int .i64 b) ∧ (w.alloc (.cells #[.slice At nt ct, .slice Ak nk ck, .int .i64 a, .int .i64 b, .int .i64 c, .int .i64 d, .int .i64 e] 32)).cell? ⟨w.heap.size, 4, none⟩ = some (.int .i64 c) ∧ (w.alloc (.cells #[.slice At nt ct, .slice Ak nk ck, .int .i64 a, .int .i64 b, .int .i64 c, .int .i64 d, .int .i64 e] 32)).cell? ⟨w.heap.size, 5, none⟩ = some (.int .i64 d) ∧ (w.alloc (.cells #[.slice At nt ct, .slice Ak nk ck, .int .i64 a, .int .i64 b, .int .i64 c, .int .i64 d, .int .i64 e] 32)).cell? ⟨w.heap.size, 6, none⟩ = some (.int .i64 e) ∧ Kp w (w.alloc (.cells #[.slice At nt ct, .slice Ak nk ck, .int .i64 a, .int .i64 b, .int .i64 c, .int .i64 d, .int .i64 e] 32)) :=
    ⟨by simp [go_sem], by simp [go_sem], by simp [go_sem], by simp [go_sem], by simp [go_sem], by simp [go_sem], by simp [go_sem], (Kp.refl w).alloc _⟩
  have HL := Lib.hid h
  have hb1 := h.bt
  have hb2 := h.bk
  clear h
  go_enter Tryd.func29, Tryd.ntmps29
  go_wp2_with fail
  generalize w.alloc (.cells #[.slice At nt ct, .slice Ak nk ck, .int .i64 a, .int .i64 b, .int .i64 c, .int .i64 d, .int .i64 e] 32) = W0 at *
  refine (l1In_sp _ _ _ _).mono ?_
  rintro e1 w1 ⟨rfl, rfl⟩
  go_wp2_with fail
  go_ret
  exact ⟨rfl, s0.2.2.2.2.2.2.2⟩

set_option maxRecDepth 100000 in
set_option maxHeartbeats 2000000 in
theorem rGood_no2 (At Ak : Option Addr) (nt nk ct ck : Nat) (l : List Ter) (m : List Knd) (a b c d e : Int) (w : World) (h : RulAt w At Ak nt nk l m) (h1 : spB 1 6 nt = true) (h2 : spB 1 4 nk = false) :
    Calls Tryd.prog 29 #[rv (.slice At nt ct) (.slice Ak nk ck) a b c d e] w fun e' w' => e' = .returned (.bool false) ∧ Kp w w' := by
  have s0 : (w.alloc (.cells #[.slice At nt ct, .slice Ak nk ck, .int .i64 a, .int .i64 b, .int .i64 c, .int .i64 d, .int .i64 e] 32)).cell? ⟨w.heap.size, 0, none⟩ = some (.slice At nt ct) ∧ (w.alloc (.cells #[.slice At nt ct, .slice Ak nk ck, .int .i64 a, .int .i64 b, .int .i64 c, .int .i64 d, .int .i64 e] 32)).cell? ⟨w.heap.size, 1, none⟩ = some (.slice Ak nk ck) ∧ (w.alloc (.cells #[.slice At nt ct, .slice Ak nk ck, .int .i64 a, .int .i64 b, .int .i64 c, .int .i64 d, .int .i64 e] 32)).cell? ⟨w.heap.size, 2, none⟩ = some (.int .i64 a) ∧ (w.alloc (.cells #[.slice At nt ct, .slice Ak nk ck, .int .i64 a, .int .i64 b, .int .i64 c, .int .i64 d, .int .i64 e] 32)).cell? ⟨w.heap.size, 3, none⟩ = some (.int .i64 b) ∧ (w.alloc (.cells #[.slice At nt ct, .slice Ak nk ck, .int .i64 a, .int .i64 b, .int .i64 c, .int .i64 d, .int .i64 e] 32)).cell? ⟨w.heap.size, 4, none⟩ = some (.int .i64 c) ∧ (w.alloc (.cells #[.slice At nt ct, .slice Ak nk ck, .int .i64 a, .int .i64 b, .int .i64 c, .int .i64 d, .int .i64 e] 32)).cell? ⟨w.heap.size, 5, none⟩ = some (.int .i64 d) ∧ (w.alloc (.cells #[.slice At nt ct, .slice Ak nk ck, .int .i64 a, .int .i64 b, .int .i64 c, .int .i64 d, .int .i64 e] 32)).cell? ⟨w.heap.size, 6, none⟩ = some (.int .i64 e) ∧ Kp w (w.alloc (.cells #[.slice At nt ct, .slice Ak nk ck, .int .i64 a, .int .i64 b, .int .i64 c, .int .i64 d, .int .i64 e] 32)) :=
    ⟨by simp [go_sem], by simp [go_sem], by simp [go_sem], by simp [go_sem], by simp [go_sem], by simp [go_sem], by simp [go_sem], (Kp.refl w).alloc _⟩
  have HL := Lib.hid h
  have hb1 := h.bt
  have hb2 := h.bk
  clear h
  go_enter Tryd.func29, Tryd.ntmps29
  go_wp2_with fail
  generalize w.alloc (.cells #[.slice At nt ct, .slice Ak nk ck, .int .i64 a, .int .i64 b, .int .i64 c, .int .i64 d, .int .i64 e] 32) = W0 at *
  refine (l1In_sp _ _ _ _).mono ?_
  rintro e1 w1 ⟨rfl, rfl⟩
  go_wp2_with fail
  refine (l1In_sp _ _ _ _).mono ?_
  rintro e2 w2 ⟨rfl, rfl⟩
  go_wp2_with fail
  go_ret
  exact ⟨rfl, s0.2.2.2.2.2.2.2⟩

set_option maxRecDepth 100000 in
set_option maxHeartbeats 16000000 in
theorem rGood_yes (At Ak : Option Addr) (nt nk ct ck : Nat) (l : List Ter) (m : List Knd) (a b c d e : Int) (w : World) (h : RulAt w At Ak nt nk l m) (h1 : spB 1 6 nt = true) (h2 : spB 1 4 nk = true) :
    Calls Tryd.prog 29 #[rv (.slice At nt ct) (.slice Ak nk ck) a b c d e] w fun e' w' => e' = .returned (.bool (allN nt (terF l nk) && (allN nk (kndF m) && limB a b c d e))) ∧ Kp w w' := by
  have s0 : (w.alloc (.cells #[.slice At nt ct, .slice Ak nk ck, .int .i64 a, .int .i64 b, .int .i64 c, .int .i64 d, .int .i64 e] 32)).cell? ⟨w.heap.size, 0, none⟩ = some (.slice At nt ct) ∧ (w.alloc (.cells #[.slice At nt ct, .slice Ak nk ck, .int .i64 a, .int .i64 b, .int .i64 c, .int .i64 d, .int .i64 e] 32)).cell? ⟨w.heap.size, 1, none⟩ = some (.slice Ak nk ck) ∧ (w.alloc (.cells #[.slice At nt ct, .slice Ak nk ck, .int .i64 a, .int .i64 b, .int .i64 c, .int .i64 d, .int .i64 e] 32)).cell? ⟨w.heap.size, 2, none⟩ = some (.int .i64 a) ∧ (w.alloc (.cells #[.slice At nt ct, .slice Ak nk ck, .int .i64 a, .int .i64 b, .int .i64 c, .int .i64 d, .int .i64 e] 32)).cell? ⟨w.heap.size, 3, none⟩ = some (.int .i64 b) ∧ (w.alloc (.cells #[.slice At nt ct, .slice Ak nk ck, .int .i64 a, .int .i64 b, .int .i64 c, .int .i64 d, .int .i64 e] 32)).cell? ⟨w.heap.size, 4, none⟩ = some (.int .i64 c) ∧ (w.alloc (.cells #[.slice At nt ct, .slice Ak nk ck, .int .i64 a, .int .i64 b, .int .i64 c, .int .i64 d, .int .i64 e] 32)).cell? ⟨w.heap.size, 5, none⟩ = some (.int .i64 d) ∧ (w.alloc (.cells #[.slice At nt ct, .slice Ak nk ck, .int .i64 a, .int .i64 b, .int .i64 c, .int .i64 d, .int .i64 e] 32)).cell? ⟨w.heap.size, 6, none⟩ = some (.int .i64 e) ∧ Kp w (w.alloc (.cells #[.slice At nt ct, .slice Ak nk ck, .int .i64 a, .int .i64 b, .int .i64 c, .int .i64 d, .int .i64 e] 32)) :=
    ⟨by simp [go_sem], by simp [go_sem], by simp [go_sem], by simp [go_sem], by simp [go_sem], by simp [go_sem], by simp [go_sem], (Kp.refl w).alloc _⟩
  have HL := Lib.hid h
  have hb1 := h.bt
  have hb2 := h.bk
  clear h
  obtain ⟨R, hR⟩ : ∃ R, R = allN nt (terF l nk) := ⟨_, rfl⟩
  obtain ⟨Q, hQ⟩ : ∃ Q, Q = allN nk (kndF m) := ⟨_, rfl⟩
  rw [← hR, ← hQ]
  have HR := Lib.hid hR
  have HQ := Lib.hid hQ
  have HNt := Lib.hid HL.out.rt.1
  have HNk := Lib.hid HL.out.rk.1
  have HAt := Lib.hid HL.out.rt.2
  have HAk := Lib.hid HL.out.rk.2
  clear hR hQ
  go_enter Tryd.func29, Tryd.ntmps29
  go_wp2_with fail
  generalize w.alloc (.cells #[.slice At nt ct, .slice Ak nk ck, .int .i64 a, .int .i64 b, .int .i64 c, .int .i64 d, .int .i64 e] 32) = W0 at *
  refine (l1In_sp _ _ _ _).mono ?_
  rintro e1 w1 ⟨rfl, rfl⟩
  go_wp2_with fail
  refine (l1In_sp _ _ _ _).mono ?_
  rintro e2 w2 ⟨rfl, rfl⟩
  go_wp2_with fail
  go_loopw [3, 4, 22] (fun _ _ i wr => ∃ k : Nat, k ≤ nt ∧ i = .int .i64 k ∧ Hid (∀ j, j < k → terF l nk j = true) ∧ Kp W0 wr) (fun _ _ i _ => nt - (intOf i).toNat)
  case atStart => exact ⟨0, by omega, rfl, Lib.hid fun j hj => absurd hj (by omega), Kp.refl _⟩
  case round =>
    obtain ⟨k, hk, rfl, hE, kr⟩ := hrel
    have K0 : Kp w wr := s0.2.2.2.2.2.2.2.trans kr
    by_cases hlt : k < nt
    · have hlt' : (k : Int) < nt := by omega
      obtain ⟨g, off, rfl, hc⟩ := HAt.out (by omega)
      obtain ⟨x, hx⟩ : ∃ x, l[k]? = some x := ⟨l[k]'(by have := HNt.out; omega), List.getElem?_eq_getElem _⟩
      obtain ⟨Ac, cc, ⟨a0, a1, a2, a3, a4⟩, hri⟩ := (hc k x hx).keep K0
      have HX := Lib.hid hx
      obtain ⟨hcb, hnb⟩ := HL.out.bc x (List.mem_of_getElem? hx)
      obtain ⟨nm, cs, sh, hg, bl⟩ := x
      simp only at a0 a1 a2 a3 a4 hri hcb hnb
      have hcb2 := hcb
      have c0 := kr.cell s0.1
      have c1 := kr.cell s0.2.1
      have hz := cell_lt c1
      generalize hnc : cs.length = nc at a1 hri hcb
      have HNC2 := Lib.hid hnc
      clear hc hx hnc
      have KA : Kp wr (wr.alloc (.cells #[.string nm, .slice Ac nc cc, .int .i64 sh, .int .i64 hg, .bool bl] 70)) := (Kp.refl wr).alloc _
      have HRI := Lib.hid (hri.keep KA)
      have g1 : (wr.alloc (.cells #[.string nm, .slice Ac nc cc, .int .i64 sh, .int .i64 hg, .bool bl] 70)).cell? ⟨wr.heap.size, 1, none⟩ = some (.slice Ac nc cc) := by simp [go_sem]
      have g2 : (wr.alloc (.cells #[.string nm, .slice Ac nc cc, .int .i64 sh, .int .i64 hg, .bool bl] 70)).cell? ⟨wr.heap.size, 2, none⟩ = some (.int .i64 sh) := by simp [go_sem]
      have g3 : (wr.alloc (.cells #[.string nm, .slice Ac nc cc, .int .i64 sh, .int .i64 hg, .bool bl] 70)).cell? ⟨wr.heap.size, 3, none⟩ = some (.int .i64 hg) := by simp [go_sem]
      have f1 := KA.cell c1
      clear hri
      cases p1 : nameOk nm
      · have HF : Hid (R = false) := Lib.hid (by rw [HR.out]; exact allN_no (k := k) (by have := HNt.out; omega) (by rw [terF_at HX.out]; simp only [terAt, p1]; rfl))
        go_wp2_with fail
        refine (rName_any _ _ hnb).mono ?_; rintro e3 w3 ⟨rfl, rfl⟩
        go_wp2_with fail
        go_ret
        exact ⟨ret_bool (by rw [HF.out]; rfl), s0.2.2.2.2.2.2.2.trans (kr.trans KA)⟩
      · skip
        cases p2 : decide (idxS (tNames l) nm = (k : Int))
        · have HF : Hid (R = false) := Lib.hid (by rw [HR.out]; exact allN_no (k := k) (by have := HNt.out; omega) (by rw [terF_at HX.out]; simp only [terAt, p1, p2]; rfl))
          have q2 : (idxS (tNames l) nm != (k : Int)) = true := by simpa using p2
          go_wp2_with fail
          refine (rName_any _ _ hnb).mono ?_; rintro e3 w3 ⟨rfl, rfl⟩
          go_wp2_with fail
          refine (rTerrain_any _ _ _ l _ _ (HL.out.keep (K0.trans KA)).rt hb1).mono ?_; rintro e4 w4 ⟨rfl, k4⟩
          have t1 := k4.cell g1; have t2 := k4.cell g2; have t3 := k4.cell g3; have d1 := k4.cell f1
          have HR4 := Lib.hid (HRI.out.keep k4)
          go_wp2_with fail
          go_ret
          exact ⟨ret_bool (by rw [HF.out]; rfl), s0.2.2.2.2.2.2.2.trans ((kr.trans KA).trans k4)⟩
        · have q2 : (idxS (tNames l) nm != (k : Int)) = false := by simpa using p2
          cases p3 : decide (cs.length = nk)
          · have HF : Hid (R = false) := Lib.hid (by rw [HR.out]; exact allN_no (k := k) (by have := HNt.out; omega) (by rw [terF_at HX.out]; simp only [terAt, p1, p2, p3]; rfl))
            have q3 : ((nc : Int) != (nk : Int)) = true := by have := HNC2.out; simp at p3; simp; omega
            have q3' : (nc != nk) = true := by have := HNC2.out; simp at p3; simp; omega
            go_wp2_with fail
            refine (rName_any _ _ hnb).mono ?_; rintro e3 w3 ⟨rfl, rfl⟩
            go_wp2_with fail
            refine (rTerrain_any _ _ _ l _ _ (HL.out.keep (K0.trans KA)).rt hb1).mono ?_; rintro e4 w4 ⟨rfl, k4⟩
            have t1 := k4.cell g1; have t2 := k4.cell g2; have t3 := k4.cell g3; have d1 := k4.cell f1
            have HR4 := Lib.hid (HRI.out.keep k4)
            go_wp2_with fail
            go_ret
            exact ⟨ret_bool (by rw [HF.out]; rfl), s0.2.2.2.2.2.2.2.trans ((kr.trans KA).trans k4)⟩
          · have q3 : ((nc : Int) != (nk : Int)) = false := by have := HNC2.out; simp at p3; simp; omega
            have q3' : (nc != nk) = false := by have := HNC2.out; simp at p3; simp; omega
            cases p4 : cs.all (spB 0 9)
            · have HF : Hid (R = false) := Lib.hid (by rw [HR.out]; exact allN_no (k := k) (by have := HNt.out; omega) (by rw [terF_at HX.out]; simp only [terAt, p1, p2, p3, p4]; rfl))
              go_wp2_with fail
              refine (rName_any _ _ hnb).mono ?_; rintro e3 w3 ⟨rfl, rfl⟩
              go_wp2_with fail
              refine (rTerrain_any _ _ _ l _ _ (HL.out.keep (K0.trans KA)).rt hb1).mono ?_; rintro e4 w4 ⟨rfl, k4⟩
              have t1 := k4.cell g1; have t2 := k4.cell g2; have t3 := k4.cell g3; have d1 := k4.cell f1
              have HR4 := Lib.hid (HRI.out.keep k4)
              go_wp2_with fail
              refine (l1All_sp _ cs _ _ _ HR4.out hcb2).mono ?_; rintro e5 w5 ⟨rfl, rfl⟩
              rw [p4]
              go_wp2_with fail
              go_ret
              exact ⟨ret_bool (by rw [HF.out]; rfl), s0.2.2.2.2.2.2.2.trans ((kr.trans KA).trans k4)⟩
            · skip
              cases p5 : spB (-3) 3 sh
              · have HF : Hid (R = false) := Lib.hid (by rw [HR.out]; exact allN_no (k := k) (by have := HNt.out; omega) (by rw [terF_at HX.out]; simp only [terAt, p1, p2, p3, p4, p5]; rfl))
                go_wp2_with fail
                refine (rName_any _ _ hnb).mono ?_; rintro e3 w3 ⟨rfl, rfl⟩
                go_wp2_with fail
                refine (rTerrain_any _ _ _ l _ _ (HL.out.keep (K0.trans KA)).rt hb1).mono ?_; rintro e4 w4 ⟨rfl, k4⟩
                have t1 := k4.cell g1; have t2 := k4.cell g2; have t3 := k4.cell g3; have d1 := k4.cell f1
                have HR4 := Lib.hid (HRI.out.keep k4)
                go_wp2_with fail
                refine (l1All_sp _ cs _ _ _ HR4.out hcb2).mono ?_; rintro e5 w5 ⟨rfl, rfl⟩
                rw [p4]
                go_wp2_with fail
                refine (l1In_sp _ _ _ _).mono ?_; rintro e6 w6 ⟨rfl, rfl⟩
                go_wp2_with fail
                go_ret
                exact ⟨ret_bool (by rw [HF.out]; rfl), s0.2.2.2.2.2.2.2.trans ((kr.trans KA).trans k4)⟩
              · skip
                cases p6 : spB 0 3 hg
                · have HF : Hid (R = false) := Lib.hid (by rw [HR.out]; exact allN_no (k := k) (by have := HNt.out; omega) (by rw [terF_at HX.out]; simp only [terAt, p1, p2, p3, p4, p5, p6]; rfl))
                  go_wp2_with fail
                  refine (rName_any _ _ hnb).mono ?_; rintro e3 w3 ⟨rfl, rfl⟩
                  go_wp2_with fail
                  refine (rTerrain_any _ _ _ l _ _ (HL.out.keep (K0.trans KA)).rt hb1).mono ?_; rintro e4 w4 ⟨rfl, k4⟩
                  have t1 := k4.cell g1; have t2 := k4.cell g2; have t3 := k4.cell g3; have d1 := k4.cell f1
                  have HR4 := Lib.hid (HRI.out.keep k4)
                  go_wp2_with fail
                  refine (l1All_sp _ cs _ _ _ HR4.out hcb2).mono ?_; rintro e5 w5 ⟨rfl, rfl⟩
                  rw [p4]
                  go_wp2_with fail
                  refine (l1In_sp _ _ _ _).mono ?_; rintro e6 w6 ⟨rfl, rfl⟩
                  go_wp2_with fail
                  refine (l1In_sp _ _ _ _).mono ?_; rintro e7 w7 ⟨rfl, rfl⟩
                  go_wp2_with fail
                  go_ret
                  exact ⟨ret_bool (by rw [HF.out]; rfl), s0.2.2.2.2.2.2.2.trans ((kr.trans KA).trans k4)⟩
                · have HE2 := Lib.hid (upto_more (f := terF l nk) (by rw [terF_at HX.out]; simp only [terAt, p1, p2, p3, p4, p5, p6]; rfl) hE.out)
                  go_wp2_with fail
                  refine (rName_any _ _ hnb).mono ?_; rintro e3 w3 ⟨rfl, rfl⟩
                  go_wp2_with fail
                  refine (rTerrain_any _ _ _ l _ _ (HL.out.keep (K0.trans KA)).rt hb1).mono ?_; rintro e4 w4 ⟨rfl, k4⟩
                  have t1 := k4.cell g1; have t2 := k4.cell g2; have t3 := k4.cell g3; have d1 := k4.cell f1
                  have HR4 := Lib.hid (HRI.out.keep k4)
                  go_wp2_with fail
                  refine (l1All_sp _ cs _ _ _ HR4.out hcb2).mono ?_; rintro e5 w5 ⟨rfl, rfl⟩
                  rw [p4]
                  go_wp2_with fail
                  refine (l1In_sp _ _ _ _).mono ?_; rintro e6 w6 ⟨rfl, rfl⟩
                  go_wp2_with fail
                  refine (l1In_sp _ _ _ _).mono ?_; rintro e7 w7 ⟨rfl, rfl⟩
                  go_wp2_with fail
                  go_roundw
                  case rel => exact ⟨k + 1, by omega, by go_num, HE2, (kr.trans KA).trans k4⟩
                  case measure => simp [intOf]; omega
    · obtain rfl : k = nt := by omega
      have HR1 : Hid (R = true) := Lib.hid (by rw [HR.out]; exact allN_mk hE.out)
      have c1 := kr.cell s0.2.1
      go_wp2_with fail
      go_loopw [5, 6, 71] (fun _ _ i wx => ∃ j : Nat, j ≤ nk ∧ i = .int .i64 j ∧ Hid (∀ i, i < j → kndF m i = true) ∧ Kp W0 wx) (fun _ _ i _ => nk - (intOf i).toNat)
      case atStart => exact ⟨0, by omega, rfl, Lib.hid fun j hj => absurd hj (by omega), kr⟩
      case round =>
        clear c1 K0 kr hE
        obtain ⟨j, hj, rfl, hE, kr⟩ := hrel
        have K0 : Kp w wr := s0.2.2.2.2.2.2.2.trans kr
        by_cases hlt : j < nk
        · have hlt' : (j : Int) < nk := by omega
          obtain ⟨g, off, rfl, hc⟩ := HAk.out (by omega)
          obtain ⟨x, hx⟩ : ∃ x, m[j]? = some x := ⟨m[j]'(by have := HNk.out; omega), List.getElem?_eq_getElem _⟩
          obtain ⟨a0, a1, a2, a3, a4, a5⟩ := (hc j x hx).keep K0
          have HX := Lib.hid hx
          have hnb := HL.out.bn x (List.mem_of_getElem? hx)
          obtain ⟨nm, ks, km, kt, kz, kw⟩ := x
          simp only at a0 a1 a2 a3 a4 a5 hnb
          have c1 := kr.cell s0.2.1
          have hz := cell_lt c1
          clear hc hx
          have KA : Kp wr (wr.alloc (.cells #[.string nm, .int .i64 ks, .int .i64 km, .int .i64 kt, .bool kz, .int .i64 kw] 62)) := (Kp.refl wr).alloc _
          have g1 : (wr.alloc (.cells #[.string nm, .int .i64 ks, .int .i64 km, .int .i64 kt, .bool kz, .int .i64 kw] 62)).cell? ⟨wr.heap.size, 1, none⟩ = some (.int .i64 ks) := by simp [go_sem]
          have g2 : (wr.alloc (.cells #[.string nm, .int .i64 ks, .int .i64 km, .int .i64 kt, .bool kz, .int .i64 kw] 62)).cell? ⟨wr.heap.size, 2, none⟩ = some (.int .i64 km) := by simp [go_sem]
          have g3 : (wr.alloc (.cells #[.string nm, .int .i64 ks, .int .i64 km, .int .i64 kt, .bool kz, .int .i64 kw] 62)).cell? ⟨wr.heap.size, 3, none⟩ = some (.int .i64 kt) := by simp [go_sem]
          have g5 : (wr.alloc (.cells #[.string nm, .int .i64 ks, .int .i64 km, .int .i64 kt, .bool kz, .int .i64 kw] 62)).cell? ⟨wr.heap.size, 5, none⟩ = some (.int .i64 kw) := by simp [go_sem]
          cases p1 : nameOk nm
          · have HF : Hid (Q = false) := Lib.hid (by rw [HQ.out]; exact allN_no (k := j) (by have := HNk.out; omega) (by rw [kndF_at HX.out]; simp only [kndAt, p1]; rfl))
            go_wp2_with fail
            refine (rName_any _ _ hnb).mono ?_; rintro e3 w3 ⟨rfl, rfl⟩
            go_wp2_with fail
            go_ret
            exact ⟨ret_bool (by rw [HR1.out, HF.out]; rfl), s0.2.2.2.2.2.2.2.trans (kr.trans KA)⟩
          · skip
            cases p2 : decide (idxS (kNames m) nm = (j : Int))
            · have HF : Hid (Q = false) := Lib.hid (by rw [HQ.out]; exact allN_no (k := j) (by have := HNk.out; omega) (by rw [kndF_at HX.out]; simp only [kndAt, p1, p2]; rfl))
              have q2 : (idxS (kNames m) nm != (j : Int)) = true := by simpa using p2
              go_wp2_with fail
              refine (rName_any _ _ hnb).mono ?_; rintro e3 w3 ⟨rfl, rfl⟩
              go_wp2_with fail
              refine (rKind_any _ _ _ m _ _ (HL.out.keep (K0.trans KA)).rk hb2).mono ?_; rintro e4 w4 ⟨rfl, k4⟩
              have t1 := k4.cell g1; have t2 := k4.cell g2; have t3 := k4.cell g3; have t5 := k4.cell g5
              go_wp2_with fail
              go_ret
              exact ⟨ret_bool (by rw [HR1.out, HF.out]; rfl), s0.2.2.2.2.2.2.2.trans ((kr.trans KA).trans k4)⟩
            · have q2 : (idxS (kNames m) nm != (j : Int)) = false := by simpa using p2
              cases p3 : spB 1 9 ks
              · have HF : Hid (Q = false) := Lib.hid (by rw [HQ.out]; exact allN_no (k := j) (by have := HNk.out; omega) (by rw [kndF_at HX.out]; simp only [kndAt, p1, p2, p3]; rfl))
                go_wp2_with fail
                refine (rName_any _ _ hnb).mono ?_; rintro e3 w3 ⟨rfl, rfl⟩
                go_wp2_with fail
                refine (rKind_any _ _ _ m _ _ (HL.out.keep (K0.trans KA)).rk hb2).mono ?_; rintro e4 w4 ⟨rfl, k4⟩
                have t1 := k4.cell g1; have t2 := k4.cell g2; have t3 := k4.cell g3; have t5 := k4.cell g5
                go_wp2_with fail
                refine (l1In_sp _ _ _ _).mono ?_; rintro e6 w6 ⟨rfl, rfl⟩
                go_wp2_with fail
                go_ret
                exact ⟨ret_bool (by rw [HR1.out, HF.out]; rfl), s0.2.2.2.2.2.2.2.trans ((kr.trans KA).trans k4)⟩
              · skip
                cases p4 : spB 0 9 km
                · have HF : Hid (Q = false) := Lib.hid (by rw [HQ.out]; exact allN_no (k := j) (by have := HNk.out; omega) (by rw [kndF_at HX.out]; simp only [kndAt, p1, p2, p3, p4]; rfl))
                  go_wp2_with fail
                  refine (rName_any _ _ hnb).mono ?_; rintro e3 w3 ⟨rfl, rfl⟩
                  go_wp2_with fail
                  refine (rKind_any _ _ _ m _ _ (HL.out.keep (K0.trans KA)).rk hb2).mono ?_; rintro e4 w4 ⟨rfl, k4⟩
                  have t1 := k4.cell g1; have t2 := k4.cell g2; have t3 := k4.cell g3; have t5 := k4.cell g5
                  go_wp2_with fail
                  refine (l1In_sp _ _ _ _).mono ?_; rintro e6 w6 ⟨rfl, rfl⟩
                  go_wp2_with fail
                  refine (l1In_sp _ _ _ _).mono ?_; rintro e7 w7 ⟨rfl, rfl⟩
                  go_wp2_with fail
                  go_ret
                  exact ⟨ret_bool (by rw [HR1.out, HF.out]; rfl), s0.2.2.2.2.2.2.2.trans ((kr.trans KA).trans k4)⟩
                · skip
                  cases p5 : spB 1 4 kt
                  · have HF : Hid (Q = false) := Lib.hid (by rw [HQ.out]; exact allN_no (k := j) (by have := HNk.out; omega) (by rw [kndF_at HX.out]; simp only [kndAt, p1, p2, p3, p4, p5]; rfl))
                    go_wp2_with fail
                    refine (rName_any _ _ hnb).mono ?_; rintro e3 w3 ⟨rfl, rfl⟩
                    go_wp2_with fail
                    refine (rKind_any _ _ _ m _ _ (HL.out.keep (K0.trans KA)).rk hb2).mono ?_; rintro e4 w4 ⟨rfl, k4⟩
                    have t1 := k4.cell g1; have t2 := k4.cell g2; have t3 := k4.cell g3; have t5 := k4.cell g5
                    go_wp2_with fail
                    refine (l1In_sp _ _ _ _).mono ?_; rintro e6 w6 ⟨rfl, rfl⟩
                    go_wp2_with fail
                    refine (l1In_sp _ _ _ _).mono ?_; rintro e7 w7 ⟨rfl, rfl⟩
                    go_wp2_with fail
                    refine (l1In_sp _ _ _ _).mono ?_; rintro e8 w8 ⟨rfl, rfl⟩
                    go_wp2_with fail
                    go_ret
                    exact ⟨ret_bool (by rw [HR1.out, HF.out]; rfl), s0.2.2.2.2.2.2.2.trans ((kr.trans KA).trans k4)⟩
                  · skip
                    cases p6 : spB 0 4 kw
                    · have HF : Hid (Q = false) := Lib.hid (by rw [HQ.out]; exact allN_no (k := j) (by have := HNk.out; omega) (by rw [kndF_at HX.out]; simp only [kndAt, p1, p2, p3, p4, p5, p6]; rfl))
                      go_wp2_with fail
                      refine (rName_any _ _ hnb).mono ?_; rintro e3 w3 ⟨rfl, rfl⟩
                      go_wp2_with fail
                      refine (rKind_any _ _ _ m _ _ (HL.out.keep (K0.trans KA)).rk hb2).mono ?_; rintro e4 w4 ⟨rfl, k4⟩
                      have t1 := k4.cell g1; have t2 := k4.cell g2; have t3 := k4.cell g3; have t5 := k4.cell g5
                      go_wp2_with fail
                      refine (l1In_sp _ _ _ _).mono ?_; rintro e6 w6 ⟨rfl, rfl⟩
                      go_wp2_with fail
                      refine (l1In_sp _ _ _ _).mono ?_; rintro e7 w7 ⟨rfl, rfl⟩
                      go_wp2_with fail
                      refine (l1In_sp _ _ _ _).mono ?_; rintro e8 w8 ⟨rfl, rfl⟩
                      go_wp2_with fail
                      refine (l1In_sp _ _ _ _).mono ?_; rintro e9 w9 ⟨rfl, rfl⟩
                      go_wp2_with fail
                      go_ret
                      exact ⟨ret_bool (by rw [HR1.out, HF.out]; rfl), s0.2.2.2.2.2.2.2.trans ((kr.trans KA).trans k4)⟩
                    · have HE2 := Lib.hid (upto_more (f := kndF m) (by rw [kndF_at HX.out]; simp only [kndAt, p1, p2, p3, p4, p5, p6]; rfl) hE.out)
                      go_wp2_with fail
                      refine (rName_any _ _ hnb).mono ?_; rintro e3 w3 ⟨rfl, rfl⟩
                      go_wp2_with fail
                      refine (rKind_any _ _ _ m _ _ (HL.out.keep (K0.trans KA)).rk hb2).mono ?_; rintro e4 w4 ⟨rfl, k4⟩
                      have t1 := k4.cell g1; have t2 := k4.cell g2; have t3 := k4.cell g3; have t5 := k4.cell g5
                      go_wp2_with fail
                      refine (l1In_sp _ _ _ _).mono ?_; rintro e6 w6 ⟨rfl, rfl⟩
                      go_wp2_with fail
                      refine (l1In_sp _ _ _ _).mono ?_; rintro e7 w7 ⟨rfl, rfl⟩
                      go_wp2_with fail
                      refine (l1In_sp _ _ _ _).mono ?_; rintro e8 w8 ⟨rfl, rfl⟩
                      go_wp2_with fail
                      refine (l1In_sp _ _ _ _).mono ?_; rintro e9 w9 ⟨rfl, rfl⟩
                      go_wp2_with fail
                      go_roundw
                      case rel => exact ⟨j + 1, by omega, by go_num, HE2, (kr.trans KA).trans k4⟩
                      case measure => simp [intOf]; omega
        · obtain rfl : j = nk := by omega
          have HQ1 : Hid (Q = true) := Lib.hid (by rw [HQ.out]; exact allN_mk hE.out)
          have c2 := kr.cell s0.2.2.1
          have c3 := kr.cell s0.2.2.2.1
          have c4 := kr.cell s0.2.2.2.2.1
          have c5 := kr.cell s0.2.2.2.2.2.1
          have c6 := kr.cell s0.2.2.2.2.2.2.1
          cases h5 : spB 1 4 a
          · go_wp2_with fail
            refine (l1In_sp _ _ _ _).mono ?_; rintro e3 w3 ⟨rfl, rfl⟩
            go_wp2_with fail
            go_ret
            exact ⟨ret_bool (by rw [HR1.out, HQ1.out]; simp only [limB, h5]; rfl), K0⟩
          · skip
            cases h6 : spB 0 9 b
            · go_wp2_with fail
              refine (l1In_sp _ _ _ _).mono ?_; rintro e3 w3 ⟨rfl, rfl⟩
              go_wp2_with fail
              refine (l1In_sp _ _ _ _).mono ?_; rintro e4 w4 ⟨rfl, rfl⟩
              go_wp2_with fail
              go_ret
              exact ⟨ret_bool (by rw [HR1.out, HQ1.out]; simp only [limB, h5, h6]; rfl), K0⟩
            · skip
              cases h7 : spB 1 9 c
              · go_wp2_with fail
                refine (l1In_sp _ _ _ _).mono ?_; rintro e3 w3 ⟨rfl, rfl⟩
                go_wp2_with fail
                refine (l1In_sp _ _ _ _).mono ?_; rintro e4 w4 ⟨rfl, rfl⟩
                go_wp2_with fail
                refine (l1In_sp _ _ _ _).mono ?_; rintro e5 w5 ⟨rfl, rfl⟩
                go_wp2_with fail
                go_ret
                exact ⟨ret_bool (by rw [HR1.out, HQ1.out]; simp only [limB, h5, h6, h7]; rfl), K0⟩
              · skip
                cases h8 : spB 0 20 d
                · go_wp2_with fail
                  refine (l1In_sp _ _ _ _).mono ?_; rintro e3 w3 ⟨rfl, rfl⟩
                  go_wp2_with fail
                  refine (l1In_sp _ _ _ _).mono ?_; rintro e4 w4 ⟨rfl, rfl⟩
                  go_wp2_with fail
                  refine (l1In_sp _ _ _ _).mono ?_; rintro e5 w5 ⟨rfl, rfl⟩
                  go_wp2_with fail
                  refine (l1In_sp _ _ _ _).mono ?_; rintro e6 w6 ⟨rfl, rfl⟩
                  go_wp2_with fail
                  go_ret
                  exact ⟨ret_bool (by rw [HR1.out, HQ1.out]; simp only [limB, h5, h6, h7, h8]; rfl), K0⟩
                · go_wp2_with fail
                  refine (l1In_sp _ _ _ _).mono ?_; rintro e3 w3 ⟨rfl, rfl⟩
                  go_wp2_with fail
                  refine (l1In_sp _ _ _ _).mono ?_; rintro e4 w4 ⟨rfl, rfl⟩
                  go_wp2_with fail
                  refine (l1In_sp _ _ _ _).mono ?_; rintro e5 w5 ⟨rfl, rfl⟩
                  go_wp2_with fail
                  refine (l1In_sp _ _ _ _).mono ?_; rintro e6 w6 ⟨rfl, rfl⟩
                  go_wp2_with fail
                  refine (l1In_sp _ _ _ _).mono ?_; rintro e7 w7 ⟨rfl, rfl⟩
                  go_wp2_with fail
                  go_ret
                  exact ⟨ret_bool (by rw [HR1.out, HQ1.out]; simp only [limB, h5, h6, h7, h8]; rfl), K0⟩

theorem rGood_any (At Ak : Option Addr) (nt nk ct ck : Nat) (l : List Ter) (m : List Knd) (a b c d e : Int) (w : World) (h : RulAt w At Ak nt nk l m) :
    Calls Tryd.prog 29 #[rv (.slice At nt ct) (.slice Ak nk ck) a b c d e] w fun e' w' => e' = .returned (.bool (rulOk ⟨l, m, a, b, c, d, e⟩)) ∧ Kp w w' := by
  rw [← rulS_eq]
  unfold rulS
  simp only [h.rt.1, h.rk.1]
  cases h1 : spB 1 6 nt
  · exact rGood_no1 At Ak nt nk ct ck l m a b c d e w h h1
  · cases h2 : spB 1 4 nk
    · exact rGood_no2 At Ak nt nk ct ck l m a b c d e w h h1 h2
    · exact rGood_yes At Ak nt nk ct ck l m a b c d e w h h1 h2

end Go.Proofs.YtpdcmpojjchobaaDoor

/-
  What valid rules say of each kind and terrain: how long its name is, how great its numbers are.
-/
namespace Go.Proofs.YtpdcmpojjchobaaDoor
open Go.RowKit

theorem spB_bd {lo hi n : Int} (h : spB lo hi n = true) : lo ≤ n ∧ n ≤ hi := by
  simpa [spB] using h
theorem namesOk_size {l : List ByteArray} (h : namesOk l = true) {i : Nat} {x : ByteArray} (hx : l[i]? = some x) : x.size ≤ 8 := by
  have h1 := allN_at h (List.getElem?_eq_some_iff.1 hx).1
  have e : l.getD i ByteArray.empty = x := by simp [List.getD, hx]
  simp only [nameAt, e, Bool.and_eq_true, nameOk] at h1
  have := spB_bd h1.1.1
  omega
structure KndSm (k : Knd) : Prop where
  nm : k.name.size ≤ 8
  str : 0 ≤ k.str ∧ k.str < 100
  mov : 0 ≤ k.mov ∧ k.mov < 100
  stp : 0 ≤ k.stp ∧ k.stp < 100
  view : 0 ≤ k.view ∧ k.view < 100
structure TerSm (t : Ter) (nk : Nat) : Prop where
  nm : t.name.size ≤ 8
  len : t.cost.length = nk
  cost : ∀ x ∈ t.cost, 0 ≤ x ∧ x < 100
  shift : -100 < t.shift ∧ t.shift < 100
  height : 0 ≤ t.height ∧ t.height < 100
theorem rulOk_len {l : List Ter} {m : List Knd} {a b c d e : Int} (h : rulOk ⟨l, m, a, b, c, d, e⟩ = true) : (1 ≤ l.length ∧ l.length ≤ 6) ∧ (1 ≤ m.length ∧ m.length ≤ 4) := by
  simp only [rulOk, Bool.and_eq_true] at h
  have h1 := spB_bd h.1.1
  have h2 := spB_bd h.1.2.1
  omega
theorem rulOk_lim {l : List Ter} {m : List Knd} {a b c d e : Int} (h : rulOk ⟨l, m, a, b, c, d, e⟩ = true) : (0 ≤ a ∧ a < 100) ∧ (0 ≤ b ∧ b < 100) ∧ (0 ≤ c ∧ c < 100) ∧ (0 ≤ d ∧ d < 100) ∧ (0 ≤ e ∧ e < 100) := by
  simp only [rulOk, limB, Bool.and_eq_true] at h
  have h1 := spB_bd h.1.2.2.1
  have h2 := spB_bd h.1.2.2.2.1
  have h3 := spB_bd h.1.2.2.2.2.1
  have h4 := spB_bd h.1.2.2.2.2.2.1
  have h5 := spB_bd h.1.2.2.2.2.2.2
  omega
theorem rulOk_knd {l : List Ter} {m : List Knd} {a b c d e : Int} (h : rulOk ⟨l, m, a, b, c, d, e⟩ = true) {i : Nat} {k : Knd} (hk : m[i]? = some k) : KndSm k := by
  simp only [rulOk, Bool.and_eq_true] at h
  have h1 := List.all_eq_true.1 h.2.2.1 k (List.mem_of_getElem? hk)
  simp only [numK, Bool.and_eq_true] at h1
  have b1 := spB_bd h1.1
  have b2 := spB_bd h1.2.1
  have b3 := spB_bd h1.2.2.1
  have b4 := spB_bd h1.2.2.2
  exact ⟨namesOk_size h.2.2.2.2 (i := i) (by simp [kNames, hk]), by omega, by omega, by omega, by omega⟩
theorem rulOk_ter {l : List Ter} {m : List Knd} {a b c d e : Int} (h : rulOk ⟨l, m, a, b, c, d, e⟩ = true) {i : Nat} {t : Ter} (ht : l[i]? = some t) : TerSm t m.length := by
  simp only [rulOk, Bool.and_eq_true] at h
  have h1 := List.all_eq_true.1 h.2.1 t (List.mem_of_getElem? ht)
  simp only [numT, Bool.and_eq_true, decide_eq_true_iff] at h1
  have b1 := spB_bd h1.2.2.1
  have b2 := spB_bd h1.2.2.2
  refine ⟨namesOk_size h.2.2.2.1 (i := i) (by simp [tNames, ht]), h1.1, fun x hx => ?_, by omega, by omega⟩
  have := spB_bd (List.all_eq_true.1 h1.2.1 x hx)
  omega

end Go.Proofs.YtpdcmpojjchobaaDoor

/-
  The lines of kinds and terrains, as the reference writes them.
-/
namespace Go.Proofs.YtpdcmpojjchobaaDoor
open Go.RowKit

theorem ret_str {a b : ByteArray} (h : a = b) : Ending.returned (.string a) = .returned (.string b) := by rw [h]
theorem txt_nil : txt [] = ByteArray.empty := rfl

set_option maxRecDepth 100000 in
set_option maxHeartbeats 1000000 in
theorem l1Int_any (n : Int) (w : World) (h1 : -1000000 < n) (h2 : n < 1000000) :
    Calls Tryd.prog 83 #[.int .i64 n] w fun e w' => e = .returned (.string (txt (Lib.itoa n))) ∧ Kp w w' := by
  by_cases h0 : n < 0
  · obtain ⟨k, hk⟩ : ∃ k : Nat, -n = (k : Int) := ⟨(-n).toNat, by omega⟩
    have hk2 : k ≤ 1000000 := by omega
    have CA := Lib.hid (fun w => l1Num_any k w (by omega))
    have hz := decT_len k
    obtain ⟨s, hs⟩ : ∃ s, decT k = s := ⟨_, rfl⟩
    rw [hs] at CA hz
    have HR : Hid (ByteArray.mk #[45] ++ s = txt (Lib.itoa n)) := Lib.hid (by
      rw [← hs, decT_txt, show ByteArray.mk #[45] = txt [45] from rfl, txt_app]
      unfold Lib.itoa
      rw [if_pos h0, show n.natAbs = k by omega]
      rfl)
    have y1 : ¬ 9223372036854775807 < 1 + s.size := by omega
    have e1 : IntKind.i64.wrap (-n) = (k : Int) := by rw [hk]; exact IntWalk.i64_in _ (by omega)
    have e2 : -n = (k : Int) := hk
    clear hs
    go_enter Tryd.func83, Tryd.ntmps83
    go_wp2_with fail
    refine (CA.out _).mono ?_
    rintro e1 w1 ⟨rfl, k1⟩
    go_wp2_with fail
    go_ret
    exact ⟨ret_str HR.out, k1⟩
  · obtain ⟨k, rfl⟩ : ∃ k : Nat, n = (k : Int) := ⟨n.toNat, by omega⟩
    have CA := Lib.hid (fun w => l1Num_any k w (by omega))
    have HR : Hid (decT k = txt (Lib.itoa (k : Int))) := Lib.hid (by
      rw [decT_txt]
      unfold Lib.itoa
      rw [if_neg h0, Int.toNat_natCast])
    go_enter Tryd.func83, Tryd.ntmps83
    go_wp2_with fail
    refine (CA.out _).mono ?_
    rintro e1 w1 ⟨rfl, k1⟩
    go_wp2_with fail
    go_ret
    exact ⟨ret_str HR.out, k1⟩

set_option maxRecDepth 100000 in
set_option maxHeartbeats 8000000 in
theorem bfKind_any (nm : ByteArray) (a b c v : Nat) (z : Bool) (w : World) (hn : nm.size ≤ 8) (ha : a < 100) (hb : b < 100) (hc : c < 100) (hv : v < 100) :
    Calls Tryd.prog 31 #[kv nm a b c z v] w fun e w' => e = .returned (.string (txt (kindTx ⟨nm, a, b, c, z, v⟩))) ∧ Kp w w' := by
  have CA := Lib.hid (fun w => l1Num_any a w (by omega))
  obtain ⟨sa, hsa⟩ : ∃ y, decT a = y := ⟨_, rfl⟩
  have zsa : sa.size ≤ 2 := by rw [← hsa, decT_txt, txt_size]; exact dec_len (by omega)
  rw [hsa] at CA
  have CB := Lib.hid (fun w => l1Num_any b w (by omega))
  obtain ⟨sb, hsb⟩ : ∃ y, decT b = y := ⟨_, rfl⟩
  have zsb : sb.size ≤ 2 := by rw [← hsb, decT_txt, txt_size]; exact dec_len (by omega)
  rw [hsb] at CB
  have CC := Lib.hid (fun w => l1Num_any c w (by omega))
  obtain ⟨sc, hsc⟩ : ∃ y, decT c = y := ⟨_, rfl⟩
  have zsc : sc.size ≤ 2 := by rw [← hsc, decT_txt, txt_size]; exact dec_len (by omega)
  rw [hsc] at CC
  have CD := Lib.hid (fun w => l1Num_any v w (by omega))
  obtain ⟨sd, hsd⟩ : ∃ y, decT v = y := ⟨_, rfl⟩
  have zsd : sd.size ≤ 2 := by rw [← hsd, decT_txt, txt_size]; exact dec_len (by omega)
  rw [hsd] at CD
  obtain ⟨q1, hq1⟩ : ∃ y, (ByteArray.mk #[107, 105, 110, 100, 32]) ++ nm = y := ⟨_, rfl⟩
  have zq1 : q1.size ≤ 13 := by rw [← hq1, ByteArray.size_append]; have : (ByteArray.mk #[107, 105, 110, 100, 32]).size = 5 := rfl; omega
  have yq1 : ¬ 9223372036854775807 < 5 + nm.size := by omega
  obtain ⟨q2, hq2⟩ : ∃ y, q1 ++ (ByteArray.mk #[32, 115, 116, 114, 101, 110, 103, 116, 104, 32]) = y := ⟨_, rfl⟩
  have zq2 : q2.size ≤ 23 := by rw [← hq2, ByteArray.size_append]; have : (ByteArray.mk #[32, 115, 116, 114, 101, 110, 103, 116, 104, 32]).size = 10 := rfl; omega
  have yq2 : ¬ 9223372036854775807 < q1.size + 10 := by omega
  obtain ⟨q3, hq3⟩ : ∃ y, q2 ++ sa = y := ⟨_, rfl⟩
  have zq3 : q3.size ≤ 25 := by rw [← hq3, ByteArray.size_append]; omega
  have yq3 : ¬ 9223372036854775807 < q2.size + sa.size := by omega
  obtain ⟨q4, hq4⟩ : ∃ y, q3 ++ (ByteArray.mk #[32, 109, 111, 118, 101, 115, 32]) = y := ⟨_, rfl⟩
  have zq4 : q4.size ≤ 32 := by rw [← hq4, ByteArray.size_append]; have : (ByteArray.mk #[32, 109, 111, 118, 101, 115, 32]).size = 7 := rfl; omega
  have yq4 : ¬ 9223372036854775807 < q3.size + 7 := by omega
  obtain ⟨q5, hq5⟩ : ∃ y, q4 ++ sb = y := ⟨_, rfl⟩
  have zq5 : q5.size ≤ 34 := by rw [← hq5, ByteArray.size_append]; omega
  have yq5 : ¬ 9223372036854775807 < q4.size + sb.size := by omega
  obtain ⟨q6, hq6⟩ : ∃ y, q5 ++ (ByteArray.mk #[32, 115, 116, 101, 112, 115, 32]) = y := ⟨_, rfl⟩
  have zq6 : q6.size ≤ 41 := by rw [← hq6, ByteArray.size_append]; have : (ByteArray.mk #[32, 115, 116, 101, 112, 115, 32]).size = 7 := rfl; omega
  have yq6 : ¬ 9223372036854775807 < q5.size + 7 := by omega
  obtain ⟨q7, hq7⟩ : ∃ y, q6 ++ sc = y := ⟨_, rfl⟩
  have zq7 : q7.size ≤ 43 := by rw [← hq7, ByteArray.size_append]; omega
  have yq7 : ¬ 9223372036854775807 < q6.size + sc.size := by omega
  obtain ⟨q8, hq8⟩ : ∃ y, q7 ++ (ByteArray.mk #[32, 118, 105, 101, 119, 32]) = y := ⟨_, rfl⟩
  have zq8 : q8.size ≤ 49 := by rw [← hq8, ByteArray.size_append]; have : (ByteArray.mk #[32, 118, 105, 101, 119, 32]).size = 6 := rfl; omega
  have yq8 : ¬ 9223372036854775807 < q7.size + 6 := by omega
  obtain ⟨q9, hq9⟩ : ∃ y, q8 ++ sd = y := ⟨_, rfl⟩
  have zq9 : q9.size ≤ 51 := by rw [← hq9, ByteArray.size_append]; omega
  have yq9 : ¬ 9223372036854775807 < q8.size + sd.size := by omega
  have HR : Hid (q9 ++ (if z then ByteArray.mk #[32, 122, 111, 110, 101] else ⟨#[]⟩) = txt (kindTx ⟨nm, a, b, c, z, v⟩)) := Lib.hid (by
    rw [← hq9, ← hq8, ← hq7, ← hq6, ← hq5, ← hq4, ← hq3, ← hq2, ← hq1, ← hsa, ← hsb, ← hsc, ← hsd, decT_txt, decT_txt, decT_txt, decT_txt, ← txt_of nm]
    unfold kindTx
    simp only [Int.toNat_natCast]
    cases z <;> simp [txt] <;> (apply ByteArray.ext; simp [ByteArray.data_append]))
  have yl : ¬ 9223372036854775807 < q9.size + 5 := by omega
  have s1 : (w.alloc (.cells #[.string nm, .int .i64 (a : Int), .int .i64 (b : Int), .int .i64 (c : Int), .bool z, .int .i64 (v : Int)] 62)).drew.cell? ⟨w.heap.size, 0, none⟩ = some (.string nm) ∧ (w.alloc (.cells #[.string nm, .int .i64 (a : Int), .int .i64 (b : Int), .int .i64 (c : Int), .bool z, .int .i64 (v : Int)] 62)).drew.cell? ⟨w.heap.size, 1, none⟩ = some (.int .i64 (a : Int)) ∧ (w.alloc (.cells #[.string nm, .int .i64 (a : Int), .int .i64 (b : Int), .int .i64 (c : Int), .bool z, .int .i64 (v : Int)] 62)).drew.cell? ⟨w.heap.size, 2, none⟩ = some (.int .i64 (b : Int)) ∧ (w.alloc (.cells #[.string nm, .int .i64 (a : Int), .int .i64 (b : Int), .int .i64 (c : Int), .bool z, .int .i64 (v : Int)] 62)).drew.cell? ⟨w.heap.size, 3, none⟩ = some (.int .i64 (c : Int)) ∧ (w.alloc (.cells #[.string nm, .int .i64 (a : Int), .int .i64 (b : Int), .int .i64 (c : Int), .bool z, .int .i64 (v : Int)] 62)).drew.cell? ⟨w.heap.size, 4, none⟩ = some (.bool z) ∧ (w.alloc (.cells #[.string nm, .int .i64 (a : Int), .int .i64 (b : Int), .int .i64 (c : Int), .bool z, .int .i64 (v : Int)] 62)).drew.cell? ⟨w.heap.size, 5, none⟩ = some (.int .i64 (v : Int)) ∧ Kp w (w.alloc (.cells #[.string nm, .int .i64 (a : Int), .int .i64 (b : Int), .int .i64 (c : Int), .bool z, .int .i64 (v : Int)] 62)).drew := ⟨by simp [go_sem], by simp [go_sem], by simp [go_sem], by simp [go_sem], by simp [go_sem], by simp [go_sem], ((Kp.refl w).alloc _).drew⟩
  clear hsa hsb hsc hsd ha hb hc hv hn
  go_enter Tryd.func31, Tryd.ntmps31
  go_wp2_with fail
  refine wp_region_held_drew (S := (fun w' => w'.cell? ⟨w.heap.size, 0, none⟩ = some (.string nm) ∧ w'.cell? ⟨w.heap.size, 1, none⟩ = some (.int .i64 (a : Int)) ∧ w'.cell? ⟨w.heap.size, 2, none⟩ = some (.int .i64 (b : Int)) ∧ w'.cell? ⟨w.heap.size, 3, none⟩ = some (.int .i64 (c : Int)) ∧ w'.cell? ⟨w.heap.size, 4, none⟩ = some (.bool z) ∧ w'.cell? ⟨w.heap.size, 5, none⟩ = some (.int .i64 (v : Int)) ∧ Kp w w')) (by kernel_rfl) ?_ (fun hHeld => ?_)
  · exact s1
  refine wpAnyH_take (i := 0) (oi := ⟨some 4, _, _, _, _, _⟩) (v := ?_) rfl (by kernel_rfl) (by kernel_rfl) (by kernel_rfl) (fun _ _ _ h => h) (Or.inl ⟨by rfl, ?_⟩) (by assumption) ?_
  rotate_left
  · intro w hSw; (try dsimp only at hSw); go_simp; (all_goals with_reducible rfl)
  simp only [Act.put, List.setIfInBounds_toArray, List.set_cons_zero, List.set_cons_succ]
  refine wpAnyH_take (i := 1) (oi := ⟨some 5, _, _, _, _, _⟩) (v := ?_) rfl (by kernel_rfl) (by kernel_rfl) (by kernel_rfl) (fun _ _ _ h => h) (Or.inl ⟨by rfl, ?_⟩) (by assumption) ?_
  rotate_left
  · intro w hSw; (try dsimp only at hSw); go_simp; (all_goals with_reducible rfl)
  simp only [Act.put, List.setIfInBounds_toArray, List.set_cons_zero, List.set_cons_succ]
  refine wpAnyH_take (i := 2) (oi := ⟨some 6, _, _, _, _, _⟩) (v := ?_) rfl (by kernel_rfl) (by kernel_rfl) (by kernel_rfl) (fun _ _ _ h => h) (Or.inl ⟨by rfl, ?_⟩) (by assumption) ?_
  rotate_left
  · intro w hSw; (try dsimp only at hSw); go_simp; (all_goals with_reducible rfl)
  simp only [Act.put, List.setIfInBounds_toArray, List.set_cons_zero, List.set_cons_succ]
  refine wpAnyH_take (i := 3) (oi := ⟨some 7, _, _, _, _, _⟩) (v := ?_) rfl (by kernel_rfl) (by kernel_rfl) (by kernel_rfl) (fun _ _ _ h => h) (Or.inl ⟨by rfl, ?_⟩) (by assumption) ?_
  rotate_left
  · intro w hSw; (try dsimp only at hSw); go_simp; (all_goals with_reducible rfl)
  simp only [Act.put, List.setIfInBounds_toArray, List.set_cons_zero, List.set_cons_succ]
  refine wpAnyH_take (i := 4) (oi := ⟨some 8, _, _, _, _, _⟩) (v := ?_) rfl (by kernel_rfl) (by kernel_rfl) (by kernel_rfl) (fun _ _ _ h => h) (Or.inl ⟨by rfl, ?_⟩) (by assumption) ?_
  rotate_left
  · intro w hSw; (try dsimp only at hSw); go_simp; (all_goals with_reducible rfl)
  simp only [Act.put, List.setIfInBounds_toArray, List.set_cons_zero, List.set_cons_succ]
  refine wpAnyH_take (i := 5) (oi := ⟨some 9, _, _, _, _, _⟩) (v := ?_) rfl (by kernel_rfl) (by kernel_rfl) (by kernel_rfl) (fun _ _ _ h => h) (Or.inl ⟨by rfl, ?_⟩) (by assumption) ?_
  rotate_left
  · intro w hSw; (try dsimp only at hSw); go_simp; (all_goals with_reducible rfl)
  simp only [Act.put, List.setIfInBounds_toArray, List.set_cons_zero, List.set_cons_succ]
  refine wpAnyH_take (i := 9) (oi := ⟨some 13, _, _, _, _, _⟩) (v := ?_) rfl (by kernel_rfl) (by kernel_rfl) (by kernel_rfl) (fun _ _ _ h => h) (Or.inl ⟨by rfl, ?_⟩) (by assumption) ?_
  rotate_left
  · intro w hSw; (try dsimp only at hSw); go_simp; (all_goals with_reducible rfl)
  simp only [Act.put, List.setIfInBounds_toArray, List.set_cons_zero, List.set_cons_succ]
  refine wpAnyH_take (i := 10) (oi := ⟨some 14, _, _, _, _, _⟩) (v := ?_) rfl (by kernel_rfl) (by kernel_rfl) (by kernel_rfl) (fun _ _ _ h => h) (Or.inl ⟨by rfl, ?_⟩) (by assumption) ?_
  rotate_left
  · intro w hSw; (try dsimp only at hSw); go_simp; (all_goals with_reducible rfl)
  simp only [Act.put, List.setIfInBounds_toArray, List.set_cons_zero, List.set_cons_succ]
  refine wpAnyH_take (i := 14) (oi := ⟨some 18, _, _, _, _, _⟩) (v := ?_) rfl (by kernel_rfl) (by kernel_rfl) (by kernel_rfl) (fun _ _ _ h => h) (Or.inl ⟨by rfl, ?_⟩) (by assumption) ?_
  rotate_left
  · intro w hSw; (try dsimp only at hSw); go_simp; (all_goals with_reducible rfl)
  simp only [Act.put, List.setIfInBounds_toArray, List.set_cons_zero, List.set_cons_succ]
  refine wpAnyH_take (i := 15) (oi := ⟨some 19, _, _, _, _, _⟩) (v := ?_) rfl (by kernel_rfl) (by kernel_rfl) (by kernel_rfl) (fun _ _ _ h => h) (Or.inl ⟨by rfl, ?_⟩) (by assumption) ?_
  rotate_left
  · intro w hSw; (try dsimp only at hSw); go_simp; (all_goals with_reducible rfl)
  simp only [Act.put, List.setIfInBounds_toArray, List.set_cons_zero, List.set_cons_succ]
  refine wpAnyH_take (i := 19) (oi := ⟨some 23, _, _, _, _, _⟩) (v := ?_) rfl (by kernel_rfl) (by kernel_rfl) (by kernel_rfl) (fun _ _ _ h => h) (Or.inl ⟨by rfl, ?_⟩) (by assumption) ?_
  rotate_left
  · intro w hSw; (try dsimp only at hSw); go_simp; (all_goals with_reducible rfl)
  simp only [Act.put, List.setIfInBounds_toArray, List.set_cons_zero, List.set_cons_succ]
  refine wpAnyH_take (i := 20) (oi := ⟨some 24, _, _, _, _, _⟩) (v := ?_) rfl (by kernel_rfl) (by kernel_rfl) (by kernel_rfl) (fun _ _ _ h => h) (Or.inl ⟨by rfl, ?_⟩) (by assumption) ?_
  rotate_left
  · intro w hSw; (try dsimp only at hSw); go_simp; (all_goals with_reducible rfl)
  simp only [Act.put, List.setIfInBounds_toArray, List.set_cons_zero, List.set_cons_succ]
  refine wpAnyH_ready (rs := [6]) (by kernel_rfl) (by simp) ?_
  refine AllReadyH.cons (o := ⟨some 10, _, _, _, _, _⟩) rfl (fun K hK => ?_) AllReadyH.nil
  go_simp
  refine (CA.out _).mono ?_; rintro e1 w1 ⟨rfl, k1⟩; have s2 : w1.cell? ⟨w.heap.size, 0, none⟩ = some (.string nm) ∧ w1.cell? ⟨w.heap.size, 1, none⟩ = some (.int .i64 (a : Int)) ∧ w1.cell? ⟨w.heap.size, 2, none⟩ = some (.int .i64 (b : Int)) ∧ w1.cell? ⟨w.heap.size, 3, none⟩ = some (.int .i64 (c : Int)) ∧ w1.cell? ⟨w.heap.size, 4, none⟩ = some (.bool z) ∧ w1.cell? ⟨w.heap.size, 5, none⟩ = some (.int .i64 (v : Int)) ∧ Kp w w1 := ⟨k1.cell s1.1, k1.cell s1.2.1, k1.cell s1.2.2.1, k1.cell s1.2.2.2.1, k1.cell s1.2.2.2.2.1, k1.cell s1.2.2.2.2.2.1, s1.2.2.2.2.2.2.trans k1⟩; clear k1
  go_wp2_with fail
  refine hK.out _ _ ?_ (fun hHeld => ?_)
  · (try dsimp only); (first | assumption | exact s5 | exact s4 | exact s3 | exact s2 | exact s1)
  clear hK K
  try simp only [Act.put, List.setIfInBounds_toArray, List.set_cons_zero, List.set_cons_succ]
  refine wpAnyH_take (i := 7) (oi := ⟨some 11, _, _, _, _, _⟩) (v := ?_) rfl (by kernel_rfl) (by kernel_rfl) (by kernel_rfl) (fun _ _ _ h => h) (Or.inl ⟨by rfl, ?_⟩) (by assumption) ?_
  rotate_left
  · intro w hSw; (try dsimp only at hSw); go_simp; (all_goals with_reducible rfl)
  simp only [Act.put, List.setIfInBounds_toArray, List.set_cons_zero, List.set_cons_succ]
  refine wpAnyH_take (i := 8) (oi := ⟨some 12, _, _, _, _, _⟩) (v := ?_) rfl (by kernel_rfl) (by kernel_rfl) (by kernel_rfl) (fun _ _ _ h => h) (Or.inl ⟨by rfl, ?_⟩) (by assumption) ?_
  rotate_left
  · intro w hSw; (try dsimp only at hSw); go_simp; (all_goals with_reducible rfl)
  simp only [Act.put, List.setIfInBounds_toArray, List.set_cons_zero, List.set_cons_succ]
  refine wpAnyH_ready (rs := [11]) (by kernel_rfl) (by simp) ?_
  refine AllReadyH.cons (o := ⟨some 15, _, _, _, _, _⟩) rfl (fun K hK => ?_) AllReadyH.nil
  go_simp
  refine (CB.out _).mono ?_; rintro e2 w2 ⟨rfl, k2⟩; have s3 : w2.cell? ⟨w.heap.size, 0, none⟩ = some (.string nm) ∧ w2.cell? ⟨w.heap.size, 1, none⟩ = some (.int .i64 (a : Int)) ∧ w2.cell? ⟨w.heap.size, 2, none⟩ = some (.int .i64 (b : Int)) ∧ w2.cell? ⟨w.heap.size, 3, none⟩ = some (.int .i64 (c : Int)) ∧ w2.cell? ⟨w.heap.size, 4, none⟩ = some (.bool z) ∧ w2.cell? ⟨w.heap.size, 5, none⟩ = some (.int .i64 (v : Int)) ∧ Kp w w2 := ⟨k2.cell s2.1, k2.cell s2.2.1, k2.cell s2.2.2.1, k2.cell s2.2.2.2.1, k2.cell s2.2.2.2.2.1, k2.cell s2.2.2.2.2.2.1, s2.2.2.2.2.2.2.trans k2⟩; clear k2
  go_wp2_with fail
  refine hK.out _ _ ?_ (fun hHeld => ?_)
  · (try dsimp only); (first | assumption | exact s5 | exact s4 | exact s3 | exact s2 | exact s1)
  clear hK K
  try simp only [Act.put, List.setIfInBounds_toArray, List.set_cons_zero, List.set_cons_succ]
  refine wpAnyH_take (i := 12) (oi := ⟨some 16, _, _, _, _, _⟩) (v := ?_) rfl (by kernel_rfl) (by kernel_rfl) (by kernel_rfl) (fun _ _ _ h => h) (Or.inl ⟨by rfl, ?_⟩) (by assumption) ?_
  rotate_left
  · intro w hSw; (try dsimp only at hSw); go_simp; (all_goals with_reducible rfl)
  simp only [Act.put, List.setIfInBounds_toArray, List.set_cons_zero, List.set_cons_succ]
  refine wpAnyH_take (i := 13) (oi := ⟨some 17, _, _, _, _, _⟩) (v := ?_) rfl (by kernel_rfl) (by kernel_rfl) (by kernel_rfl) (fun _ _ _ h => h) (Or.inl ⟨by rfl, ?_⟩) (by assumption) ?_
  rotate_left
  · intro w hSw; (try dsimp only at hSw); go_simp; (all_goals with_reducible rfl)
  simp only [Act.put, List.setIfInBounds_toArray, List.set_cons_zero, List.set_cons_succ]
  refine wpAnyH_ready (rs := [16]) (by kernel_rfl) (by simp) ?_
  refine AllReadyH.cons (o := ⟨some 20, _, _, _, _, _⟩) rfl (fun K hK => ?_) AllReadyH.nil
  go_simp
  refine (CC.out _).mono ?_; rintro e3 w3 ⟨rfl, k3⟩; have s4 : w3.cell? ⟨w.heap.size, 0, none⟩ = some (.string nm) ∧ w3.cell? ⟨w.heap.size, 1, none⟩ = some (.int .i64 (a : Int)) ∧ w3.cell? ⟨w.heap.size, 2, none⟩ = some (.int .i64 (b : Int)) ∧ w3.cell? ⟨w.heap.size, 3, none⟩ = some (.int .i64 (c : Int)) ∧ w3.cell? ⟨w.heap.size, 4, none⟩ = some (.bool z) ∧ w3.cell? ⟨w.heap.size, 5, none⟩ = some (.int .i64 (v : Int)) ∧ Kp w w3 := ⟨k3.cell s3.1, k3.cell s3.2.1, k3.cell s3.2.2.1, k3.cell s3.2.2.2.1, k3.cell s3.2.2.2.2.1, k3.cell s3.2.2.2.2.2.1, s3.2.2.2.2.2.2.trans k3⟩; clear k3
  go_wp2_with fail
  refine hK.out _ _ ?_ (fun hHeld => ?_)
  · (try dsimp only); (first | assumption | exact s5 | exact s4 | exact s3 | exact s2 | exact s1)
  clear hK K
  try simp only [Act.put, List.setIfInBounds_toArray, List.set_cons_zero, List.set_cons_succ]
  refine wpAnyH_take (i := 17) (oi := ⟨some 21, _, _, _, _, _⟩) (v := ?_) rfl (by kernel_rfl) (by kernel_rfl) (by kernel_rfl) (fun _ _ _ h => h) (Or.inl ⟨by rfl, ?_⟩) (by assumption) ?_
  rotate_left
  · intro w hSw; (try dsimp only at hSw); go_simp; (all_goals with_reducible rfl)
  simp only [Act.put, List.setIfInBounds_toArray, List.set_cons_zero, List.set_cons_succ]
  refine wpAnyH_take (i := 18) (oi := ⟨some 22, _, _, _, _, _⟩) (v := ?_) rfl (by kernel_rfl) (by kernel_rfl) (by kernel_rfl) (fun _ _ _ h => h) (Or.inl ⟨by rfl, ?_⟩) (by assumption) ?_
  rotate_left
  · intro w hSw; (try dsimp only at hSw); go_simp; (all_goals with_reducible rfl)
  simp only [Act.put, List.setIfInBounds_toArray, List.set_cons_zero, List.set_cons_succ]
  refine wpAnyH_ready (rs := [21]) (by kernel_rfl) (by simp) ?_
  refine AllReadyH.cons (o := ⟨some 25, _, _, _, _, _⟩) rfl (fun K hK => ?_) AllReadyH.nil
  go_simp
  refine (CD.out _).mono ?_; rintro e4 w4 ⟨rfl, k4⟩; have s5 : w4.cell? ⟨w.heap.size, 0, none⟩ = some (.string nm) ∧ w4.cell? ⟨w.heap.size, 1, none⟩ = some (.int .i64 (a : Int)) ∧ w4.cell? ⟨w.heap.size, 2, none⟩ = some (.int .i64 (b : Int)) ∧ w4.cell? ⟨w.heap.size, 3, none⟩ = some (.int .i64 (c : Int)) ∧ w4.cell? ⟨w.heap.size, 4, none⟩ = some (.bool z) ∧ w4.cell? ⟨w.heap.size, 5, none⟩ = some (.int .i64 (v : Int)) ∧ Kp w w4 := ⟨k4.cell s4.1, k4.cell s4.2.1, k4.cell s4.2.2.1, k4.cell s4.2.2.2.1, k4.cell s4.2.2.2.2.1, k4.cell s4.2.2.2.2.2.1, s4.2.2.2.2.2.2.trans k4⟩; clear k4
  go_wp2_with fail
  refine hK.out _ _ ?_ (fun hHeld => ?_)
  · (try dsimp only); (first | assumption | exact s5 | exact s4 | exact s3 | exact s2 | exact s1)
  clear hK K
  try simp only [Act.put, List.setIfInBounds_toArray, List.set_cons_zero, List.set_cons_succ]
  refine wpAnyH_take (i := 22) (oi := ⟨some 26, _, _, _, _, _⟩) (v := ?_) rfl (by kernel_rfl) (by kernel_rfl) (by kernel_rfl) (fun _ _ _ h => h) (Or.inl ⟨by rfl, ?_⟩) (by assumption) ?_
  rotate_left
  · intro w hSw; (try dsimp only at hSw); go_simp; (all_goals with_reducible rfl)
  simp only [Act.put, List.setIfInBounds_toArray, List.set_cons_zero, List.set_cons_succ]
  refine wpAnyH_take (i := 23) (oi := ⟨some 3, _, _, _, _, _⟩) (v := ?_) rfl (by kernel_rfl) (by kernel_rfl) (by kernel_rfl) (fun _ _ _ h => h) (Or.inl ⟨by rfl, ?_⟩) (by assumption) ?_
  rotate_left
  · intro w hSw; (try dsimp only at hSw); go_simp; (all_goals with_reducible rfl)
  simp only [Act.put, List.setIfInBounds_toArray, List.set_cons_zero, List.set_cons_succ]
  refine wpAnyH_done (by kernel_rfl) ?_ _
  obtain ⟨c0, c1, c2, c3, c4, c5, K5⟩ := s5
  cases z
  · go_wp2_with fail
    go_ret
    exact ⟨ret_str (by have h := HR.out; rw [if_neg (by decide)] at h; rw [← h]; apply ByteArray.ext; simp [ByteArray.data_append]), K5⟩
  · go_wp2_with fail
    go_ret
    exact ⟨ret_str (by have h := HR.out; rw [if_pos trivial] at h; exact h), K5⟩

set_option maxRecDepth 100000 in
set_option maxHeartbeats 8000000 in
theorem bfTerrain_any (nm : ByteArray) (A : Option Addr) (n cc : Nat) (l : List Int) (s : Int) (h : Nat) (z : Bool) (w : World) (hr : RdI w (.slice A n cc) l) (hm : TerSm ⟨nm, l, s, h, z⟩ n) (hn : n ≤ 100) :
    Calls Tryd.prog 39 #[tv nm A n cc s h z] w fun e w' => e = .returned (.string (txt (terTx ⟨nm, l, s, h, z⟩))) ∧ Kp w w' := by
  obtain ⟨m1, m2, m3, m4, m5⟩ := hm
  simp only at m1 m2 m3 m4 m5
  have hh : h < 100 := by omega
  have CA := Lib.hid (fun w => l1Int_any s w (by omega) (by omega))
  have CB := Lib.hid (fun w => l1Num_any h w (by omega))
  obtain ⟨sa, hsa⟩ : ∃ y, txt (Lib.itoa s) = y := ⟨_, rfl⟩
  have zsa : sa.size ≤ 3 := by rw [← hsa, txt_size]; exact itoa_len2 m4.1 m4.2
  rw [hsa] at CA
  obtain ⟨sb, hsb⟩ : ∃ y, decT h = y := ⟨_, rfl⟩
  have zsb : sb.size ≤ 2 := by rw [← hsb, decT_txt, txt_size]; exact dec_len (by omega)
  rw [hsb] at CB
  obtain ⟨q1, hq1⟩ : ∃ y, (ByteArray.mk #[116, 101, 114, 114, 97, 105, 110, 32]) ++ nm = y := ⟨_, rfl⟩
  have zq1 : q1.size ≤ 16 := by rw [← hq1, ByteArray.size_append]; have : (ByteArray.mk #[116, 101, 114, 114, 97, 105, 110, 32]).size = 8 := rfl; omega
  have yq1 : ¬ 9223372036854775807 < 8 + nm.size := by omega
  obtain ⟨q2, hq2⟩ : ∃ y, q1 ++ (ByteArray.mk #[32, 115, 104, 105, 102, 116, 32]) = y := ⟨_, rfl⟩
  have zq2 : q2.size ≤ 23 := by rw [← hq2, ByteArray.size_append]; have : (ByteArray.mk #[32, 115, 104, 105, 102, 116, 32]).size = 7 := rfl; omega
  have yq2 : ¬ 9223372036854775807 < q1.size + 7 := by omega
  obtain ⟨q3, hq3⟩ : ∃ y, q2 ++ sa = y := ⟨_, rfl⟩
  have zq3 : q3.size ≤ 26 := by rw [← hq3, ByteArray.size_append]; omega
  have yq3 : ¬ 9223372036854775807 < q2.size + sa.size := by omega
  obtain ⟨q4, hq4⟩ : ∃ y, q3 ++ (ByteArray.mk #[32, 104, 101, 105, 103, 104, 116, 32]) = y := ⟨_, rfl⟩
  have zq4 : q4.size ≤ 34 := by rw [← hq4, ByteArray.size_append]; have : (ByteArray.mk #[32, 104, 101, 105, 103, 104, 116, 32]).size = 8 := rfl; omega
  have yq4 : ¬ 9223372036854775807 < q3.size + 8 := by omega
  obtain ⟨q5, hq5⟩ : ∃ y, q4 ++ sb = y := ⟨_, rfl⟩
  have zq5 : q5.size ≤ 36 := by rw [← hq5, ByteArray.size_append]; omega
  have yq5 : ¬ 9223372036854775807 < q4.size + sb.size := by omega
  obtain ⟨q6, hq6⟩ : ∃ y, q5 ++ (ByteArray.mk #[32, 99, 111, 115, 116]) = y := ⟨_, rfl⟩
  have zq6 : q6.size ≤ 41 := by rw [← hq6, ByteArray.size_append]; have : (ByteArray.mk #[32, 99, 111, 115, 116]).size = 5 := rfl; omega
  have yq6 : ¬ 9223372036854775807 < q5.size + 5 := by omega
  obtain ⟨HD, hHD⟩ : ∃ y, y = [116, 101, 114, 114, 97, 105, 110, 32] ++ nm.data.toList ++ [32, 115, 104, 105, 102, 116, 32] ++ Lib.itoa s ++ [32, 104, 101, 105, 103, 104, 116, 32] ++ Lib.decDigits h ++ [32, 99, 111, 115, 116] := ⟨_, rfl⟩
  have HR : Hid (q6 = txt HD) := Lib.hid (by
    rw [hHD, ← hq6, ← hq5, ← hq4, ← hq3, ← hq2, ← hq1, ← hsa, ← hsb, decT_txt, ← txt_of nm]
    simp [txt] <;> (apply ByteArray.ext; simp [ByteArray.data_append]))
  have HE : Hid (terTx ⟨nm, l, s, h, z⟩ = HD ++ costsT l ++ (if z then [32, 98, 108, 111, 99, 107, 115] else [])) := Lib.hid (by rw [hHD]; unfold terTx; simp only [Int.toNat_natCast])
  have HDL : Hid (HD.length ≤ 41) := Lib.hid (by have := congrArg ByteArray.size HR.out; rw [txt_size] at this; omega)
  have HL := Lib.hid m2
  have HC := Lib.hid m3
  have HCL := Lib.hid (fun (q : Nat) => costsT_len (l.take q) (fun x hx => (m3 x (List.mem_of_mem_take hx)).2))
  have s1 : (w.alloc (.cells #[.string nm, .slice A n cc, .int .i64 s, .int .i64 (h : Int), .bool z] 70)).drew.cell? ⟨w.heap.size, 0, none⟩ = some (.string nm) ∧ (w.alloc (.cells #[.string nm, .slice A n cc, .int .i64 s, .int .i64 (h : Int), .bool z] 70)).drew.cell? ⟨w.heap.size, 1, none⟩ = some (.slice A n cc) ∧ (w.alloc (.cells #[.string nm, .slice A n cc, .int .i64 s, .int .i64 (h : Int), .bool z] 70)).drew.cell? ⟨w.heap.size, 2, none⟩ = some (.int .i64 s) ∧ (w.alloc (.cells #[.string nm, .slice A n cc, .int .i64 s, .int .i64 (h : Int), .bool z] 70)).drew.cell? ⟨w.heap.size, 3, none⟩ = some (.int .i64 (h : Int)) ∧ (w.alloc (.cells #[.string nm, .slice A n cc, .int .i64 s, .int .i64 (h : Int), .bool z] 70)).drew.cell? ⟨w.heap.size, 4, none⟩ = some (.bool z) ∧ Kp w (w.alloc (.cells #[.string nm, .slice A n cc, .int .i64 s, .int .i64 (h : Int), .bool z] 70)).drew := ⟨by simp [go_sem], by simp [go_sem], by simp [go_sem], by simp [go_sem], by simp [go_sem], ((Kp.refl w).alloc _).drew⟩
  have HRD := Lib.hid hr
  clear hsa hsb hHD m1 m2 m3 m4 m5 hr
  go_enter Tryd.func39, Tryd.ntmps39
  go_wp2_with fail
  refine wp_region_held_drew (S := (fun w' => w'.cell? ⟨w.heap.size, 0, none⟩ = some (.string nm) ∧ w'.cell? ⟨w.heap.size, 1, none⟩ = some (.slice A n cc) ∧ w'.cell? ⟨w.heap.size, 2, none⟩ = some (.int .i64 s) ∧ w'.cell? ⟨w.heap.size, 3, none⟩ = some (.int .i64 (h : Int)) ∧ w'.cell? ⟨w.heap.size, 4, none⟩ = some (.bool z) ∧ Kp w w')) (by kernel_rfl) ?_ (fun hHeld => ?_)
  · exact s1
  refine wpAnyH_take (i := 0) (oi := ⟨some 6, _, _, _, _, _⟩) (v := ?_) rfl (by kernel_rfl) (by kernel_rfl) (by kernel_rfl) (fun _ _ _ h => h) (Or.inl ⟨by rfl, ?_⟩) (by assumption) ?_
  rotate_left
  · intro w hSw; (try dsimp only at hSw); go_simp; (all_goals with_reducible rfl)
  simp only [Act.put, List.setIfInBounds_toArray, List.set_cons_zero, List.set_cons_succ]
  refine wpAnyH_take (i := 1) (oi := ⟨some 7, _, _, _, _, _⟩) (v := ?_) rfl (by kernel_rfl) (by kernel_rfl) (by kernel_rfl) (fun _ _ _ h => h) (Or.inl ⟨by rfl, ?_⟩) (by assumption) ?_
  rotate_left
  · intro w hSw; (try dsimp only at hSw); go_simp; (all_goals with_reducible rfl)
  simp only [Act.put, List.setIfInBounds_toArray, List.set_cons_zero, List.set_cons_succ]
  refine wpAnyH_take (i := 2) (oi := ⟨some 8, _, _, _, _, _⟩) (v := ?_) rfl (by kernel_rfl) (by kernel_rfl) (by kernel_rfl) (fun _ _ _ h => h) (Or.inl ⟨by rfl, ?_⟩) (by assumption) ?_
  rotate_left
  · intro w hSw; (try dsimp only at hSw); go_simp; (all_goals with_reducible rfl)
  simp only [Act.put, List.setIfInBounds_toArray, List.set_cons_zero, List.set_cons_succ]
  refine wpAnyH_take (i := 3) (oi := ⟨some 9, _, _, _, _, _⟩) (v := ?_) rfl (by kernel_rfl) (by kernel_rfl) (by kernel_rfl) (fun _ _ _ h => h) (Or.inl ⟨by rfl, ?_⟩) (by assumption) ?_
  rotate_left
  · intro w hSw; (try dsimp only at hSw); go_simp; (all_goals with_reducible rfl)
  simp only [Act.put, List.setIfInBounds_toArray, List.set_cons_zero, List.set_cons_succ]
  refine wpAnyH_take (i := 4) (oi := ⟨some 10, _, _, _, _, _⟩) (v := ?_) rfl (by kernel_rfl) (by kernel_rfl) (by kernel_rfl) (fun _ _ _ h => h) (Or.inl ⟨by rfl, ?_⟩) (by assumption) ?_
  rotate_left
  · intro w hSw; (try dsimp only at hSw); go_simp; (all_goals with_reducible rfl)
  simp only [Act.put, List.setIfInBounds_toArray, List.set_cons_zero, List.set_cons_succ]
  refine wpAnyH_take (i := 5) (oi := ⟨some 11, _, _, _, _, _⟩) (v := ?_) rfl (by kernel_rfl) (by kernel_rfl) (by kernel_rfl) (fun _ _ _ h => h) (Or.inl ⟨by rfl, ?_⟩) (by assumption) ?_
  rotate_left
  · intro w hSw; (try dsimp only at hSw); go_simp; (all_goals with_reducible rfl)
  simp only [Act.put, List.setIfInBounds_toArray, List.set_cons_zero, List.set_cons_succ]
  refine wpAnyH_take (i := 9) (oi := ⟨some 15, _, _, _, _, _⟩) (v := ?_) rfl (by kernel_rfl) (by kernel_rfl) (by kernel_rfl) (fun _ _ _ h => h) (Or.inl ⟨by rfl, ?_⟩) (by assumption) ?_
  rotate_left
  · intro w hSw; (try dsimp only at hSw); go_simp; (all_goals with_reducible rfl)
  simp only [Act.put, List.setIfInBounds_toArray, List.set_cons_zero, List.set_cons_succ]
  refine wpAnyH_take (i := 10) (oi := ⟨some 16, _, _, _, _, _⟩) (v := ?_) rfl (by kernel_rfl) (by kernel_rfl) (by kernel_rfl) (fun _ _ _ h => h) (Or.inl ⟨by rfl, ?_⟩) (by assumption) ?_
  rotate_left
  · intro w hSw; (try dsimp only at hSw); go_simp; (all_goals with_reducible rfl)
  simp only [Act.put, List.setIfInBounds_toArray, List.set_cons_zero, List.set_cons_succ]
  refine wpAnyH_ready (rs := [6]) (by kernel_rfl) (by simp) ?_
  refine AllReadyH.cons (o := ⟨some 12, _, _, _, _, _⟩) rfl (fun K hK => ?_) AllReadyH.nil
  go_simp
  refine (CA.out _).mono ?_; rintro e1 w1 ⟨rfl, k1⟩; have s2 : w1.cell? ⟨w.heap.size, 0, none⟩ = some (.string nm) ∧ w1.cell? ⟨w.heap.size, 1, none⟩ = some (.slice A n cc) ∧ w1.cell? ⟨w.heap.size, 2, none⟩ = some (.int .i64 s) ∧ w1.cell? ⟨w.heap.size, 3, none⟩ = some (.int .i64 (h : Int)) ∧ w1.cell? ⟨w.heap.size, 4, none⟩ = some (.bool z) ∧ Kp w w1 := ⟨k1.cell s1.1, k1.cell s1.2.1, k1.cell s1.2.2.1, k1.cell s1.2.2.2.1, k1.cell s1.2.2.2.2.1, s1.2.2.2.2.2.trans k1⟩; clear k1
  go_wp2_with fail
  refine hK.out _ _ ?_ (fun hHeld => ?_)
  · (try dsimp only); (first | assumption | exact s3 | exact s2 | exact s1)
  clear hK K
  try simp only [Act.put, List.setIfInBounds_toArray, List.set_cons_zero, List.set_cons_succ]
  refine wpAnyH_take (i := 7) (oi := ⟨some 13, _, _, _, _, _⟩) (v := ?_) rfl (by kernel_rfl) (by kernel_rfl) (by kernel_rfl) (fun _ _ _ h => h) (Or.inl ⟨by rfl, ?_⟩) (by assumption) ?_
  rotate_left
  · intro w hSw; (try dsimp only at hSw); go_simp; (all_goals with_reducible rfl)
  simp only [Act.put, List.setIfInBounds_toArray, List.set_cons_zero, List.set_cons_succ]
  refine wpAnyH_take (i := 8) (oi := ⟨some 14, _, _, _, _, _⟩) (v := ?_) rfl (by kernel_rfl) (by kernel_rfl) (by kernel_rfl) (fun _ _ _ h => h) (Or.inl ⟨by rfl, ?_⟩) (by assumption) ?_
  rotate_left
  · intro w hSw; (try dsimp only at hSw); go_simp; (all_goals with_reducible rfl)
  simp only [Act.put, List.setIfInBounds_toArray, List.set_cons_zero, List.set_cons_succ]
  refine wpAnyH_ready (rs := [11]) (by kernel_rfl) (by simp) ?_
  refine AllReadyH.cons (o := ⟨some 17, _, _, _, _, _⟩) rfl (fun K hK => ?_) AllReadyH.nil
  go_simp
  refine (CB.out _).mono ?_; rintro e2 w2 ⟨rfl, k2⟩; have s3 : w2.cell? ⟨w.heap.size, 0, none⟩ = some (.string nm) ∧ w2.cell? ⟨w.heap.size, 1, none⟩ = some (.slice A n cc) ∧ w2.cell? ⟨w.heap.size, 2, none⟩ = some (.int .i64 s) ∧ w2.cell? ⟨w.heap.size, 3, none⟩ = some (.int .i64 (h : Int)) ∧ w2.cell? ⟨w.heap.size, 4, none⟩ = some (.bool z) ∧ Kp w w2 := ⟨k2.cell s2.1, k2.cell s2.2.1, k2.cell s2.2.2.1, k2.cell s2.2.2.2.1, k2.cell s2.2.2.2.2.1, s2.2.2.2.2.2.trans k2⟩; clear k2
  go_wp2_with fail
  refine hK.out _ _ ?_ (fun hHeld => ?_)
  · (try dsimp only); (first | assumption | exact s3 | exact s2 | exact s1)
  clear hK K
  try simp only [Act.put, List.setIfInBounds_toArray, List.set_cons_zero, List.set_cons_succ]
  refine wpAnyH_take (i := 12) (oi := ⟨some 18, _, _, _, _, _⟩) (v := ?_) rfl (by kernel_rfl) (by kernel_rfl) (by kernel_rfl) (fun _ _ _ h => h) (Or.inl ⟨by rfl, ?_⟩) (by assumption) ?_
  rotate_left
  · intro w hSw; (try dsimp only at hSw); go_simp; (all_goals with_reducible rfl)
  simp only [Act.put, List.setIfInBounds_toArray, List.set_cons_zero, List.set_cons_succ]
  refine wpAnyH_take (i := 13) (oi := ⟨some 19, _, _, _, _, _⟩) (v := ?_) rfl (by kernel_rfl) (by kernel_rfl) (by kernel_rfl) (fun _ _ _ h => h) (Or.inl ⟨by rfl, ?_⟩) (by assumption) ?_
  rotate_left
  · intro w hSw; (try dsimp only at hSw); go_simp; (all_goals with_reducible rfl)
  simp only [Act.put, List.setIfInBounds_toArray, List.set_cons_zero, List.set_cons_succ]
  refine wpAnyH_take (i := 14) (oi := ⟨some 3, _, _, _, _, _⟩) (v := ?_) rfl (by kernel_rfl) (by kernel_rfl) (by kernel_rfl) (fun _ _ _ h => h) (Or.inl ⟨by rfl, ?_⟩) (by assumption) ?_
  rotate_left
  · intro w hSw; (try dsimp only at hSw); go_simp; (all_goals with_reducible rfl)
  simp only [Act.put, List.setIfInBounds_toArray, List.set_cons_zero, List.set_cons_succ]
  refine wpAnyH_done (by kernel_rfl) ?_ _
  obtain ⟨c0, c1, c2, c3, c4, K3⟩ := s3
  have Z0 : Hid (q6 = txt (HD ++ costsT (l.take 0))) := Lib.hid (by rw [HR.out]; simp [costsT])
  go_wp2_with fail
  go_loopw [3, 5, 23] (fun sv _ i wr => ∃ (q : Nat) (y : ByteArray), q ≤ n ∧ i = .int .i64 q ∧ sv = .string y ∧ Hid (y = txt (HD ++ costsT (l.take q))) ∧ wr.cell? ⟨w.heap.size, 4, none⟩ = some (.bool z) ∧ Kp w wr) (fun _ _ i _ => n - (intOf i).toNat)
  case atStart => exact ⟨0, _, by omega, rfl, rfl, Z0, c4, K3⟩
  case round =>
    clear Z0 HR c0 c1 c2 c3 c4 K3
    obtain ⟨q, y, hq, rfl, rfl, HY, d4, kr⟩ := hrel
    have hyz : y.size ≤ 41 + 300 := by
      have h1 := congrArg ByteArray.size HY.out
      have h2 := HCL.out q
      have h3 := HDL.out
      rw [txt_size, List.length_append] at h1
      rw [List.length_take] at h2
      omega
    by_cases hlt : q < n
    · have hlt' : (q : Int) < n := by omega
      obtain ⟨x, hx⟩ : ∃ x, l[q]? = some x := ⟨l[q]'(by have := HL.out; omega), List.getElem?_eq_getElem _⟩
      obtain ⟨A', c', e', hA⟩ := HRD.out
      have hA := hA (by have := HL.out; omega)
      obtain ⟨g, off, eA, hc⟩ := hA
      injection e' with e1 e2 e3
      subst e1 eA
      have a0 := kr.cell (hc q x hx)
      have hx1 := HC.out x (List.mem_of_getElem? hx)
      obtain ⟨k, rfl⟩ : ∃ k : Nat, x = k := ⟨x.toNat, by omega⟩
      have CX := Lib.hid (fun w => l1Num_any k w (by omega))
      obtain ⟨sx, hsx⟩ : ∃ y, decT k = y := ⟨_, rfl⟩
      have zsx : sx.size ≤ 2 := by rw [← hsx, decT_txt, txt_size]; exact dec_len (by omega)
      rw [hsx] at CX
      obtain ⟨p1, hp1⟩ : ∃ y, ByteArray.mk #[32] ++ sx = y := ⟨_, rfl⟩
      have zp1 : p1.size ≤ 3 := by rw [← hp1, ByteArray.size_append]; have : (ByteArray.mk #[32]).size = 1 := rfl; omega
      have yp1 : ¬ 9223372036854775807 < 1 + sx.size := by omega
      have yp2 : ¬ 9223372036854775807 < y.size + p1.size := by omega
      have HN2 : Hid (y ++ p1 = txt (HD ++ costsT (l.take (q + 1)))) := Lib.hid (by
        rw [HY.out, ← hp1, ← hsx, decT_txt, show ByteArray.mk #[32] = txt [32] from rfl, txt_app, txt_app, List.take_add_one, hx]
        simp [costsT])
      clear hx hc hx1 hsx e2 e3 HY
      go_wp2_with fail
      refine (CX.out _).mono ?_
      rintro e1 w1 ⟨rfl, k1⟩
      have d5 := k1.cell d4
      have kr1 := kr.trans k1
      clear k1 d4 kr
      go_wp2_with fail
      go_roundw
      case rel => exact ⟨q + 1, _, by omega, by go_num, rfl, HN2, d5, kr1⟩
      case measure => simp [intOf]; omega
    · obtain rfl : q = n := by omega
      have HYE : Hid (y = txt (HD ++ costsT l)) := Lib.hid (by
        have h1 := HY.out
        rwa [List.take_of_length_le (by rw [HL.out]; omega)] at h1)
      have y9 : ¬ 9223372036854775807 < y.size + 7 := by omega
      clear HY
      cases z
      · go_wp2_with fail
        go_ret
        exact ⟨ret_str (by rw [HE.out, HYE.out]; simp), kr⟩
      · go_wp2_with fail
        go_ret
        exact ⟨ret_str (by rw [HE.out, HYE.out, show ByteArray.mk #[32, 98, 108, 111, 99, 107, 115] = txt [32, 98, 108, 111, 99, 107, 115] from rfl, txt_app]; simp), kr⟩

end Go.Proofs.YtpdcmpojjchobaaDoor

/-
  KindLine and TerrainLine of the reference: the line of a kind or terrain of valid rules, or nothing.
-/
namespace Go.Proofs.YtpdcmpojjchobaaDoor
open Go.RowKit

def inL (i : Int) (n : Nat) : Bool := decide (0 ≤ i) && decide (i < n)
def klB (ok : Bool) (m : List Knd) (i : Int) : Bool := ok && inL i m.length
def klT (ok : Bool) (m : List Knd) (i : Int) : ByteArray := if klB ok m i = true then (match m[i.toNat]? with | some k => txt (kindTx k) | none => ⟨#[]⟩) else ⟨#[]⟩
def tlB (ok : Bool) (l : List Ter) (i : Int) : Bool := ok && inL i l.length
def tlT (ok : Bool) (l : List Ter) (i : Int) : ByteArray := if tlB ok l i = true then (match l[i.toNat]? with | some t => txt (terTx t) | none => ⟨#[]⟩) else ⟨#[]⟩
theorem klT_no {ok : Bool} {m : List Knd} {i : Int} (h : klB ok m i = false) : klT ok m i = ⟨#[]⟩ := by unfold klT; rw [h]; rfl
theorem klT_yes {ok : Bool} {m : List Knd} {q : Nat} {k : Knd} (h : klB ok m q = true) (hk : m[q]? = some k) : klT ok m q = txt (kindTx k) := by unfold klT; rw [h, Int.toNat_natCast, hk]; rfl
theorem tlT_no {ok : Bool} {m : List Ter} {i : Int} (h : tlB ok m i = false) : tlT ok m i = ⟨#[]⟩ := by unfold tlT; rw [h]; rfl
theorem tlT_yes {ok : Bool} {m : List Ter} {q : Nat} {k : Ter} (h : tlB ok m q = true) (hk : m[q]? = some k) : tlT ok m q = txt (terTx k) := by unfold tlT; rw [h, Int.toNat_natCast, hk]; rfl
theorem ret_sb {a b : ByteArray} {x y : Bool} (h : a = b) (h' : x = y) : Ending.returned (.tuple #[.string a, .bool x]) = .returned (.tuple #[.string b, .bool y]) := by rw [h, h']

set_option maxRecDepth 100000 in
set_option maxHeartbeats 4000000 in
theorem specKindLine_any (At Ak : Option Addr) (nt nk ct ck : Nat) (l : List Ter) (m : List Knd) (a b c d e i : Int) (w : World) (h : RulAt w At Ak nt nk l m) :
    Calls Tryd.prog 9 #[rv (.slice At nt ct) (.slice Ak nk ck) a b c d e, .int .i64 i] w fun e' w' => e' = .returned (.tuple #[.string (klT (rulOk ⟨l, m, a, b, c, d, e⟩) m i), .bool (klB (rulOk ⟨l, m, a, b, c, d, e⟩) m i)]) ∧ Kp w w' := by
  have KA : Kp w (w.alloc (.cells #[.slice At nt ct, .slice Ak nk ck, .int .i64 a, .int .i64 b, .int .i64 c, .int .i64 d, .int .i64 e] 32)) := (Kp.refl w).alloc _
  have s1 : (w.alloc (.cells #[.slice At nt ct, .slice Ak nk ck, .int .i64 a, .int .i64 b, .int .i64 c, .int .i64 d, .int .i64 e] 32)).cell? ⟨w.heap.size, 1, none⟩ = some (.slice Ak nk ck) := by simp [go_sem]
  have HL := Lib.hid (h.keep KA)
  have CG := Lib.hid (fun w h => rGood_any At Ak nt nk ct ck l m a b c d e w h)
  obtain ⟨R, hR⟩ : ∃ R, R = rulOk ⟨l, m, a, b, c, d, e⟩ := ⟨_, rfl⟩
  rw [← hR] at CG ⊢
  have hlen : m.length = nk := h.rk.1
  cases R
  · have e1 : klB false m i = false := rfl
    have HT : Hid (klT false m i = ⟨#[]⟩) := Lib.hid (klT_no e1)
    clear h hR
    go_enter Tryd.func9, Tryd.ntmps9
    go_wp2_with fail
    refine (CG.out _ HL.out).mono ?_
    rintro e1 w1 ⟨rfl, k1⟩
    go_wp2_with fail
    go_ret2
    exact ⟨ret_sb HT.out.symm rfl, KA.trans k1⟩
  · have hb := rulOk_len hR.symm
    have CI := Lib.hid (fun w => l1In_sp i 0 ((nk : Int) - 1) w)
    cases hi : inL i nk
    · have e0 : spB 0 ((nk : Int) - 1) i = false := by
        simp only [inL, spB, Bool.and_eq_false_iff, decide_eq_false_iff_not] at hi ⊢
        omega
      have e1 : klB true m i = false := by unfold klB; rw [hlen, hi]; rfl
      have HT : Hid (klT true m i = ⟨#[]⟩ ∧ klB true m i = false) := Lib.hid ⟨klT_no e1, e1⟩
      rw [e0] at CI
      have hn1 : 1 ≤ nk := by omega
      have hn2 : nk ≤ 6 := by omega
      have HLn := Lib.hid hlen
      clear h hR hi e0 e1 hb hlen
      go_enter Tryd.func9, Tryd.ntmps9
      go_wp2_with fail
      refine (CG.out _ HL.out).mono ?_
      rintro e1 w1 ⟨rfl, k1⟩
      have s2 := k1.cell s1
      go_wp2_with fail
      refine (CI.out _).mono ?_
      rintro e2 w2 ⟨rfl, rfl⟩
      go_wp2_with fail
      go_ret2
      exact ⟨ret_sb HT.out.1.symm HT.out.2.symm, KA.trans k1⟩
    · have e0 : spB 0 ((nk : Int) - 1) i = true := by
        simp only [inL, spB, Bool.and_eq_true, decide_eq_true_iff] at hi ⊢
        omega
      have e1 : klB true m i = true := by unfold klB; rw [hlen, hi]; rfl
      obtain ⟨q, rfl⟩ : ∃ q : Nat, i = q := ⟨i.toNat, by simp only [inL, Bool.and_eq_true, decide_eq_true_iff] at hi; omega⟩
      have hq : q < nk := by simp only [inL, Bool.and_eq_true, decide_eq_true_iff] at hi; omega
      obtain ⟨x, hx⟩ : ∃ x, m[q]? = some x := ⟨m[q]'(by omega), List.getElem?_eq_getElem _⟩
      have HT : Hid (klT true m q = txt (kindTx x) ∧ klB true m q = true) := Lib.hid ⟨klT_yes e1 hx, e1⟩
      have hsm := rulOk_knd hR.symm hx
      obtain ⟨g, off, rfl, hc⟩ := h.rk.2 (by omega)
      have hX := (hc q x hx).keep KA
      rw [e0] at CI
      have hn2 : nk ≤ 6 := by omega
      have hq1 : (q : Int) < nk := by omega
      obtain ⟨nm, ka, kb, kc, kz, kv'⟩ := x
      obtain ⟨m1, m2, m3, m4, m5⟩ := hsm
      simp only at m1 m2 m3 m4 m5 hX
      obtain ⟨na, rfl⟩ : ∃ k : Nat, ka = k := ⟨ka.toNat, by omega⟩
      obtain ⟨nb, rfl⟩ : ∃ k : Nat, kb = k := ⟨kb.toNat, by omega⟩
      obtain ⟨nc, rfl⟩ : ∃ k : Nat, kc = k := ⟨kc.toNat, by omega⟩
      obtain ⟨nv, rfl⟩ : ∃ k : Nat, kv' = k := ⟨kv'.toNat, by omega⟩
      have CX := Lib.hid (fun w => bfKind_any nm na nb nc nv kz w m1 (by omega) (by omega) (by omega) (by omega))
      clear h hR hi e0 e1 hb hlen hc hx m1 m2 m3 m4 m5
      go_enter Tryd.func9, Tryd.ntmps9
      go_wp2_with fail
      refine (CG.out _ HL.out).mono ?_
      rintro e1 w1 ⟨rfl, k1⟩
      have s2 := k1.cell s1
      obtain ⟨a0, a1, a2, a3, a4, a5⟩ := hX.keep k1
      clear hX
      go_wp2_with fail
      refine (CI.out _).mono ?_
      rintro e2 w2 ⟨rfl, rfl⟩
      go_wp2_with fail
      refine (CX.out _).mono ?_
      rintro e3 w3 ⟨rfl, k3⟩
      go_wp2_with fail
      go_ret2
      exact ⟨ret_sb HT.out.1.symm HT.out.2.symm, (KA.trans k1).trans k3⟩

set_option maxRecDepth 100000 in
set_option maxHeartbeats 4000000 in
theorem specTerrainLine_any (At Ak : Option Addr) (nt nk ct ck : Nat) (l : List Ter) (m : List Knd) (a b c d e i : Int) (w : World) (h : RulAt w At Ak nt nk l m) :
    Calls Tryd.prog 13 #[rv (.slice At nt ct) (.slice Ak nk ck) a b c d e, .int .i64 i] w fun e' w' => e' = .returned (.tuple #[.string (tlT (rulOk ⟨l, m, a, b, c, d, e⟩) l i), .bool (tlB (rulOk ⟨l, m, a, b, c, d, e⟩) l i)]) ∧ Kp w w' := by
  have KA : Kp w (w.alloc (.cells #[.slice At nt ct, .slice Ak nk ck, .int .i64 a, .int .i64 b, .int .i64 c, .int .i64 d, .int .i64 e] 32)) := (Kp.refl w).alloc _
  have s0 : (w.alloc (.cells #[.slice At nt ct, .slice Ak nk ck, .int .i64 a, .int .i64 b, .int .i64 c, .int .i64 d, .int .i64 e] 32)).cell? ⟨w.heap.size, 0, none⟩ = some (.slice At nt ct) := by simp [go_sem]
  have HL := Lib.hid (h.keep KA)
  have CG := Lib.hid (fun w h => rGood_any At Ak nt nk ct ck l m a b c d e w h)
  obtain ⟨R, hR⟩ : ∃ R, R = rulOk ⟨l, m, a, b, c, d, e⟩ := ⟨_, rfl⟩
  rw [← hR] at CG ⊢
  have hlen : l.length = nt := h.rt.1
  cases R
  · have e1 : tlB false l i = false := rfl
    have HT : Hid (tlT false l i = ⟨#[]⟩) := Lib.hid (tlT_no e1)
    clear h hR
    go_enter Tryd.func13, Tryd.ntmps13
    go_wp2_with fail
    refine (CG.out _ HL.out).mono ?_
    rintro e1 w1 ⟨rfl, k1⟩
    go_wp2_with fail
    go_ret2
    exact ⟨ret_sb HT.out.symm rfl, KA.trans k1⟩
  · have hb := rulOk_len hR.symm
    have CI := Lib.hid (fun w => l1In_sp i 0 ((nt : Int) - 1) w)
    cases hi : inL i nt
    · have e0 : spB 0 ((nt : Int) - 1) i = false := by
        simp only [inL, spB, Bool.and_eq_false_iff, decide_eq_false_iff_not] at hi ⊢
        omega
      have e1 : tlB true l i = false := by unfold tlB; rw [hlen, hi]; rfl
      have HT : Hid (tlT true l i = ⟨#[]⟩ ∧ tlB true l i = false) := Lib.hid ⟨tlT_no e1, e1⟩
      rw [e0] at CI
      have hn1 : 1 ≤ nt := by omega
      have hn2 : nt ≤ 6 := by omega
      have HLn := Lib.hid hlen
      clear h hR hi e0 e1 hb hlen
      go_enter Tryd.func13, Tryd.ntmps13
      go_wp2_with fail
      refine (CG.out _ HL.out).mono ?_
      rintro e1 w1 ⟨rfl, k1⟩
      have s2 := k1.cell s0
      go_wp2_with fail
      refine (CI.out _).mono ?_
      rintro e2 w2 ⟨rfl, rfl⟩
      go_wp2_with fail
      go_ret2
      exact ⟨ret_sb HT.out.1.symm HT.out.2.symm, KA.trans k1⟩
    · have e0 : spB 0 ((nt : Int) - 1) i = true := by
        simp only [inL, spB, Bool.and_eq_true, decide_eq_true_iff] at hi ⊢
        omega
      have e1 : tlB true l i = true := by unfold tlB; rw [hlen, hi]; rfl
      obtain ⟨q, rfl⟩ : ∃ q : Nat, i = q := ⟨i.toNat, by simp only [inL, Bool.and_eq_true, decide_eq_true_iff] at hi; omega⟩
      have hq : q < nt := by simp only [inL, Bool.and_eq_true, decide_eq_true_iff] at hi; omega
      obtain ⟨x, hx⟩ : ∃ x, l[q]? = some x := ⟨l[q]'(by omega), List.getElem?_eq_getElem _⟩
      have HT : Hid (tlT true l q = txt (terTx x) ∧ tlB true l q = true) := Lib.hid ⟨tlT_yes e1 hx, e1⟩
      have hsm := rulOk_ter hR.symm hx
      obtain ⟨g, off, rfl, hc⟩ := h.rt.2 (by omega)
      have hX := (hc q x hx).keep KA
      rw [e0] at CI
      have hn2 : nt ≤ 6 := by omega
      have hq1 : (q : Int) < nt := by omega
      have hln := hsm.len
      have hmk : m.length = nk := h.rk.1
      obtain ⟨nm, cs, sh, hg, bl⟩ := x
      have hh := hsm.height
      simp only at hh hln hX
      obtain ⟨nh, rfl⟩ : ∃ k : Nat, hg = k := ⟨hg.toNat, by omega⟩
      obtain ⟨Ac, cc, hcells, hrd⟩ := hX
      simp only at hcells hrd
      rw [hln] at hcells hrd
      have CX := Lib.hid (fun w hr => bfTerrain_any nm Ac m.length cc cs sh nh bl w hr hsm (by omega))
      have HRD := Lib.hid hrd
      clear h hR hi e0 e1 hb hlen hc hx hsm hln hmk hh hrd
      generalize m.length = mn at *
      go_enter Tryd.func13, Tryd.ntmps13
      go_wp2_with fail
      refine (CG.out _ HL.out).mono ?_
      rintro e1 w1 ⟨rfl, k1⟩
      have s2 := k1.cell s0
      obtain ⟨a0, a1, a2, a3, a4⟩ := hcells
      have b0 := k1.cell a0
      have b1 := k1.cell a1
      have b2 := k1.cell a2
      have b3 := k1.cell a3
      have b4 := k1.cell a4
      have HR1 := Lib.hid (HRD.out.keep k1)
      clear a0 a1 a2 a3 a4 HRD
      go_wp2_with fail
      refine (CI.out _).mono ?_
      rintro e2 w2 ⟨rfl, rfl⟩
      go_wp2_with fail
      refine (CX.out _ HR1.out).mono ?_
      rintro e3 w3 ⟨rfl, k3⟩
      go_wp2_with fail
      go_ret2
      exact ⟨ret_sb HT.out.1.symm HT.out.2.symm, (KA.trans k1).trans k3⟩

end Go.Proofs.YtpdcmpojjchobaaDoor

/-
  The laws' comparison of rules: two that hold the same lists and numbers are equal. Nothing that was there is changed.
-/
namespace Go.Proofs.YtpdcmpojjchobaaDoor
open Go.RowKit

theorem keepc5 {w w1 : World} {p0 p1 p2 p3 p4 : Addr} {v0 v1 v2 v3 v4 : Value} (k : Kp w w1) (h : w.cell? p0 = some v0 ∧ w.cell? p1 = some v1 ∧ w.cell? p2 = some v2 ∧ w.cell? p3 = some v3 ∧ w.cell? p4 = some v4) : w1.cell? p0 = some v0 ∧ w1.cell? p1 = some v1 ∧ w1.cell? p2 = some v2 ∧ w1.cell? p3 = some v3 ∧ w1.cell? p4 = some v4 :=
  ⟨k.cell h.1, k.cell h.2.1, k.cell h.2.2.1, k.cell h.2.2.2.1, k.cell h.2.2.2.2⟩
theorem keepc6 {w w1 : World} {p0 p1 p2 p3 p4 p5 : Addr} {v0 v1 v2 v3 v4 v5 : Value} (k : Kp w w1) (h : w.cell? p0 = some v0 ∧ w.cell? p1 = some v1 ∧ w.cell? p2 = some v2 ∧ w.cell? p3 = some v3 ∧ w.cell? p4 = some v4 ∧ w.cell? p5 = some v5) : w1.cell? p0 = some v0 ∧ w1.cell? p1 = some v1 ∧ w1.cell? p2 = some v2 ∧ w1.cell? p3 = some v3 ∧ w1.cell? p4 = some v4 ∧ w1.cell? p5 = some v5 :=
  ⟨k.cell h.1, k.cell h.2.1, k.cell h.2.2.1, k.cell h.2.2.2.1, k.cell h.2.2.2.2.1, k.cell h.2.2.2.2.2⟩
theorem keepc10 {w w1 : World} {p0 p1 p2 p3 p4 p5 p6 p7 p8 p9 : Addr} {v0 v1 v2 v3 v4 v5 v6 v7 v8 v9 : Value} (k : Kp w w1) (h : w.cell? p0 = some v0 ∧ w.cell? p1 = some v1 ∧ w.cell? p2 = some v2 ∧ w.cell? p3 = some v3 ∧ w.cell? p4 = some v4 ∧ w.cell? p5 = some v5 ∧ w.cell? p6 = some v6 ∧ w.cell? p7 = some v7 ∧ w.cell? p8 = some v8 ∧ w.cell? p9 = some v9) : w1.cell? p0 = some v0 ∧ w1.cell? p1 = some v1 ∧ w1.cell? p2 = some v2 ∧ w1.cell? p3 = some v3 ∧ w1.cell? p4 = some v4 ∧ w1.cell? p5 = some v5 ∧ w1.cell? p6 = some v6 ∧ w1.cell? p7 = some v7 ∧ w1.cell? p8 = some v8 ∧ w1.cell? p9 = some v9 :=
  ⟨k.cell h.1, k.cell h.2.1, k.cell h.2.2.1, k.cell h.2.2.2.1, k.cell h.2.2.2.2.1, k.cell h.2.2.2.2.2.1, k.cell h.2.2.2.2.2.2.1, k.cell h.2.2.2.2.2.2.2.1, k.cell h.2.2.2.2.2.2.2.2.1, k.cell h.2.2.2.2.2.2.2.2.2⟩
theorem keepc12 {w w1 : World} {p0 p1 p2 p3 p4 p5 p6 p7 p8 p9 p10 p11 : Addr} {v0 v1 v2 v3 v4 v5 v6 v7 v8 v9 v10 v11 : Value} (k : Kp w w1) (h : w.cell? p0 = some v0 ∧ w.cell? p1 = some v1 ∧ w.cell? p2 = some v2 ∧ w.cell? p3 = some v3 ∧ w.cell? p4 = some v4 ∧ w.cell? p5 = some v5 ∧ w.cell? p6 = some v6 ∧ w.cell? p7 = some v7 ∧ w.cell? p8 = some v8 ∧ w.cell? p9 = some v9 ∧ w.cell? p10 = some v10 ∧ w.cell? p11 = some v11) : w1.cell? p0 = some v0 ∧ w1.cell? p1 = some v1 ∧ w1.cell? p2 = some v2 ∧ w1.cell? p3 = some v3 ∧ w1.cell? p4 = some v4 ∧ w1.cell? p5 = some v5 ∧ w1.cell? p6 = some v6 ∧ w1.cell? p7 = some v7 ∧ w1.cell? p8 = some v8 ∧ w1.cell? p9 = some v9 ∧ w1.cell? p10 = some v10 ∧ w1.cell? p11 = some v11 :=
  ⟨k.cell h.1, k.cell h.2.1, k.cell h.2.2.1, k.cell h.2.2.2.1, k.cell h.2.2.2.2.1, k.cell h.2.2.2.2.2.1, k.cell h.2.2.2.2.2.2.1, k.cell h.2.2.2.2.2.2.2.1, k.cell h.2.2.2.2.2.2.2.2.1, k.cell h.2.2.2.2.2.2.2.2.2.1, k.cell h.2.2.2.2.2.2.2.2.2.2.1, k.cell h.2.2.2.2.2.2.2.2.2.2.2⟩

theorem RdI.of_slice {w : World} {A : Option Addr} {n c : Nat} {l : List Int} (h : RdI w (.slice A n c) l) : l.length = n := by
  obtain ⟨A', c', e, _⟩ := h
  simp only [Value.slice.injEq] at e
  exact e.2.1.symm

set_option maxRecDepth 100000 in
set_option maxHeartbeats 1000000 in
theorem eqTerrain_same (nm : ByteArray) (A B : Option Addr) (nc ca cb : Nat) (s h : Int) (b : Bool) (l : List Int) (w : World) (ha : RdI w (.slice A nc ca) l) (hb : RdI w (.slice B nc cb) l) (hn : nc ≤ 1048576) :
    Calls Tryd.prog 81 #[tv nm A nc ca s h b, tv nm B nc cb s h b] w fun e w' => e = .returned (.bool true) ∧ Kp w w' := by
  have hl : l.length ≤ 1048576 := by rw [ha.of_slice]; exact hn
  have KA : Kp w ((w.alloc (.cells #[.string nm, .slice A nc ca, .int .i64 s, .int .i64 h, .bool b] 70)).alloc (.cells #[.string nm, .slice B nc cb, .int .i64 s, .int .i64 h, .bool b] 70)) := ((Kp.refl w).alloc _).alloc _
  have HA := Lib.hid (ha.keep KA)
  have HB := Lib.hid (hb.keep KA)
  have e1 : (nm.toList != nm.toList) = false := by simp
  have e2 : (s != s) = false := by simp
  have e3 : (h != h) = false := by simp
  have e4 : (b != b) = false := by simp
  have HL := Lib.hid hl
  clear ha hb hl
  go_enter Tryd.func81, Tryd.ntmps81
  go_wp2_with fail
  refine (eqIntS_same _ _ l _ HA.out HB.out HL.out).mono ?_
  rintro x1 w1 ⟨rfl, k1⟩
  have p2 : w1.cell? ⟨w.heap.size, 2, none⟩ = some (.int .i64 s) := k1.cell (by simp [go_sem])
  have p3 : w1.cell? ⟨w.heap.size, 3, none⟩ = some (.int .i64 h) := k1.cell (by simp [go_sem])
  have p4 : w1.cell? ⟨w.heap.size, 4, none⟩ = some (.bool b) := k1.cell (by simp [go_sem])
  have q2 : w1.cell? ⟨w.heap.size + 1, 2, none⟩ = some (.int .i64 s) := k1.cell (by simp [go_sem])
  have q3 : w1.cell? ⟨w.heap.size + 1, 3, none⟩ = some (.int .i64 h) := k1.cell (by simp [go_sem])
  have q4 : w1.cell? ⟨w.heap.size + 1, 4, none⟩ = some (.bool b) := k1.cell (by simp [go_sem])
  have K1 : Kp w w1 := KA.trans k1
  clear k1 KA
  go_wp2_with fail
  go_ret
  exact ⟨rfl, K1⟩

theorem eqKind_same (nm : ByteArray) (a b c : Int) (z : Bool) (v : Int) (w : World) :
    Calls Tryd.prog 82 #[kv nm a b c z v, kv nm a b c z v] w fun e w' => e = .returned (.bool true) ∧ Kp w w' := by
  have e1 : (nm.toList != nm.toList) = false := by simp
  have e2 : (a != a) = false := by simp
  have e3 : (b != b) = false := by simp
  have e4 : (c != c) = false := by simp
  have e5 : (z != z) = false := by simp
  have e6 : (v != v) = false := by simp
  go_enter Tryd.func82, Tryd.ntmps82
  go_wp2_with fail
  go_ret
  exact ⟨rfl, ((Kp.refl w).alloc _).alloc _⟩

set_option maxRecDepth 100000 in
set_option maxHeartbeats 2000000 in
theorem eqTerrainS_same (A B : Option Addr) (n ca cb : Nat) (l : List Ter) (w : World) (ha : RdT w A n l) (hb : RdT w B n l) (hn : n ≤ 1048576) (hcb : ∀ x ∈ l, x.cost.length ≤ 1048576) :
    Calls Tryd.prog 37 #[.slice A n ca, .slice B n cb] w fun e w' => e = .returned (.bool true) ∧ Kp w w' := by
  have HA := Lib.hid ha.2
  have HB := Lib.hid hb.2
  have HN := Lib.hid ha.1
  have HB2 := Lib.hid hcb
  clear hcb
  clear ha hb
  go_enter Tryd.func37, Tryd.ntmps37
  go_wp2_with fail
  go_loopw [5] (fun i wr => ∃ k : Nat, k ≤ n ∧ i = .int .i64 k ∧ Kp w wr) (fun i _ => n - (intOf i).toNat)
  case atStart => exact ⟨0, by omega, rfl, Kp.refl _⟩
  case round =>
    obtain ⟨k, hk, rfl, kr⟩ := hrel
    by_cases hlt : k < n
    · have hlt' : (k : Int) < n := by omega
      obtain ⟨ga, oa, rfl, ca'⟩ := HA.out (by omega)
      obtain ⟨gb, ob, rfl, cb'⟩ := HB.out (by omega)
      obtain ⟨x, hx⟩ : ∃ x, l[k]? = some x := ⟨l[k]'(by have := HN.out; omega), List.getElem?_eq_getElem _⟩
      obtain ⟨Aa, xca, ⟨a0, a1, a2, a3, a4⟩, ra⟩ := (ca' k x hx).keep kr
      obtain ⟨Ab, xcb, ⟨b0, b1, b2, b3, b4⟩, rb⟩ := (cb' k x hx).keep kr
      have hnc := HB2.out x (List.mem_of_getElem? hx)
      obtain ⟨nm, cs, sh, hg, bl⟩ := x
      simp only at a0 a1 a2 a3 a4 b0 b1 b2 b3 b4 ra rb hnc
      generalize cs.length = nc at a1 b1 ra rb hnc
      have RA := Lib.hid (ra.keep (Kp.refl wr).drew)
      have RB := Lib.hid (rb.keep (Kp.refl wr).drew)
      clear ra rb
      clear ca' cb' hx
      go_wp2_with fail
      go_region_held3 (fun w' => w'.cell? ⟨ga, oa + k * 5, none⟩ = some (.string nm) ∧ w'.cell? ⟨ga, oa + k * 5 + 1, none⟩ = some (.slice Aa nc xca) ∧ w'.cell? ⟨ga, oa + k * 5 + 2, none⟩ = some (.int .i64 sh) ∧ w'.cell? ⟨ga, oa + k * 5 + 3, none⟩ = some (.int .i64 hg) ∧ w'.cell? ⟨ga, oa + k * 5 + 4, none⟩ = some (.bool bl) ∧ w'.cell? ⟨gb, ob + k * 5, none⟩ = some (.string nm) ∧ w'.cell? ⟨gb, ob + k * 5 + 1, none⟩ = some (.slice Ab nc xcb) ∧ w'.cell? ⟨gb, ob + k * 5 + 2, none⟩ = some (.int .i64 sh) ∧ w'.cell? ⟨gb, ob + k * 5 + 3, none⟩ = some (.int .i64 hg) ∧ w'.cell? ⟨gb, ob + k * 5 + 4, none⟩ = some (.bool bl)) (first | assumption | go_keep)
        (first | (go_at_call 81; refine (eqTerrain_same _ _ _ _ _ _ _ _ _ cs _ RA.out RB.out hnc).mono ?_; rintro e w1 ⟨rfl, k1⟩; have s1 := keepc10 k1 (by assumption)))
      all_goals
        go_wp2_with fail
        go_roundw
        case rel => exact ⟨k + 1, by omega, by go_num, kr.drew.trans k1⟩
        case measure => simp [intOf]; omega
    · obtain rfl : k = n := by omega
      go_wp2_with fail
      go_ret
      exact ⟨rfl, kr⟩

set_option maxRecDepth 100000 in
set_option maxHeartbeats 2000000 in
theorem eqKindS_same (A B : Option Addr) (n ca cb : Nat) (l : List Knd) (w : World) (ha : RdK w A n l) (hb : RdK w B n l) (hn : n ≤ 1048576) :
    Calls Tryd.prog 38 #[.slice A n ca, .slice B n cb] w fun e w' => e = .returned (.bool true) ∧ Kp w w' := by
  have HA := Lib.hid ha.2
  have HB := Lib.hid hb.2
  have HN := Lib.hid ha.1
  skip
  clear ha hb
  go_enter Tryd.func38, Tryd.ntmps38
  go_wp2_with fail
  go_loopw [5] (fun i wr => ∃ k : Nat, k ≤ n ∧ i = .int .i64 k ∧ Kp w wr) (fun i _ => n - (intOf i).toNat)
  case atStart => exact ⟨0, by omega, rfl, Kp.refl _⟩
  case round =>
    obtain ⟨k, hk, rfl, kr⟩ := hrel
    by_cases hlt : k < n
    · have hlt' : (k : Int) < n := by omega
      obtain ⟨ga, oa, rfl, ca'⟩ := HA.out (by omega)
      obtain ⟨gb, ob, rfl, cb'⟩ := HB.out (by omega)
      obtain ⟨x, hx⟩ : ∃ x, l[k]? = some x := ⟨l[k]'(by have := HN.out; omega), List.getElem?_eq_getElem _⟩
      obtain ⟨a0, a1, a2, a3, a4, a5⟩ := (ca' k x hx).keep kr
      obtain ⟨b0, b1, b2, b3, b4, b5⟩ := (cb' k x hx).keep kr
      obtain ⟨nm, ks, km, kt, kz, kw⟩ := x
      simp only at a0 a1 a2 a3 a4 a5 b0 b1 b2 b3 b4 b5
      clear ca' cb' hx
      go_wp2_with fail
      go_region_held3 (fun w' => w'.cell? ⟨ga, oa + k * 6, none⟩ = some (.string nm) ∧ w'.cell? ⟨ga, oa + k * 6 + 1, none⟩ = some (.int .i64 ks) ∧ w'.cell? ⟨ga, oa + k * 6 + 2, none⟩ = some (.int .i64 km) ∧ w'.cell? ⟨ga, oa + k * 6 + 3, none⟩ = some (.int .i64 kt) ∧ w'.cell? ⟨ga, oa + k * 6 + 4, none⟩ = some (.bool kz) ∧ w'.cell? ⟨ga, oa + k * 6 + 5, none⟩ = some (.int .i64 kw) ∧ w'.cell? ⟨gb, ob + k * 6, none⟩ = some (.string nm) ∧ w'.cell? ⟨gb, ob + k * 6 + 1, none⟩ = some (.int .i64 ks) ∧ w'.cell? ⟨gb, ob + k * 6 + 2, none⟩ = some (.int .i64 km) ∧ w'.cell? ⟨gb, ob + k * 6 + 3, none⟩ = some (.int .i64 kt) ∧ w'.cell? ⟨gb, ob + k * 6 + 4, none⟩ = some (.bool kz) ∧ w'.cell? ⟨gb, ob + k * 6 + 5, none⟩ = some (.int .i64 kw)) (first | assumption | go_keep)
        (first | (go_at_call 82; refine (eqKind_same _ _ _ _ _ _ _).mono ?_; rintro e w1 ⟨rfl, k1⟩; have s1 := keepc12 k1 (by assumption)))
      all_goals
        go_wp2_with fail
        go_roundw
        case rel => exact ⟨k + 1, by omega, by go_num, kr.drew.trans k1⟩
        case measure => simp [intOf]; omega
    · obtain rfl : k = n := by omega
      go_wp2_with fail
      go_ret
      exact ⟨rfl, kr⟩

set_option maxRecDepth 100000 in
set_option maxHeartbeats 1000000 in
theorem eqRules_same (At Ak Bt Bk : Option Addr) (nt nk ct ck dt dk : Nat) (l : List Ter) (m : List Knd) (a b c d e : Int) (w : World) (ht : RdT w At nt l) (hk : RdK w Ak nk m) (gt : RdT w Bt nt l) (gk : RdK w Bk nk m) (hb1 : nt ≤ 1048576) (hb2 : nk ≤ 1048576) (hcb : ∀ x ∈ l, x.cost.length ≤ 1048576) :
    Calls Tryd.prog 12 #[rv (.slice At nt ct) (.slice Ak nk ck) a b c d e, rv (.slice Bt nt dt) (.slice Bk nk dk) a b c d e] w fun e' w' => e' = .returned (.bool true) ∧ Kp w w' := by
  have KA : Kp w ((w.alloc (.cells #[.slice At nt ct, .slice Ak nk ck, .int .i64 a, .int .i64 b, .int .i64 c, .int .i64 d, .int .i64 e] 32)).alloc (.cells #[.slice Bt nt dt, .slice Bk nk dk, .int .i64 a, .int .i64 b, .int .i64 c, .int .i64 d, .int .i64 e] 32)) := ((Kp.refl w).alloc _).alloc _
  have H1 := Lib.hid (ht.keep KA)
  have H2 := Lib.hid (gt.keep KA)
  have H3 := Lib.hid (hk.keep KA)
  have H4 := Lib.hid (gk.keep KA)
  have H5 := Lib.hid hcb
  have e1 : (a != a) = false := by simp
  have e2 : (b != b) = false := by simp
  have e3 : (c != c) = false := by simp
  have e4 : (d != d) = false := by simp
  have e5 : (e != e) = false := by simp
  clear ht hk gt gk hcb
  go_enter Tryd.func12, Tryd.ntmps12
  go_wp2_with fail
  refine (eqTerrainS_same _ _ _ _ _ l _ H1.out H2.out hb1 H5.out).mono ?_
  rintro x1 w1 ⟨rfl, k1⟩
  have p1 : w1.cell? ⟨w.heap.size, 1, none⟩ = some (.slice Ak nk ck) := k1.cell (by simp [go_sem])
  have p2 : w1.cell? ⟨w.heap.size, 2, none⟩ = some (.int .i64 a) := k1.cell (by simp [go_sem])
  have p3 : w1.cell? ⟨w.heap.size, 3, none⟩ = some (.int .i64 b) := k1.cell (by simp [go_sem])
  have p4 : w1.cell? ⟨w.heap.size, 4, none⟩ = some (.int .i64 c) := k1.cell (by simp [go_sem])
  have p5 : w1.cell? ⟨w.heap.size, 5, none⟩ = some (.int .i64 d) := k1.cell (by simp [go_sem])
  have p6 : w1.cell? ⟨w.heap.size, 6, none⟩ = some (.int .i64 e) := k1.cell (by simp [go_sem])
  have q1 : w1.cell? ⟨w.heap.size + 1, 1, none⟩ = some (.slice Bk nk dk) := k1.cell (by simp [go_sem])
  have q2 : w1.cell? ⟨w.heap.size + 1, 2, none⟩ = some (.int .i64 a) := k1.cell (by simp [go_sem])
  have q3 : w1.cell? ⟨w.heap.size + 1, 3, none⟩ = some (.int .i64 b) := k1.cell (by simp [go_sem])
  have q4 : w1.cell? ⟨w.heap.size + 1, 4, none⟩ = some (.int .i64 c) := k1.cell (by simp [go_sem])
  have q5 : w1.cell? ⟨w.heap.size + 1, 5, none⟩ = some (.int .i64 d) := k1.cell (by simp [go_sem])
  have q6 : w1.cell? ⟨w.heap.size + 1, 6, none⟩ = some (.int .i64 e) := k1.cell (by simp [go_sem])
  have K1 : Kp w w1 := KA.trans k1
  have H3b := Lib.hid (H3.out.keep k1)
  have H4b := Lib.hid (H4.out.keep k1)
  clear k1 KA
  go_wp2_with fail
  refine (eqKindS_same _ _ _ _ _ m _ H3b.out H4b.out hb2).mono ?_
  rintro x2 w2 ⟨rfl, k2⟩
  replace p2 := k2.cell p2
  replace p3 := k2.cell p3
  replace p4 := k2.cell p4
  replace p5 := k2.cell p5
  replace p6 := k2.cell p6
  replace q2 := k2.cell q2
  replace q3 := k2.cell q3
  replace q4 := k2.cell q4
  replace q5 := k2.cell q5
  replace q6 := k2.cell q6
  have K2 : Kp w w2 := K1.trans k2
  clear k2 K1 p1 q1
  go_wp2_with fail
  go_ret
  exact ⟨rfl, K2⟩

end Go.Proofs.YtpdcmpojjchobaaDoor

/-
  The laws' own functions on maps: the size, the copy (in memory of its own), the comparison of two maps that read as the same lists. Nothing that was there is changed.
-/
namespace Go.Proofs.YtpdcmpojjchobaaDoor
open Go.RowKit

/-- Three slices that the call owns, in blocks of their own from a number on. -/
structure Own3 (w : World) (base : Nat) (t r d : Value) (lt lr ld : List Int) : Prop where
  ot : OwnI w base t lt
  or : OwnI w base r lr
  od : OwnI w base d ld
  tr : ∀ g, t.ownBlock = some g → r.ownBlock ≠ some g
  td : ∀ g, t.ownBlock = some g → d.ownBlock ≠ some g
  rd : ∀ g, r.ownBlock = some g → d.ownBlock ≠ some g
theorem Own3.keep {w w' : World} {base : Nat} {t r d : Value} {lt lr ld : List Int} (h : Own3 w base t r d lt lr ld) (k : Kp w w') : Own3 w' base t r d lt lr ld :=
  ⟨h.ot.keep k, h.or.keep k, h.od.keep k, h.tr, h.td, h.rd⟩

abbrev Live5 (w : World) (b : Nat) (v0 v1 v2 v3 v4 : Value) : Prop :=
  (w.cell? ⟨b, 0, none⟩ = some v0 ∧ w.frozen? ⟨b, 0, none⟩ = false) ∧ (w.cell? ⟨b, 1, none⟩ = some v1 ∧ w.frozen? ⟨b, 1, none⟩ = false) ∧ (w.cell? ⟨b, 2, none⟩ = some v2 ∧ w.frozen? ⟨b, 2, none⟩ = false) ∧ (w.cell? ⟨b, 3, none⟩ = some v3 ∧ w.frozen? ⟨b, 3, none⟩ = false) ∧ (w.cell? ⟨b, 4, none⟩ = some v4 ∧ w.frozen? ⟨b, 4, none⟩ = false)
theorem live5_keep {w w' : World} {b : Nat} {v0 v1 v2 v3 v4 : Value} (k : Kp w w') (h : Live5 w b v0 v1 v2 v3 v4) : Live5 w' b v0 v1 v2 v3 v4 :=
  ⟨k.liv h.1, k.liv h.2.1, k.liv h.2.2.1, k.liv h.2.2.2.1, k.liv h.2.2.2.2⟩

def szTot (a b c : Nat) : Int := if a + b + c ≤ 1048576 then 1048576 - (a + b + c : Nat) else -1

theorem szMap_any (W H : Int) (At Ar Ad : Option Addr) (nt ct nr cr nd cd : Nat) (w : World) (h1 : nt ≤ 9223372036854775807) (h2 : nr ≤ 9223372036854775807) (h3 : nd ≤ 9223372036854775807) :
    Calls Tryd.prog 17 #[mp W H (.slice At nt ct) (.slice Ar nr cr) (.slice Ad nd cd), .int .i64 1048576] w fun e w' => e = .returned (.int .i64 (szTot nt nr nd)) ∧ Kp w w' := by
  have fin : ∀ x : Int, szTot nt nr nd = x → Ending.returned (.int .i64 x) = .returned (.int .i64 (szTot nt nr nd)) := fun x h => by rw [h]
  have HF := Lib.hid fin
  clear fin
  by_cases a1 : nt ≤ 1048576
  · by_cases a2 : nt + nr ≤ 1048576
    · by_cases a3 : nt + nr + nd ≤ 1048576
      · go_enter Tryd.func17, Tryd.ntmps17
        go_wp2_with fail
        refine (szIntS_yes _ _ _ _ _ (by omega) (by omega) (by omega)).mono ?_
        rintro e1 w1 ⟨rfl, rfl⟩
        go_wp2_with fail
        refine (szIntS_yes _ _ _ _ _ (by omega) (by omega) (by omega)).mono ?_
        rintro e1 w1 ⟨rfl, rfl⟩
        go_wp2_with fail
        refine (szIntS_yes _ _ _ _ _ (by omega) (by omega) (by omega)).mono ?_
        rintro e1 w1 ⟨rfl, rfl⟩
        go_wp2_with fail
        go_ret
        exact ⟨HF.out _ (by unfold szTot; rw [if_pos a3]; omega), (Kp.refl _).alloc _⟩
      · go_enter Tryd.func17, Tryd.ntmps17
        go_wp2_with fail
        refine (szIntS_yes _ _ _ _ _ (by omega) (by omega) (by omega)).mono ?_
        rintro e1 w1 ⟨rfl, rfl⟩
        go_wp2_with fail
        refine (szIntS_yes _ _ _ _ _ (by omega) (by omega) (by omega)).mono ?_
        rintro e1 w1 ⟨rfl, rfl⟩
        go_wp2_with fail
        refine (szIntS_no _ _ _ _ _ (by omega) (by omega) (by omega) (by omega)).mono ?_
        rintro e1 w1 ⟨rfl, rfl⟩
        go_wp2_with fail
        go_ret
        exact ⟨HF.out _ (by unfold szTot; rw [if_neg a3]), (Kp.refl _).alloc _⟩
    · go_enter Tryd.func17, Tryd.ntmps17
      go_wp2_with fail
      refine (szIntS_yes _ _ _ _ _ (by omega) (by omega) (by omega)).mono ?_
      rintro e1 w1 ⟨rfl, rfl⟩
      go_wp2_with fail
      refine (szIntS_no _ _ _ _ _ (by omega) (by omega) (by omega) (by omega)).mono ?_
      rintro e1 w1 ⟨rfl, rfl⟩
      go_wp2_with fail
      go_ret
      exact ⟨HF.out _ (by unfold szTot; rw [if_neg (by omega)]), (Kp.refl _).alloc _⟩
  · go_enter Tryd.func17, Tryd.ntmps17
    go_wp2_with fail
    refine (szIntS_no _ _ _ _ _ (by omega) (by omega) (by omega) (by omega)).mono ?_
    rintro e1 w1 ⟨rfl, rfl⟩
    go_wp2_with fail
    go_ret
    exact ⟨HF.out _ (by unfold szTot; rw [if_neg (by omega)]), (Kp.refl _).alloc _⟩

theorem eqMap_same (W H : Int) (ta ra da tb rb db : Value) (lt lr ld : List Int) (w : World) (ha : Lists w ta ra da lt lr ld) (hb : Lists w tb rb db lt lr ld) :
    Calls Tryd.prog 21 #[mp W H ta ra da, mp W H tb rb db] w fun e w' => e = .returned (.bool true) ∧ Kp w w' := by
  have hne : ∀ n : Int, (n != n) = false := fun n => by simp
  have HA := Lib.hid (ha.keep (((Kp.refl w).alloc (.cells #[.int .i64 W, .int .i64 H, ta, ra, da] 43)).alloc (.cells #[.int .i64 W, .int .i64 H, tb, rb, db] 43)))
  have HB := Lib.hid (hb.keep (((Kp.refl w).alloc (.cells #[.int .i64 W, .int .i64 H, ta, ra, da] 43)).alloc (.cells #[.int .i64 W, .int .i64 H, tb, rb, db] 43)))
  clear ha hb
  go_enter Tryd.func21, Tryd.ntmps21
  go_wp2_with fail
  refine (eqIntS_same _ _ lt _ HA.out.rt HB.out.rt HA.out.bt).mono ?_
  rintro e1 w1 ⟨rfl, k1⟩
  have p3 : w1.cell? ⟨w.heap.size, 3, none⟩ = some ra := k1.cell (by simp [go_sem])
  have p4 : w1.cell? ⟨w.heap.size, 4, none⟩ = some da := k1.cell (by simp [go_sem])
  have q3 : w1.cell? ⟨w.heap.size + 1, 3, none⟩ = some rb := k1.cell (by simp [go_sem])
  have q4 : w1.cell? ⟨w.heap.size + 1, 4, none⟩ = some db := k1.cell (by simp [go_sem])
  have K1 : Kp w w1 := (((Kp.refl w).alloc _).alloc _).trans k1
  have HA1 := Lib.hid (HA.out.keep k1)
  have HB1 := Lib.hid (HB.out.keep k1)
  clear HA HB k1
  go_wp2_with fail
  refine (eqIntS_same _ _ lr _ HA1.out.rr HB1.out.rr HA1.out.br).mono ?_
  rintro e2 w2 ⟨rfl, k2⟩
  have r4 := k2.cell p4
  have s4 := k2.cell q4
  clear p3 p4 q3 q4
  go_wp2_with fail
  refine (eqIntS_same _ _ ld _ (HA1.out.keep k2).rd (HB1.out.keep k2).rd HA1.out.bd).mono ?_
  rintro e3 w3 ⟨rfl, k3⟩
  go_wp2_with fail
  go_ret
  exact ⟨rfl, (K1.trans k2).trans k3⟩

end Go.Proofs.YtpdcmpojjchobaaDoor

/-
  The laws' copy of a map: the same numbers and lists, in memory of its own. Nothing that was there is changed.
-/
namespace Go.Proofs.YtpdcmpojjchobaaDoor
open Go.RowKit

def ToMapPost (W H : Int) (lt lr ld : List Int) (w : World) (e : Ending) (w' : World) : Prop :=
  ∃ t r d, e = .returned (mp W H t r d) ∧ Own3 w' w.heap.size t r d lt lr ld ∧ Kp w w'

theorem toIntS_sl (v : Value) (l : List Int) (w : World) (h : RdI w v l) (hl : l.length ≤ 1048576) :
    Calls Tryd.prog 49 #[v] w fun e w' => ∃ A c, e = .returned (.slice A l.length c) ∧ OwnI w' w.heap.size (.slice A l.length c) l ∧ Kp w w' :=
  (toIntS_any v l w h hl).mono fun e w' ⟨v', he, ho, hk⟩ => by
    obtain ⟨A, c, rfl⟩ := ho.slice
    exact ⟨A, c, he, ho, hk⟩

set_option maxHeartbeats 2000000 in
theorem toMap_any (W H : Int) (t r d : Value) (lt lr ld : List Int) (w : World) (hL : Lists w t r d lt lr ld) :
    Calls Tryd.prog 19 #[mp W H t r d] w (ToMapPost W H lt lr ld w) := by
  have HL := Lib.hid hL
  obtain ⟨At, ct, rfl, _⟩ := hL.rt
  obtain ⟨Ar, cr, rfl, _⟩ := hL.rr
  obtain ⟨Ad, cd, rfl, _⟩ := hL.rd
  have C := Lib.hid toIntS_sl
  obtain ⟨nt, hnt⟩ : ∃ n, lt.length = n := ⟨_, rfl⟩
  obtain ⟨nr, hnr⟩ : ∃ n, lr.length = n := ⟨_, rfl⟩
  obtain ⟨nd, hnd⟩ : ∃ n, ld.length = n := ⟨_, rfl⟩
  have HNt := Lib.hid hnt
  have HNr := Lib.hid hnr
  have HNd := Lib.hid hnd
  rw [hnt, hnr, hnd]
  have CT : Hid (∀ w, RdI w (.slice At nt ct) lt → Calls Tryd.prog 49 #[.slice At nt ct] w fun e w' => ∃ A c, e = .returned (.slice A nt c) ∧ OwnI w' w.heap.size (.slice A nt c) lt ∧ Kp w w') := Lib.hid fun w h => by
    have := toIntS_sl _ lt w h hL.bt
    rw [hnt] at this
    exact this
  have CR : Hid (∀ w, RdI w (.slice Ar nr cr) lr → Calls Tryd.prog 49 #[.slice Ar nr cr] w fun e w' => ∃ A c, e = .returned (.slice A nr c) ∧ OwnI w' w.heap.size (.slice A nr c) lr ∧ Kp w w') := Lib.hid fun w h => by
    have := toIntS_sl _ lr w h hL.br
    rw [hnr] at this
    exact this
  have CD : Hid (∀ w, RdI w (.slice Ad nd cd) ld → Calls Tryd.prog 49 #[.slice Ad nd cd] w fun e w' => ∃ A c, e = .returned (.slice A nd c) ∧ OwnI w' w.heap.size (.slice A nd c) ld ∧ Kp w w') := Lib.hid fun w h => by
    have := toIntS_sl _ ld w h hL.bd
    rw [hnd] at this
    exact this
  rw [hnt, hnr, hnd] at HL
  clear hL hnt hnr hnd C
  go_enter Tryd.func19, Tryd.ntmps19
  go_wp2_with fail
  have k0 : Kp w (((w.alloc (.cells #[.int .i64 W, .int .i64 H, .slice At nt ct, .slice Ar nr cr, .slice Ad nd cd] 40)).alloc (.cells #[.int .i64 0, .int .i64 0, .slice none 0 0, .slice none 0 0, .slice none 0 0] 43)).alloc (.cells #[.int .i64 W, .int .i64 H, .slice none 0 0, .slice none 0 0, .slice none 0 0] 43)) := (((Kp.refl w).alloc _).alloc _).alloc _
  refine (CT.out _ (HL.out.keep k0).rt).mono ?_
  rintro e1 w1 ⟨A1, c1, rfl, o1, k1⟩
  have a3 : w1.cell? ⟨w.heap.size, 3, none⟩ = some (.slice Ar nr cr) := k1.cell (by simp [go_sem])
  have a4 : w1.cell? ⟨w.heap.size, 4, none⟩ = some (.slice Ad nd cd) := k1.cell (by simp [go_sem])
  have L1 : Live5 w1 (w.heap.size + 1) (.int .i64 0) (.int .i64 0) (.slice none 0 0) (.slice none 0 0) (.slice none 0 0) := live5_keep k1 ⟨by simp [go_sem], by simp [go_sem], by simp [go_sem], by simp [go_sem], by simp [go_sem]⟩
  have M1 : Live5 w1 (w.heap.size + 1 + 1) (.int .i64 W) (.int .i64 H) (.slice none 0 0) (.slice none 0 0) (.slice none 0 0) := live5_keep k1 ⟨by simp [go_sem], by simp [go_sem], by simp [go_sem], by simp [go_sem], by simp [go_sem]⟩
  have K1 : Kp w w1 := k0.trans k1
  have z1 : w.heap.size + 3 ≤ w1.heap.size := by have := k1.size; simp at this; omega
  have O1 := Lib.hid (o1.base (b := w.heap.size + 3) (by simp <;> omega))
  clear k0 k1 o1
  go_wp2_with fail
  have K1' : Kp w (w1.setCell ⟨w.heap.size + 1 + 1, 2, none⟩ (.slice A1 nt c1)) := K1.setCell (by simp <;> omega) _
  refine (CR.out _ (HL.out.keep K1').rr).mono ?_
  rintro e2 w2 ⟨A2, c2, rfl, o2, k2⟩
  have b4 : w2.cell? ⟨w.heap.size, 4, none⟩ = some (.slice Ad nd cd) := k2.cell (by simp [go_sem, *])
  have L2 : Live5 w2 (w.heap.size + 1) (.int .i64 0) (.int .i64 0) (.slice none 0 0) (.slice none 0 0) (.slice none 0 0) := live5_keep k2 ⟨by simp [go_sem, *], by simp [go_sem, *], by simp [go_sem, *], by simp [go_sem, *], by simp [go_sem, *]⟩
  have M2 : Live5 w2 (w.heap.size + 1 + 1) (.int .i64 W) (.int .i64 H) (.slice A1 nt c1) (.slice none 0 0) (.slice none 0 0) := live5_keep k2 ⟨by simp [go_sem, *], by simp [go_sem, *], by simp [go_sem, *], by simp [go_sem, *], by simp [go_sem, *]⟩
  have K2 : Kp w w2 := K1'.trans k2
  have z2 : w.heap.size + 3 ≤ w2.heap.size := by have := k2.size; simp at this; omega
  have O1b := Lib.hid ((O1.out.far (O1.out.not (g := w.heap.size + 1 + 1) (by omega)) (.slice A1 nt c1) (j := 2)).keep k2)
  have D12 : Hid (∀ g, (Value.slice A1 nt c1).ownBlock = some g → (Value.slice A2 nr c2).ownBlock ≠ some g) := Lib.hid fun g hg hg' => by
    have h1 := (World.ownsRow.lt O1.out g hg).2
    have h2 := (World.ownsRow.lt o2 g hg').1
    simp at h2
    omega
  have O2 := Lib.hid (o2.base (b := w.heap.size + 3) (by simp <;> omega))
  clear K1' k2 o2 a3 a4 L1 M1 K1 O1
  go_wp2_with fail
  have K2' : Kp w (w2.setCell ⟨w.heap.size + 1 + 1, 3, none⟩ (.slice A2 nr c2)) := K2.setCell (by simp <;> omega) _
  refine (CD.out _ (HL.out.keep K2').rd).mono ?_
  rintro e3 w3 ⟨A3, c3, rfl, o3, k3⟩
  have L3 : Live5 w3 (w.heap.size + 1) (.int .i64 0) (.int .i64 0) (.slice none 0 0) (.slice none 0 0) (.slice none 0 0) := live5_keep k3 ⟨by simp [go_sem, *], by simp [go_sem, *], by simp [go_sem, *], by simp [go_sem, *], by simp [go_sem, *]⟩
  have M3 : Live5 w3 (w.heap.size + 1 + 1) (.int .i64 W) (.int .i64 H) (.slice A1 nt c1) (.slice A2 nr c2) (.slice none 0 0) := live5_keep k3 ⟨by simp [go_sem, *], by simp [go_sem, *], by simp [go_sem, *], by simp [go_sem, *], by simp [go_sem, *]⟩
  have K3 : Kp w w3 := K2'.trans k3
  have O1c := Lib.hid ((O1b.out.far (O1b.out.not (g := w.heap.size + 1 + 1) (by omega)) (.slice A2 nr c2) (j := 3)).keep k3)
  have O2b := Lib.hid ((O2.out.far (O2.out.not (g := w.heap.size + 1 + 1) (by omega)) (.slice A2 nr c2) (j := 3)).keep k3)
  have D13 : Hid (∀ g, (Value.slice A1 nt c1).ownBlock = some g → (Value.slice A3 nd c3).ownBlock ≠ some g) := Lib.hid fun g hg hg' => by
    have h1 := (World.ownsRow.lt O1b.out g hg).2
    have h2 := (World.ownsRow.lt o3 g hg').1
    simp at h2
    omega
  have D23 : Hid (∀ g, (Value.slice A2 nr c2).ownBlock = some g → (Value.slice A3 nd c3).ownBlock ≠ some g) := Lib.hid fun g hg hg' => by
    have h1 := (World.ownsRow.lt O2.out g hg).2
    have h2 := (World.ownsRow.lt o3 g hg').1
    simp at h2
    omega
  have O3 := Lib.hid (o3.base (b := w.heap.size + 3) (by simp <;> omega))
  clear K2' k3 o3 b4 L2 M2 K2 O1b O2
  go_wp2_with fail
  have n1 : ∀ g, g < w.heap.size + 3 → (Value.slice A1 nt c1).ownBlock ≠ some g := fun g hg => O1c.out.not (by omega)
  have n2 : ∀ g, g < w.heap.size + 3 → (Value.slice A2 nr c2).ownBlock ≠ some g := fun g hg => O2b.out.not (by omega)
  have n3 : ∀ g, g < w.heap.size + 3 → (Value.slice A3 nd c3).ownBlock ≠ some g := fun g hg => O3.out.not (by omega)
  refine bodyPost_ret (v := mp W H (.slice A1 nt c1) (.slice A2 nr c2) (.slice A3 nd c3)) (by simp [results, Tryd.results19, go_sem, *]) rfl ⟨_, _, _, rfl, ⟨?_, ?_, ?_, D12.out, D13.out, D23.out⟩, ?_⟩
  · exact ((((((O1c.out.far (n1 _ (by omega)) _).far (n1 _ (by omega)) _).far (n1 _ (by omega)) _).far (n1 _ (by omega)) _).far (n1 _ (by omega)) _).far (n1 _ (by omega)) _).base (by omega)
  · exact ((((((O2b.out.far (n2 _ (by omega)) _).far (n2 _ (by omega)) _).far (n2 _ (by omega)) _).far (n2 _ (by omega)) _).far (n2 _ (by omega)) _).far (n2 _ (by omega)) _).base (by omega)
  · exact ((((((O3.out.far (n3 _ (by omega)) _).far (n3 _ (by omega)) _).far (n3 _ (by omega)) _).far (n3 _ (by omega)) _).far (n3 _ (by omega)) _).far (n3 _ (by omega)) _).base (by omega)
  · exact (((((K3.setCell (by simp <;> omega) _).setCell (by simp <;> omega) _).setCell (by simp <;> omega) _).setCell (by simp <;> omega) _).setCell (by simp <;> omega) _).setCell (by simp <;> omega) _

end Go.Proofs.YtpdcmpojjchobaaDoor

/-
  The laws' copy of rules: the same lists and numbers, in memory of its own. Nothing that was there is changed.
-/
namespace Go.Proofs.YtpdcmpojjchobaaDoor
open Go.RowKit

set_option maxRecDepth 100000 in
set_option maxHeartbeats 1000000 in
theorem toTerrain_any (nm : ByteArray) (A : Option Addr) (nc cc : Nat) (s h : Int) (b : Bool) (l : List Int) (w : World) (hr : RdI w (.slice A nc cc) l) (hn : nc ≤ 1048576) :
    Calls Tryd.prog 71 #[tv nm A nc cc s h b] w fun e w' => ∃ A' c', e = .returned (tv nm A' nc c' s h b) ∧ OwnI w' (w.heap.size + 1) (.slice A' nc c') l ∧ Kp w w' := by
  have hl := hr.of_slice
  have C : Hid (∀ w, RdI w (.slice A nc cc) l → Calls Tryd.prog 49 #[.slice A nc cc] w fun e w' => ∃ A c, e = .returned (.slice A nc c) ∧ OwnI w' w.heap.size (.slice A nc c) l ∧ Kp w w') := Lib.hid fun w h => by
    have := toIntS_sl _ l w h (by omega)
    rw [hl] at this
    exact this
  have HR := Lib.hid hr
  clear hr hl
  go_enter Tryd.func71, Tryd.ntmps71
  go_wp2_with fail
  have k0 : Kp w (((w.alloc (.cells #[.string nm, .slice A nc cc, .int .i64 s, .int .i64 h, .bool b] 103)).alloc (.cells #[.string ByteArray.empty, .slice none 0 0, .int .i64 0, .int .i64 0, .bool false] 70)).alloc (.cells #[.string nm, .slice none 0 0, .int .i64 0, .int .i64 0, .bool false] 70)) := (((Kp.refl w).alloc _).alloc _).alloc _
  refine (C.out _ (HR.out.keep k0)).mono ?_
  rintro e1 w1 ⟨A1, c1, rfl, o1, k1⟩
  have a2 : w1.cell? ⟨w.heap.size, 2, none⟩ = some (.int .i64 s) := k1.cell (by simp [go_sem])
  have a3 : w1.cell? ⟨w.heap.size, 3, none⟩ = some (.int .i64 h) := k1.cell (by simp [go_sem])
  have a4 : w1.cell? ⟨w.heap.size, 4, none⟩ = some (.bool b) := k1.cell (by simp [go_sem])
  have L1 : Live5 w1 (w.heap.size + 1) (.string ByteArray.empty) (.slice none 0 0) (.int .i64 0) (.int .i64 0) (.bool false) := live5_keep k1 ⟨by simp [go_sem], by simp [go_sem], by simp [go_sem], by simp [go_sem], by simp [go_sem]⟩
  have M1 : Live5 w1 (w.heap.size + 1 + 1) (.string nm) (.slice none 0 0) (.int .i64 0) (.int .i64 0) (.bool false) := live5_keep k1 ⟨by simp [go_sem], by simp [go_sem], by simp [go_sem], by simp [go_sem], by simp [go_sem]⟩
  have K1 : Kp w w1 := k0.trans k1
  have z1 : w.heap.size + 3 ≤ w1.heap.size := by have := k1.size; simp at this; omega
  have O1 := Lib.hid (o1.base (b := w.heap.size + 3) (by simp <;> omega))
  clear k0 k1 o1
  go_wp2_with fail
  have n1 : ∀ g, g < w.heap.size + 3 → (Value.slice A1 nc c1).ownBlock ≠ some g := fun g hg => O1.out.not (by omega)
  refine bodyPost_ret (v := tv nm A1 nc c1 s h b) (by simp [results, Tryd.results71, go_sem, *]) rfl ⟨_, _, rfl, ?_, ?_⟩
  · exact (((((((((O1.out.far (n1 _ (by omega)) _).far (n1 _ (by omega)) _).far (n1 _ (by omega)) _).far (n1 _ (by omega)) _).far (n1 _ (by omega)) _).far (n1 _ (by omega)) _).far (n1 _ (by omega)) _).far (n1 _ (by omega)) _).far (n1 _ (by omega)) _).base (by omega)
  · exact ((((((((K1.setCell (by simp <;> omega) _).setCell (by simp <;> omega) _).setCell (by simp <;> omega) _).setCell (by simp <;> omega) _).setCell (by simp <;> omega) _).setCell (by simp <;> omega) _).setCell (by simp <;> omega) _).setCell (by simp <;> omega) _).setCell (by simp <;> omega) _

set_option maxRecDepth 100000 in
set_option maxHeartbeats 1000000 in
theorem toKind_any (nm : ByteArray) (a b c : Int) (z : Bool) (v : Int) (w : World) :
    Calls Tryd.prog 72 #[kv nm a b c z v] w fun e w' => e = .returned (kv nm a b c z v) ∧ Kp w w' := by
  go_enter Tryd.func72, Tryd.ntmps72
  go_wp2_with fail
  exact bodyPost_ret (v := kv nm a b c z v) (by simp [results, Tryd.results72, go_sem]) rfl ⟨rfl, (((Kp.refl w).alloc _).alloc _).alloc _⟩

theorem infoTer : (Tryd.prog.info? 70).map (fun i => (i.zero, i.size, i.bytes)) = some (some (tv ByteArray.empty none 0 0 0 0 false), 5, 64) := by kernel_rfl
theorem infoKnd : (Tryd.prog.info? 62).map (fun i => (i.zero, i.size, i.bytes)) = some (some (kv ByteArray.empty 0 0 0 false 0), 6, 56) := by kernel_rfl
theorem mkTers (n : Nat) (hn : n ≤ 1048576) (w : World) :
    (Instr.makeSlice 29 (.int .i64 (n : Int)) (.int .i64 (n : Int))).run Tryd.prog w = .ok (.slice (some ⟨w.heap.size, 0, none⟩) n n) (w.alloc (.cells (madeCells (tv ByteArray.empty none 0 0 0 0 false).cells (n * 5)) 70)) := by
  obtain ⟨i, hi, hz, hs, hb⟩ := info_parts infoTer
  have hr := run_make (P := Tryd.prog) w 29 70 i (tv ByteArray.empty none 0 0 0 0 false) Tryd.underlying29 hi hz .i64 .i64 (n : Int) (n : Int) (by omega) (by omega) (by rw [hb]; omega) (by omega)
  rw [hs, Int.toNat_natCast] at hr
  exact hr
theorem mkKnds (n : Nat) (hn : n ≤ 1048576) (w : World) :
    (Instr.makeSlice 30 (.int .i64 (n : Int)) (.int .i64 (n : Int))).run Tryd.prog w = .ok (.slice (some ⟨w.heap.size, 0, none⟩) n n) (w.alloc (.cells (madeCells (kv ByteArray.empty 0 0 0 false 0).cells (n * 6)) 62)) := by
  obtain ⟨i, hi, hz, hs, hb⟩ := info_parts infoKnd
  have hr := run_make (P := Tryd.prog) w 30 62 i (kv ByteArray.empty 0 0 0 false 0) Tryd.underlying30 hi hz .i64 .i64 (n : Int) (n : Int) (by omega) (by omega) (by rw [hb]; omega) (by omega)
  rw [hs, Int.toNat_natCast] at hr
  exact hr

/-- The cells of a copied terrain, at a place of a row's list. -/
def TerIn (ys : List Value) (j : Nat) (x : Ter) (c : Option Addr × Nat) : Prop :=
  ys[j * 5]? = some (.string x.name) ∧ ys[j * 5 + 1]? = some (.slice c.1 x.cost.length c.2) ∧ ys[j * 5 + 2]? = some (.int .i64 x.shift) ∧ ys[j * 5 + 3]? = some (.int .i64 x.height) ∧ ys[j * 5 + 4]? = some (.bool x.blocks)
def KndIn (ys : List Value) (j : Nat) (x : Knd) : Prop :=
  ys[j * 6]? = some (.string x.name) ∧ ys[j * 6 + 1]? = some (.int .i64 x.str) ∧ ys[j * 6 + 2]? = some (.int .i64 x.mov) ∧ ys[j * 6 + 3]? = some (.int .i64 x.stp) ∧ ys[j * 6 + 4]? = some (.bool x.zone) ∧ ys[j * 6 + 5]? = some (.int .i64 x.view)
def set5 (ys : List Value) (k : Nat) (a b c d e : Value) : List Value := ((((ys.set (k * 5) a).set (k * 5 + 1) b).set (k * 5 + 2) c).set (k * 5 + 3) d).set (k * 5 + 4) e
def set6 (ys : List Value) (k : Nat) (a b c d e f : Value) : List Value := (((((ys.set (k * 6) a).set (k * 6 + 1) b).set (k * 6 + 2) c).set (k * 6 + 3) d).set (k * 6 + 4) e).set (k * 6 + 5) f
theorem set5_other {ys : List Value} {k j : Nat} {a b c d e : Value} (h : ∀ i, i < 5 → k * 5 + i ≠ j) : (set5 ys k a b c d e)[j]? = ys[j]? := by
  unfold set5
  have h0 := h 0 (by omega); have h1 := h 1 (by omega); have h2 := h 2 (by omega); have h3 := h 3 (by omega); have h4 := h 4 (by omega)
  rw [List.getElem?_set_ne h4, List.getElem?_set_ne h3, List.getElem?_set_ne h2, List.getElem?_set_ne h1, List.getElem?_set_ne (by omega)]
theorem set6_other {ys : List Value} {k j : Nat} {a b c d e f : Value} (h : ∀ i, i < 6 → k * 6 + i ≠ j) : (set6 ys k a b c d e f)[j]? = ys[j]? := by
  unfold set6
  have h0 := h 0 (by omega); have h1 := h 1 (by omega); have h2 := h 2 (by omega); have h3 := h 3 (by omega); have h4 := h 4 (by omega); have h5 := h 5 (by omega)
  rw [List.getElem?_set_ne h5, List.getElem?_set_ne h4, List.getElem?_set_ne h3, List.getElem?_set_ne h2, List.getElem?_set_ne h1, List.getElem?_set_ne (by omega)]
theorem terIn_new {ys : List Value} {k n : Nat} {x : Ter} {c : Option Addr × Nat} (hl : ys.length = n * 5) (hk : k < n) : TerIn (set5 ys k (.string x.name) (.slice c.1 x.cost.length c.2) (.int .i64 x.shift) (.int .i64 x.height) (.bool x.blocks)) k x c := by
  unfold TerIn set5
  refine ⟨?_, ?_, ?_, ?_, ?_⟩
  · rw [List.getElem?_set_ne (by omega), List.getElem?_set_ne (by omega), List.getElem?_set_ne (by omega), List.getElem?_set_ne (by omega), List.getElem?_set_self (by omega)]
  · rw [List.getElem?_set_ne (by omega), List.getElem?_set_ne (by omega), List.getElem?_set_ne (by omega), List.getElem?_set_self (by simp only [List.length_set]; omega)]
  · rw [List.getElem?_set_ne (by omega), List.getElem?_set_ne (by omega), List.getElem?_set_self (by simp only [List.length_set]; omega)]
  · rw [List.getElem?_set_ne (by omega), List.getElem?_set_self (by simp only [List.length_set]; omega)]
  · rw [List.getElem?_set_self (by simp only [List.length_set]; omega)]
theorem kndIn_new {ys : List Value} {k n : Nat} {x : Knd} (hl : ys.length = n * 6) (hk : k < n) : KndIn (set6 ys k (.string x.name) (.int .i64 x.str) (.int .i64 x.mov) (.int .i64 x.stp) (.bool x.zone) (.int .i64 x.view)) k x := by
  unfold KndIn set6
  refine ⟨?_, ?_, ?_, ?_, ?_, ?_⟩
  · rw [List.getElem?_set_ne (by omega), List.getElem?_set_ne (by omega), List.getElem?_set_ne (by omega), List.getElem?_set_ne (by omega), List.getElem?_set_ne (by omega), List.getElem?_set_self (by omega)]
  · rw [List.getElem?_set_ne (by omega), List.getElem?_set_ne (by omega), List.getElem?_set_ne (by omega), List.getElem?_set_ne (by omega), List.getElem?_set_self (by simp only [List.length_set]; omega)]
  · rw [List.getElem?_set_ne (by omega), List.getElem?_set_ne (by omega), List.getElem?_set_ne (by omega), List.getElem?_set_self (by simp only [List.length_set]; omega)]
  · rw [List.getElem?_set_ne (by omega), List.getElem?_set_ne (by omega), List.getElem?_set_self (by simp only [List.length_set]; omega)]
  · rw [List.getElem?_set_ne (by omega), List.getElem?_set_self (by simp only [List.length_set]; omega)]
  · rw [List.getElem?_set_self (by simp only [List.length_set]; omega)]
theorem terIn_old {ys : List Value} {k j : Nat} {a b c' d e : Value} {x : Ter} {c : Option Addr × Nat} (h : TerIn ys j x c) (hj : j < k) : TerIn (set5 ys k a b c' d e) j x c := by
  obtain ⟨h0, h1, h2, h3, h4⟩ := h
  exact ⟨(set5_other (by omega)).trans h0, (set5_other (by omega)).trans h1, (set5_other (by omega)).trans h2, (set5_other (by omega)).trans h3, (set5_other (by omega)).trans h4⟩
theorem kndIn_old {ys : List Value} {k j : Nat} {a b c d e f : Value} {x : Knd} (h : KndIn ys j x) (hj : j < k) : KndIn (set6 ys k a b c d e f) j x := by
  obtain ⟨h0, h1, h2, h3, h4, h5⟩ := h
  exact ⟨(set6_other (by omega)).trans h0, (set6_other (by omega)).trans h1, (set6_other (by omega)).trans h2, (set6_other (by omega)).trans h3, (set6_other (by omega)).trans h4, (set6_other (by omega)).trans h5⟩

/-- Copied terrains: a row in block g, each terrain's costs in a block of their own behind it. -/
structure OwnT (w : World) (g n : Nat) (l : List Ter) (cs : List (Option Addr × Nat)) (ys : List Value) : Prop where
  row : w.ownsRow g 70 5 (.slice (some ⟨g, 0, none⟩) n n) n ys
  here : ∀ (j : Nat) (x : Ter) (c : Option Addr × Nat), l[j]? = some x → cs[j]? = some c → TerIn ys j x c
  each : ∀ (j : Nat) (x : Ter) (c : Option Addr × Nat), l[j]? = some x → cs[j]? = some c → OwnI w (g + 1) (.slice c.1 x.cost.length c.2) x.cost
  apart : ∀ (i j : Nat) (c d : Option Addr × Nat), i < j → cs[i]? = some c → cs[j]? = some d → ∀ (x y k : Nat), (Value.slice c.1 x c.2).ownBlock = some k → (Value.slice d.1 y d.2).ownBlock ≠ some k
structure OwnK (w : World) (g n : Nat) (l : List Knd) (ys : List Value) : Prop where
  row : w.ownsRow g 62 6 (.slice (some ⟨g, 0, none⟩) n n) n ys
  here : ∀ (j : Nat) (x : Knd), l[j]? = some x → KndIn ys j x
theorem OwnT.keep {w w' : World} {g n : Nat} {l : List Ter} {cs : List (Option Addr × Nat)} {ys : List Value} (h : OwnT w g n l cs ys) (k : Kp w w') : OwnT w' g n l cs ys :=
  ⟨ownsRow_keep h.row k, h.here, fun j x c hx hc => (h.each j x c hx hc).keep k, h.apart⟩
theorem OwnK.keep {w w' : World} {g n : Nat} {l : List Knd} {ys : List Value} (h : OwnK w g n l ys) (k : Kp w w') : OwnK w' g n l ys := ⟨ownsRow_keep h.row k, h.here⟩
theorem OwnT.rd {w : World} {g n : Nat} {l : List Ter} {cs : List (Option Addr × Nat)} {ys : List Value} (h : OwnT w g n l cs ys) (hl : l.length = n) (hc : cs.length = n) : RdT w (some ⟨g, 0, none⟩) n l :=
  ⟨hl, fun _ => ⟨g, 0, rfl, fun i x hx => by
    have hi := lt_of_at hx
    have hcs : cs[i]? = some (cs[i]'(by omega)) := List.getElem?_eq_getElem _
    obtain ⟨h0, h1, h2, h3, h4⟩ := h.here i x _ hx hcs
    have hlen : ys.length = n * 5 := h.row.1
    have e := (h.each i x _ hx hcs).rd
    rw [Nat.zero_add]
    refine ⟨_, _, ⟨?_, ?_, ?_, ?_, ?_⟩, e⟩
    · exact (h.row.cellAt (i * 5) (by omega)).trans h0
    · exact (h.row.cellAt (i * 5 + 1) (by omega)).trans h1
    · exact (h.row.cellAt (i * 5 + 2) (by omega)).trans h2
    · exact (h.row.cellAt (i * 5 + 3) (by omega)).trans h3
    · exact (h.row.cellAt (i * 5 + 4) (by omega)).trans h4⟩⟩
theorem OwnK.rd {w : World} {g n : Nat} {l : List Knd} {ys : List Value} (h : OwnK w g n l ys) (hl : l.length = n) : RdK w (some ⟨g, 0, none⟩) n l :=
  ⟨hl, fun _ => ⟨g, 0, rfl, fun i x hx => by
    have hi := lt_of_at hx
    obtain ⟨h0, h1, h2, h3, h4, h5⟩ := h.here i x hx
    rw [Nat.zero_add]
    refine ⟨?_, ?_, ?_, ?_, ?_, ?_⟩
    · exact (h.row.cellAt (i * 6) (by omega)).trans h0
    · exact (h.row.cellAt (i * 6 + 1) (by omega)).trans h1
    · exact (h.row.cellAt (i * 6 + 2) (by omega)).trans h2
    · exact (h.row.cellAt (i * 6 + 3) (by omega)).trans h3
    · exact (h.row.cellAt (i * 6 + 4) (by omega)).trans h4
    · exact (h.row.cellAt (i * 6 + 5) (by omega)).trans h5⟩⟩

theorem stored5 {w : World} {base g n : Nat} {e : TypeId} {ys : List Value} {cap : Nat} (h : w.ownsRow base e 5 (.slice (some ⟨g, 0, none⟩) n cap) n ys) (k : Nat) (a b c d f : Value) :
    ((((((w.setCell ⟨g, k * 5, none⟩ a).setCell ⟨g, k * 5 + 1, none⟩ b).setCell ⟨g, k * 5 + 2, none⟩ c).setCell ⟨g, k * 5 + 3, none⟩ d).setCell ⟨g, k * 5 + 4, none⟩ f)).ownsRow base e 5 (.slice (some ⟨g, 0, none⟩) n cap) n (set5 ys k a b c d f) :=
  (((((h.stored (k * 5) a).1.stored (k * 5 + 1) b).1.stored (k * 5 + 2) c).1.stored (k * 5 + 3) d).1.stored (k * 5 + 4) f).1
theorem stored6 {w : World} {base g n : Nat} {e : TypeId} {ys : List Value} {cap : Nat} (h : w.ownsRow base e 6 (.slice (some ⟨g, 0, none⟩) n cap) n ys) (k : Nat) (a b c d f p : Value) :
    (((((((w.setCell ⟨g, k * 6, none⟩ a).setCell ⟨g, k * 6 + 1, none⟩ b).setCell ⟨g, k * 6 + 2, none⟩ c).setCell ⟨g, k * 6 + 3, none⟩ d).setCell ⟨g, k * 6 + 4, none⟩ f)).setCell ⟨g, k * 6 + 5, none⟩ p).ownsRow base e 6 (.slice (some ⟨g, 0, none⟩) n cap) n (set6 ys k a b c d f p) :=
  ((((((h.stored (k * 6) a).1.stored (k * 6 + 1) b).1.stored (k * 6 + 2) c).1.stored (k * 6 + 3) d).1.stored (k * 6 + 4) f).1.stored (k * 6 + 5) p).1

theorem liveN {w : World} {base g n sz : Nat} {e : TypeId} {ys : List Value} {cap : Nat} (h : w.ownsRow base e sz (.slice (some ⟨g, 0, none⟩) n cap) n ys) {j : Nat} (hj : j < n * sz) : (∃ u, w.cell? ⟨g, j, none⟩ = some u) ∧ w.frozen? ⟨g, j, none⟩ = false := by
  have hlen : ys.length = n * sz := h.1
  exact ⟨⟨_, (h.cellAt j (by omega)).trans (List.getElem?_eq_getElem (by omega))⟩, h.frozenAt j⟩

theorem ownBlock_len (A : Option Addr) (x y c : Nat) : (Value.slice A x c).ownBlock = (Value.slice A y c).ownBlock := by cases A <;> rfl
theorem OwnT.step {w w1 : World} {g n k : Nat} {l : List Ter} {cs : List (Option Addr × Nat)} {ys : List Value} {x : Ter} {A : Option Addr} {c : Nat} (h : OwnT w g n l cs ys) (hcs : cs.length = k) (hx : l[k]? = some x) (hk : k < n) (k1 : Kp w w1) (hg : g < w.heap.size)
    (ho : OwnI w1 (w.heap.size + 1) (.slice A x.cost.length c) x.cost) :
    OwnT (((((w1.setCell ⟨g, k * 5, none⟩ (.string x.name)).setCell ⟨g, k * 5 + 1, none⟩ (.slice A x.cost.length c)).setCell ⟨g, k * 5 + 2, none⟩ (.int .i64 x.shift)).setCell ⟨g, k * 5 + 3, none⟩ (.int .i64 x.height)).setCell ⟨g, k * 5 + 4, none⟩ (.bool x.blocks)) g n l (cs ++ [(A, c)])
      (set5 ys k (.string x.name) (.slice A x.cost.length c) (.int .i64 x.shift) (.int .i64 x.height) (.bool x.blocks)) := by
  have hlen : ys.length = n * 5 := h.row.1
  refine ⟨stored5 (ownsRow_keep h.row k1) k _ _ _ _ _, ?_, ?_, ?_⟩
  · intro j y d hy hd
    rcases Nat.lt_or_ge j k with hj | hj
    · rw [List.getElem?_append_left (by omega)] at hd
      exact terIn_old (h.here j y d hy hd) hj
    · have hj2 : j = k := by have := lt_of_at hd; simp at this; omega
      subst hj2
      rw [List.getElem?_append_right (by omega), hcs, Nat.sub_self] at hd
      obtain rfl : (A, c) = d := by simpa using hd
      rw [hx] at hy
      obtain rfl := Option.some.inj hy
      exact terIn_new (c := (A, c)) hlen hk
  · intro j y d hy hd
    have far : ∀ {v l'} , OwnI w1 (g + 1) v l' → OwnI (((((w1.setCell ⟨g, k * 5, none⟩ (.string x.name)).setCell ⟨g, k * 5 + 1, none⟩ (.slice A x.cost.length c)).setCell ⟨g, k * 5 + 2, none⟩ (.int .i64 x.shift)).setCell ⟨g, k * 5 + 3, none⟩ (.int .i64 x.height)).setCell ⟨g, k * 5 + 4, none⟩ (.bool x.blocks)) (g + 1) v l' := fun {v l'} o => by
      have n1 := o.not (g := g) (by omega)
      exact ((((o.far n1 _).far n1 _).far n1 _).far n1 _).far n1 _
    rcases Nat.lt_or_ge j k with hj | hj
    · rw [List.getElem?_append_left (by omega)] at hd
      exact far ((h.each j y d hy hd).keep k1)
    · have hj2 : j = k := by have := lt_of_at hd; simp at this; omega
      subst hj2
      rw [List.getElem?_append_right (by omega), hcs, Nat.sub_self] at hd
      obtain rfl : (A, c) = d := by simpa using hd
      rw [hx] at hy
      obtain rfl := Option.some.inj hy
      exact far (ho.base (by omega))
  · intro i j c1 d1 hij hc hd x1 y1 b hb hb'
    have hjl : j < k + 1 := by have := lt_of_at hd; simp at this; omega
    rw [List.getElem?_append_left (by omega)] at hc
    rcases Nat.lt_or_ge j k with hj | hj
    · rw [List.getElem?_append_left (by omega)] at hd
      exact h.apart i j c1 d1 hij hc hd x1 y1 b hb hb'
    · have hj2 : j = k := by omega
      subst hj2
      rw [List.getElem?_append_right (by omega), hcs, Nat.sub_self] at hd
      obtain rfl : (A, c) = d1 := by simpa using hd
      have hxi : l[i]? = some (l[i]'(by have := lt_of_at hx; omega)) := List.getElem?_eq_getElem _
      have h1 := (World.ownsRow.lt (h.each i _ c1 hxi hc) b ((ownBlock_len _ _ _ _).trans hb)).2
      have h2 := (World.ownsRow.lt ho b ((ownBlock_len _ _ _ _).trans hb')).1
      omega
theorem OwnK.step {w : World} {g n k : Nat} {l : List Knd} {ys : List Value} {x : Knd} (h : OwnK w g n (l.take k) ys) (hx : l[k]? = some x) (hk : k < n) :
    OwnK ((((((w.setCell ⟨g, k * 6, none⟩ (.string x.name)).setCell ⟨g, k * 6 + 1, none⟩ (.int .i64 x.str)).setCell ⟨g, k * 6 + 2, none⟩ (.int .i64 x.mov)).setCell ⟨g, k * 6 + 3, none⟩ (.int .i64 x.stp)).setCell ⟨g, k * 6 + 4, none⟩ (.bool x.zone)).setCell ⟨g, k * 6 + 5, none⟩ (.int .i64 x.view)) g n (l.take (k + 1))
      (set6 ys k (.string x.name) (.int .i64 x.str) (.int .i64 x.mov) (.int .i64 x.stp) (.bool x.zone) (.int .i64 x.view)) := by
  have hlen : ys.length = n * 6 := h.row.1
  refine ⟨stored6 h.row k _ _ _ _ _ _, fun j y hy => ?_⟩
  rw [List.getElem?_take] at hy
  split at hy
  · rename_i hj
    rcases Nat.lt_or_ge j k with h1 | h1
    · exact kndIn_old (h.here j y (by rw [List.getElem?_take, if_pos h1]; exact hy)) h1
    · obtain rfl : j = k := by omega
      rw [hx] at hy
      obtain rfl := Option.some.inj hy
      exact kndIn_new hlen hk
  · cases hy

set_option maxRecDepth 100000 in
set_option maxHeartbeats 1000000 in
theorem toTerrainS_any (A : Option Addr) (n c : Nat) (l : List Ter) (w : World) (h : RdT w A n l) (hn : n ≤ 1048576) (hcb : ∀ x ∈ l, x.cost.length ≤ 1048576) :
    Calls Tryd.prog 32 #[.slice A n c] w fun e w' => ∃ (cs : List (Option Addr × Nat)) (ys : List Value), e = .returned (.slice (some ⟨w.heap.size, 0, none⟩) n n) ∧ cs.length = n ∧ OwnT w' w.heap.size n l cs ys ∧ Kp w w' := by
  have HN := Lib.hid h.1
  have HA := Lib.hid h.2
  have HB := Lib.hid hcb
  have hmk := fun w => mkTers n hn w
  have own0 : (w.alloc (.cells (madeCells (tv ByteArray.empty none 0 0 0 0 false).cells (n * 5)) 70)).ownsRow w.heap.size 70 5 (.slice (some ⟨w.heap.size, 0, none⟩) n n) n (madeCells (tv ByteArray.empty none 0 0 0 0 false).cells (n * 5)).toList :=
    World.ownsRow_lit w _ n (Nat.le_refl _) (by simp only [maxLen]; omega) (by rw [size_madeCells])
  clear h hcb
  go_enter Tryd.func32, Tryd.ntmps32
  go_wp2_with fail
  go_loopw [4] (fun i wr => ∃ (k : Nat) (cs : List (Option Addr × Nat)) (ys : List Value), k ≤ n ∧ i = .int .i64 k ∧ Hid (cs.length = k) ∧ Hid (OwnT wr w.heap.size n l cs ys) ∧ Kp w wr ∧ w.heap.size < wr.heap.size) (fun i _ => n - (intOf i).toNat)
  case atStart => exact ⟨0, [], _, by omega, rfl, Lib.hid rfl, Lib.hid ⟨own0, fun j x c hx hc => by simp at hc, fun j x c hx hc => by simp at hc, fun i j c d _ hc => by simp at hc⟩, (Kp.refl _).alloc _, by simp⟩
  case round =>
    clear own0 hmk
    obtain ⟨k, cs, ys, hk, rfl, HC, HO, kr, hz⟩ := hrel
    by_cases hlt : k < n
    · have hlt' : (k : Int) < n := by omega
      obtain ⟨g, off, rfl, hc⟩ := HA.out (by omega)
      obtain ⟨x, hx⟩ : ∃ x, l[k]? = some x := ⟨l[k]'(by have := HN.out; omega), List.getElem?_eq_getElem _⟩
      obtain ⟨Ac, cc, ⟨a0, a1, a2, a3, a4⟩, ra⟩ := (hc k x hx).keep kr
      have hnc := HB.out x (List.mem_of_getElem? hx)
      have HX := Lib.hid hx
      obtain ⟨nm, cl, sh, hg, bl⟩ := x
      simp only at a0 a1 a2 a3 a4 ra hnc
      have HE := Lib.hid (fun (w1 : World) (A : Option Addr) (c : Nat) (k1 : Kp wr w1) (ho : OwnI w1 (wr.heap.size + 1) (.slice A cl.length c) cl) => OwnT.step (x := ⟨nm, cl, sh, hg, bl⟩) HO.out HC.out HX.out hlt k1 hz ho)
      simp only at HE
      have RA := Lib.hid ra
      generalize cl.length = nc at a1 RA hnc HE
      have HR := Lib.hid HO.out.row
      clear hc hx ra
      go_wp2_with fail
      refine (toTerrain_any _ _ _ _ _ _ _ cl _ RA.out hnc).mono ?_
      rintro e1 w1 ⟨A1, c1, rfl, o1, k1⟩
      have HR1 := ownsRow_keep HR.out k1
      obtain ⟨⟨u0, b0⟩, f0⟩ := liveN HR1 (j := k * 5) (by omega)
      obtain ⟨⟨u1, b1⟩, f1⟩ := liveN HR1 (j := k * 5 + 1) (by omega)
      obtain ⟨⟨u2, b2⟩, f2⟩ := liveN HR1 (j := k * 5 + 2) (by omega)
      obtain ⟨⟨u3, b3⟩, f3⟩ := liveN HR1 (j := k * 5 + 3) (by omega)
      obtain ⟨⟨u4, b4⟩, f4⟩ := liveN HR1 (j := k * 5 + 4) (by omega)
      have HT := Lib.hid (HE.out w1 A1 c1 k1 o1)
      have K1 : Kp w w1 := kr.trans k1
      have hz1 : w.heap.size < w1.heap.size := by have := k1.size; omega
      have HC2 : Hid ((cs ++ [(A1, c1)]).length = k + 1) := Lib.hid (by have := HC.out; simp; omega)
      clear HR1 HE o1 k1 a0 a1 a2 a3 a4 RA HO HR
      go_wp2_with fail
      go_roundw
      case rel => exact ⟨k + 1, _, _, by omega, by go_num, HC2, HT, ((((K1.setCell (by simp) _).setCell (by simp) _).setCell (by simp) _).setCell (by simp) _).setCell (by simp) _, by simpa using hz1⟩
      case measure => simp [intOf]; omega
    · obtain rfl : k = n := by omega
      go_wp2_with fail
      go_ret
      exact ⟨cs, ys, rfl, HC.out, HO.out, kr⟩

set_option maxRecDepth 100000 in
set_option maxHeartbeats 1000000 in
theorem toKindS_any (A : Option Addr) (n c : Nat) (l : List Knd) (w : World) (h : RdK w A n l) (hn : n ≤ 1048576) :
    Calls Tryd.prog 33 #[.slice A n c] w fun e w' => ∃ (ys : List Value), e = .returned (.slice (some ⟨w.heap.size, 0, none⟩) n n) ∧ OwnK w' w.heap.size n l ys ∧ Kp w w' := by
  have HN := Lib.hid h.1
  have HA := Lib.hid h.2
  have hmk := fun w => mkKnds n hn w
  have own0 : (w.alloc (.cells (madeCells (kv ByteArray.empty 0 0 0 false 0).cells (n * 6)) 62)).ownsRow w.heap.size 62 6 (.slice (some ⟨w.heap.size, 0, none⟩) n n) n (madeCells (kv ByteArray.empty 0 0 0 false 0).cells (n * 6)).toList :=
    World.ownsRow_lit w _ n (Nat.le_refl _) (by simp only [maxLen]; omega) (by rw [size_madeCells])
  clear h
  go_enter Tryd.func33, Tryd.ntmps33
  go_wp2_with fail
  go_loopw [4] (fun i wr => ∃ (k : Nat) (ys : List Value), k ≤ n ∧ i = .int .i64 k ∧ Hid (OwnK wr w.heap.size n (l.take k) ys) ∧ Kp w wr ∧ w.heap.size < wr.heap.size) (fun i _ => n - (intOf i).toNat)
  case atStart => exact ⟨0, _, by omega, rfl, Lib.hid ⟨own0, fun j x hx => by simp at hx⟩, (Kp.refl _).alloc _, by simp⟩
  case round =>
    clear own0 hmk
    obtain ⟨k, ys, hk, rfl, HO, kr, hz⟩ := hrel
    by_cases hlt : k < n
    · have hlt' : (k : Int) < n := by omega
      obtain ⟨g, off, rfl, hc⟩ := HA.out (by omega)
      obtain ⟨x, hx⟩ : ∃ x, l[k]? = some x := ⟨l[k]'(by have := HN.out; omega), List.getElem?_eq_getElem _⟩
      obtain ⟨a0, a1, a2, a3, a4, a5⟩ := (hc k x hx).keep kr
      have HX := Lib.hid hx
      obtain ⟨nm, ks, km, kt, kz, kw⟩ := x
      simp only at a0 a1 a2 a3 a4 a5
      clear hc hx
      go_wp2_with fail
      refine (toKind_any _ _ _ _ _ _ _).mono ?_
      rintro e1 w1 ⟨rfl, k1⟩
      have HO1 := Lib.hid (HO.out.keep k1)
      have HR1 := HO1.out.row
      obtain ⟨⟨u0, b0⟩, f0⟩ := liveN HR1 (j := k * 6) (by omega)
      obtain ⟨⟨u1, b1⟩, f1⟩ := liveN HR1 (j := k * 6 + 1) (by omega)
      obtain ⟨⟨u2, b2⟩, f2⟩ := liveN HR1 (j := k * 6 + 2) (by omega)
      obtain ⟨⟨u3, b3⟩, f3⟩ := liveN HR1 (j := k * 6 + 3) (by omega)
      obtain ⟨⟨u4, b4⟩, f4⟩ := liveN HR1 (j := k * 6 + 4) (by omega)
      obtain ⟨⟨u5, b5⟩, f5⟩ := liveN HR1 (j := k * 6 + 5) (by omega)
      have HT := Lib.hid (OwnK.step HO1.out HX.out hlt)
      simp only at HT
      have K1 : Kp w w1 := kr.trans k1
      have hz1 : w.heap.size < w1.heap.size := by have := k1.size; omega
      clear HR1 k1 a0 a1 a2 a3 a4 a5 HO HO1
      go_wp2_with fail
      go_roundw
      case rel => exact ⟨k + 1, _, by omega, by go_num, HT, (((((K1.setCell (by simp) _).setCell (by simp) _).setCell (by simp) _).setCell (by simp) _).setCell (by simp) _).setCell (by simp) _, by simpa using hz1⟩
      case measure => simp [intOf]; omega
    · obtain rfl : k = n := by omega
      go_wp2_with fail
      go_ret
      have e : l.take k = l := List.take_of_length_le (by have := HN.out; omega)
      have HO2 := HO.out
      rw [e] at HO2
      exact ⟨ys, rfl, HO2, kr⟩

end Go.Proofs.YtpdcmpojjchobaaDoor

/-
  The laws' copy of rules: the same lists and numbers, in memory of its own. Nothing that was there is changed.
-/
namespace Go.Proofs.YtpdcmpojjchobaaDoor
open Go.RowKit

theorem keepc7 {w w1 : World} {p0 p1 p2 p3 p4 p5 p6 : Addr} {v0 v1 v2 v3 v4 v5 v6 : Value} (k : Kp w w1) (h : w.cell? p0 = some v0 ∧ w.cell? p1 = some v1 ∧ w.cell? p2 = some v2 ∧ w.cell? p3 = some v3 ∧ w.cell? p4 = some v4 ∧ w.cell? p5 = some v5 ∧ w.cell? p6 = some v6) : w1.cell? p0 = some v0 ∧ w1.cell? p1 = some v1 ∧ w1.cell? p2 = some v2 ∧ w1.cell? p3 = some v3 ∧ w1.cell? p4 = some v4 ∧ w1.cell? p5 = some v5 ∧ w1.cell? p6 = some v6 :=
  ⟨k.cell h.1, k.cell h.2.1, k.cell h.2.2.1, k.cell h.2.2.2.1, k.cell h.2.2.2.2.1, k.cell h.2.2.2.2.2.1, k.cell h.2.2.2.2.2.2⟩
abbrev Live7 (w : World) (b : Nat) (v0 v1 v2 v3 v4 v5 v6 : Value) : Prop :=
  (w.cell? ⟨b, 0, none⟩ = some v0 ∧ w.frozen? ⟨b, 0, none⟩ = false) ∧ (w.cell? ⟨b, 1, none⟩ = some v1 ∧ w.frozen? ⟨b, 1, none⟩ = false) ∧ (w.cell? ⟨b, 2, none⟩ = some v2 ∧ w.frozen? ⟨b, 2, none⟩ = false) ∧ (w.cell? ⟨b, 3, none⟩ = some v3 ∧ w.frozen? ⟨b, 3, none⟩ = false) ∧ (w.cell? ⟨b, 4, none⟩ = some v4 ∧ w.frozen? ⟨b, 4, none⟩ = false) ∧ (w.cell? ⟨b, 5, none⟩ = some v5 ∧ w.frozen? ⟨b, 5, none⟩ = false) ∧ (w.cell? ⟨b, 6, none⟩ = some v6 ∧ w.frozen? ⟨b, 6, none⟩ = false)
theorem live7_keep {w w' : World} {b : Nat} {v0 v1 v2 v3 v4 v5 v6 : Value} (k : Kp w w') (h : Live7 w b v0 v1 v2 v3 v4 v5 v6) : Live7 w' b v0 v1 v2 v3 v4 v5 v6 :=
  ⟨k.liv h.1, k.liv h.2.1, k.liv h.2.2.1, k.liv h.2.2.2.1, k.liv h.2.2.2.2.1, k.liv h.2.2.2.2.2.1, k.liv h.2.2.2.2.2.2⟩

theorem ownRow_far {w : World} {base g n sz cap : Nat} {e : TypeId} {ys : List Value} (h : w.ownsRow base e sz (.slice (some ⟨g, 0, none⟩) n cap) n ys) {b j : Nat} (hb : b < base) (u : Value) : (w.setCell ⟨b, j, none⟩ u).ownsRow base e sz (.slice (some ⟨g, 0, none⟩) n cap) n ys :=
  ownsRow_setCell_below h (a := ⟨b, j, none⟩) hb u
theorem OwnT.far {w : World} {g n : Nat} {l : List Ter} {cs : List (Option Addr × Nat)} {ys : List Value} (h : OwnT w g n l cs ys) {b j : Nat} (hb : b < g) (u : Value) : OwnT (w.setCell ⟨b, j, none⟩ u) g n l cs ys :=
  ⟨ownRow_far h.row hb u, h.here, fun i x c hx hc => (h.each i x c hx hc).far ((h.each i x c hx hc).not (by omega)) u, h.apart⟩
theorem OwnK.far {w : World} {g n : Nat} {l : List Knd} {ys : List Value} (h : OwnK w g n l ys) {b j : Nat} (hb : b < g) (u : Value) : OwnK (w.setCell ⟨b, j, none⟩ u) g n l ys :=
  ⟨ownRow_far h.row hb u, h.here⟩

/-- Copied rules: the terrains' row, their costs, the kinds' row, in blocks of their own from a number on. -/
structure OwnR (w : World) (base g1 g2 nt nk : Nat) (l : List Ter) (m : List Knd) (cs : List (Option Addr × Nat)) (ys zs : List Value) : Prop where
  t : OwnT w g1 nt l cs ys
  k : OwnK w g2 nk m zs
  lc : cs.length = nt
  lt : l.length = nt
  lk : m.length = nk
  b : base ≤ g1
  g : g1 < g2
  z : g2 < w.heap.size
  mid : ∀ (j : Nat) (c : Option Addr × Nat) (x k : Nat), cs[j]? = some c → (Value.slice c.1 x c.2).ownBlock = some k → g1 < k ∧ k < g2
theorem OwnR.keep {w w' : World} {base g1 g2 nt nk : Nat} {l : List Ter} {m : List Knd} {cs : List (Option Addr × Nat)} {ys zs : List Value} (h : OwnR w base g1 g2 nt nk l m cs ys zs) (k : Kp w w') : OwnR w' base g1 g2 nt nk l m cs ys zs :=
  ⟨h.t.keep k, h.k.keep k, h.lc, h.lt, h.lk, h.b, h.g, Nat.lt_of_lt_of_le h.z k.size, h.mid⟩
theorem OwnR.rul {w w0 : World} {At Ak : Option Addr} {base g1 g2 nt nk : Nat} {l : List Ter} {m : List Knd} {cs : List (Option Addr × Nat)} {ys zs : List Value} (h : OwnR w base g1 g2 nt nk l m cs ys zs) (r : RulAt w0 At Ak nt nk l m) : RulAt w (some ⟨g1, 0, none⟩) (some ⟨g2, 0, none⟩) nt nk l m :=
  ⟨h.t.rd h.lt h.lc, h.k.rd h.lk, r.bt, r.bk, r.bc, r.bn⟩

set_option maxRecDepth 100000 in
set_option maxHeartbeats 2000000 in
theorem toRules_any (At Ak : Option Addr) (nt nk ct ck : Nat) (l : List Ter) (m : List Knd) (a b c d e : Int) (w : World) (h : RulAt w At Ak nt nk l m) :
    Calls Tryd.prog 10 #[rv (.slice At nt ct) (.slice Ak nk ck) a b c d e] w fun e' w' => ∃ (g1 g2 : Nat) (cs : List (Option Addr × Nat)) (ys zs : List Value), e' = .returned (rv (.slice (some ⟨g1, 0, none⟩) nt nt) (.slice (some ⟨g2, 0, none⟩) nk nk) a b c d e) ∧ OwnR w' w.heap.size g1 g2 nt nk l m cs ys zs ∧ Kp w w' := by
  have HL := Lib.hid h
  have hb1 := h.bt
  have hb2 := h.bk
  have HBC : Hid (∀ x ∈ l, x.cost.length ≤ 1048576) := Lib.hid fun x hx => (h.bc x hx).1
  clear h
  go_enter Tryd.func10, Tryd.ntmps10
  go_wp2_with fail
  have k0 : Kp w (((w.alloc (.cells #[.slice At nt ct, .slice Ak nk ck, .int .i64 a, .int .i64 b, .int .i64 c, .int .i64 d, .int .i64 e] 25)).alloc (.cells #[.slice none 0 0, .slice none 0 0, .int .i64 0, .int .i64 0, .int .i64 0, .int .i64 0, .int .i64 0] 32)).alloc (.cells #[.slice none 0 0, .slice none 0 0, .int .i64 0, .int .i64 0, .int .i64 0, .int .i64 0, .int .i64 0] 32)) := (((Kp.refl w).alloc _).alloc _).alloc _
  refine (toTerrainS_any _ _ _ l _ (HL.out.keep k0).rt hb1 HBC.out).mono ?_
  rintro e1 w1 ⟨cs, ys, rfl, hcs, o1, k1⟩
  have a1 : w1.cell? ⟨w.heap.size, 1, none⟩ = some (.slice Ak nk ck) := k1.cell (by simp [go_sem])
  have a2 : w1.cell? ⟨w.heap.size, 2, none⟩ = some (.int .i64 a) := k1.cell (by simp [go_sem])
  have a3 : w1.cell? ⟨w.heap.size, 3, none⟩ = some (.int .i64 b) := k1.cell (by simp [go_sem])
  have a4 : w1.cell? ⟨w.heap.size, 4, none⟩ = some (.int .i64 c) := k1.cell (by simp [go_sem])
  have a5 : w1.cell? ⟨w.heap.size, 5, none⟩ = some (.int .i64 d) := k1.cell (by simp [go_sem])
  have a6 : w1.cell? ⟨w.heap.size, 6, none⟩ = some (.int .i64 e) := k1.cell (by simp [go_sem])
  have L1 : Live7 w1 (w.heap.size + 1) (.slice none 0 0) (.slice none 0 0) (.int .i64 0) (.int .i64 0) (.int .i64 0) (.int .i64 0) (.int .i64 0) := live7_keep k1 ⟨by simp [go_sem], by simp [go_sem], by simp [go_sem], by simp [go_sem], by simp [go_sem], by simp [go_sem], by simp [go_sem]⟩
  have M1 : Live7 w1 (w.heap.size + 1 + 1) (.slice none 0 0) (.slice none 0 0) (.int .i64 0) (.int .i64 0) (.int .i64 0) (.int .i64 0) (.int .i64 0) := live7_keep k1 ⟨by simp [go_sem], by simp [go_sem], by simp [go_sem], by simp [go_sem], by simp [go_sem], by simp [go_sem], by simp [go_sem]⟩
  have K1 : Kp w w1 := k0.trans k1
  have z1 : w.heap.size + 3 < w1.heap.size := by
    have := World.ownsRow.lt o1.row _ rfl
    simp at this
    omega
  have eg : (((w.alloc (.cells #[.slice At nt ct, .slice Ak nk ck, .int .i64 a, .int .i64 b, .int .i64 c, .int .i64 d, .int .i64 e] 25)).alloc (.cells #[.slice none 0 0, .slice none 0 0, .int .i64 0, .int .i64 0, .int .i64 0, .int .i64 0, .int .i64 0] 32)).alloc (.cells #[.slice none 0 0, .slice none 0 0, .int .i64 0, .int .i64 0, .int .i64 0, .int .i64 0, .int .i64 0] 32)).heap.size = w.heap.size + 3 := by simp
  rw [eg] at o1 ⊢
  have O1 := Lib.hid o1
  have HC := Lib.hid hcs
  clear k0 k1 o1 hcs eg
  go_wp2_with fail
  have K1' : Kp w (w1.setCell ⟨w.heap.size + 1 + 1, 0, none⟩ (.slice (some ⟨w.heap.size + 3, 0, none⟩) nt nt)) := K1.setCell (by simp <;> omega) _
  refine (toKindS_any _ _ _ m _ (HL.out.keep K1').rk hb2).mono ?_
  rintro e2 w2 ⟨zs, rfl, o2, k2⟩
  have b2 : w2.cell? ⟨w.heap.size, 2, none⟩ = some (.int .i64 a) := k2.cell (by simp [go_sem, *])
  have b3 : w2.cell? ⟨w.heap.size, 3, none⟩ = some (.int .i64 b) := k2.cell (by simp [go_sem, *])
  have b4 : w2.cell? ⟨w.heap.size, 4, none⟩ = some (.int .i64 c) := k2.cell (by simp [go_sem, *])
  have b5 : w2.cell? ⟨w.heap.size, 5, none⟩ = some (.int .i64 d) := k2.cell (by simp [go_sem, *])
  have b6 : w2.cell? ⟨w.heap.size, 6, none⟩ = some (.int .i64 e) := k2.cell (by simp [go_sem, *])
  have L2 : Live7 w2 (w.heap.size + 1) (.slice none 0 0) (.slice none 0 0) (.int .i64 0) (.int .i64 0) (.int .i64 0) (.int .i64 0) (.int .i64 0) := live7_keep k2 ⟨by simp [go_sem, *], by simp [go_sem, *], by simp [go_sem, *], by simp [go_sem, *], by simp [go_sem, *], by simp [go_sem, *], by simp [go_sem, *]⟩
  have M2 : Live7 w2 (w.heap.size + 1 + 1) (.slice (some ⟨w.heap.size + 3, 0, none⟩) nt nt) (.slice none 0 0) (.int .i64 0) (.int .i64 0) (.int .i64 0) (.int .i64 0) (.int .i64 0) := live7_keep k2 ⟨by simp [go_sem, *], by simp [go_sem, *], by simp [go_sem, *], by simp [go_sem, *], by simp [go_sem, *], by simp [go_sem, *], by simp [go_sem, *]⟩
  have K2 : Kp w w2 := K1'.trans k2
  have O2 := Lib.hid (((O1.out.far (b := w.heap.size + 1 + 1) (by omega) (.slice (some ⟨w.heap.size + 3, 0, none⟩) nt nt) (j := 0))).keep k2)
  have eg : (w1.setCell ⟨w.heap.size + 1 + 1, 0, none⟩ (.slice (some ⟨w.heap.size + 3, 0, none⟩) nt nt)).heap.size = w1.heap.size := by simp
  rw [eg] at o2 ⊢
  have z2 : w1.heap.size < w2.heap.size := by
    have := World.ownsRow.lt o2.row _ rfl
    omega
  have P2 := Lib.hid o2
  have MID : Hid (∀ (j : Nat) (c : Option Addr × Nat) (x k : Nat), cs[j]? = some c → (Value.slice c.1 x c.2).ownBlock = some k → w.heap.size + 3 < k ∧ k < w1.heap.size) := Lib.hid fun j c x k hc hk => by
    have hj := lt_of_at hc
    have hx : l[j]? = some (l[j]'(by have := HC.out; have := HL.out.rt.1; omega)) := List.getElem?_eq_getElem _
    have := World.ownsRow.lt (O1.out.each j _ c hx hc) k ((ownBlock_len _ _ _ _).trans hk)
    omega
  generalize hg2 : w1.heap.size = G2 at *
  clear K1' k2 o2 a1 a2 a3 a4 a5 a6 L1 M1 K1 O1 eg hg2
  go_wp2_with fail
  refine bodyPost_ret (v := rv (.slice (some ⟨w.heap.size + 3, 0, none⟩) nt nt) (.slice (some ⟨G2, 0, none⟩) nk nk) a b c d e) (by simp [results, Tryd.results10, go_sem, *]) rfl ⟨_, _, cs, ys, zs, rfl, ⟨?_, ?_, HC.out, HL.out.rt.1, HL.out.rk.1, by omega, z1, by simpa using z2, MID.out⟩, ?_⟩
  · exact (((((((((((((O2.out.far (by omega) _).far (by omega) _).far (by omega) _).far (by omega) _).far (by omega) _).far (by omega) _).far (by omega) _).far (by omega) _).far (by omega) _).far (by omega) _).far (by omega) _).far (by omega) _).far (by omega) _)
  · exact (((((((((((((P2.out.far (by omega) _).far (by omega) _).far (by omega) _).far (by omega) _).far (by omega) _).far (by omega) _).far (by omega) _).far (by omega) _).far (by omega) _).far (by omega) _).far (by omega) _).far (by omega) _).far (by omega) _)
  · exact (((((((((((((K2.setCell (by simp <;> omega) _).setCell (by simp <;> omega) _).setCell (by simp <;> omega) _).setCell (by simp <;> omega) _).setCell (by simp <;> omega) _).setCell (by simp <;> omega) _).setCell (by simp <;> omega) _).setCell (by simp <;> omega) _).setCell (by simp <;> omega) _).setCell (by simp <;> omega) _).setCell (by simp <;> omega) _).setCell (by simp <;> omega) _).setCell (by simp <;> omega) _)

end Go.Proofs.YtpdcmpojjchobaaDoor

/-
  KindLine of the program: the line of a kind of valid rules, or nothing. The named variables hold what the program's text lays.
-/
namespace Go.Proofs.YtpdcmpojjchobaaDoor
open Go.RowKit

theorem itoa_small (x : Int) (w : World) (h0 : 0 ≤ x) (h1 : x < 100) :
    Calls Tryd.prog 89 #[.int .i64 x] w fun e w' => e = .returned (.string (txt (Lib.itoa x))) ∧ Kp w w' := by
  obtain ⟨k, rfl⟩ : ∃ k : Nat, x = k := ⟨x.toNat, by omega⟩
  refine (Tryd.strconv_Itoa_small k (by omega) w).mono fun e w' h => ⟨?_, by rw [h.2]; exact Kp.refl _⟩
  rw [h.1, itoa_pos h0, Int.toNat_natCast]
  rfl

set_option maxRecDepth 100000 in
set_option maxHeartbeats 4000000 in
theorem kindLine_any (nm : ByteArray) (a b c v : Nat) (z : Bool) (w : World) (hn : nm.size ≤ 8) (ha : a < 100) (hb : b < 100) (hc : c < 100) (hv : v < 100) :
    Calls Tryd.prog 36 #[kv nm a b c z v] w fun e w' => e = .returned (.string (txt (kindTx ⟨nm, a, b, c, z, v⟩))) ∧ Kp w w' := by
  have hlen := kindTx_len ⟨nm, a, b, c, z, v⟩ hn (by simp only; omega) (by simp only; omega) (by simp only; omega) (by simp only; omega)
  have htx := kind_tx ⟨nm, a, b, c, z, v⟩ (by simp only; omega) (by simp only; omega) (by simp only; omega) (by simp only; omega)
  simp only at hlen htx
  have hjl : (Lib.join (fillW kindWs nm.data.toList [(a : Int), b, c, v]) [32]).length ≤ 64 := by
    rw [htx, List.length_append] at hlen
    omega
  have KB : Kp w ((w.alloc (.cells #[.string nm, .int .i64 (a : Int), .int .i64 (b : Int), .int .i64 (c : Int), .bool z, .int .i64 (v : Int)] 62)).alloc (.cells #[.int .i64 (a : Int), .int .i64 (b : Int), .int .i64 (c : Int), .int .i64 (v : Int)] 3)) := ((Kp.refl w).alloc _).alloc _
  have CF := Lib.hid (filledForm_any (ByteArray.mk #[107, 105, 110, 100, 32, 78, 65, 77, 69, 32, 115, 116, 114, 101, 110, 103, 116, 104, 32, 78, 32, 109, 111, 118, 101, 115, 32, 78, 32, 115, 116, 101, 112, 115, 32, 78, 32, 118, 105, 101, 119, 32, 78]) nm [107, 105, 110, 100] [[78, 65, 77, 69], [115, 116, 114, 101, 110, 103, 116, 104], [78], [109, 111, 118, 101, 115], [78], [115, 116, 101, 112, 115], [78], [118, 105, 101, 119], [78]] [(a : Int), b, c, v] (w.heap.size + 1) 0 4 4 ((w.alloc (.cells #[.string nm, .int .i64 (a : Int), .int .i64 (b : Int), .int .i64 (c : Int), .bool z, .int .i64 (v : Int)] 62)).alloc (.cells #[.int .i64 (a : Int), .int .i64 (b : Int), .int .i64 (c : Int), .int .i64 (v : Int)] 3))
    (by decide) (by rfl) (by decide) (by decide) rfl (Nat.le_refl _) (by decide) (by decide)
    (fun i x hx => by
      match i, hx with
      | 0, hx => simp only [List.getElem?_cons_zero, Option.some.injEq] at hx; subst hx; simp [go_sem]
      | 1, hx => simp only [List.getElem?_cons_zero, List.getElem?_cons_succ, Option.some.injEq] at hx; subst hx; simp [go_sem]
      | 2, hx => simp only [List.getElem?_cons_zero, List.getElem?_cons_succ, Option.some.injEq] at hx; subst hx; simp [go_sem]
      | 3, hx => simp only [List.getElem?_cons_zero, List.getElem?_cons_succ, Option.some.injEq] at hx; subst hx; simp [go_sem]
      | i + 4, hx => simp at hx)
    (fun x hx w' _ => itoa_small x w' (by simp only [List.mem_cons, List.not_mem_nil, or_false] at hx; omega) (by simp only [List.mem_cons, List.not_mem_nil, or_false] at hx; omega))
    (Nat.le_trans hjl (by decide)))
  have HT := Lib.hid htx
  obtain ⟨J, hJ⟩ : ∃ J, J = Lib.join (fillW kindWs nm.data.toList [(a : Int), b, c, v]) [32] := ⟨_, rfl⟩
  have CF2 : Hid (Calls Tryd.prog 80 #[.string (ByteArray.mk #[107, 105, 110, 100, 32, 78, 65, 77, 69, 32, 115, 116, 114, 101, 110, 103, 116, 104, 32, 78, 32, 109, 111, 118, 101, 115, 32, 78, 32, 115, 116, 101, 112, 115, 32, 78, 32, 118, 105, 101, 119, 32, 78]), .string nm, .slice (some ⟨w.heap.size + 1, 0, none⟩) 4 4] ((w.alloc (.cells #[.string nm, .int .i64 (a : Int), .int .i64 (b : Int), .int .i64 (c : Int), .bool z, .int .i64 (v : Int)] 62)).alloc (.cells #[.int .i64 (a : Int), .int .i64 (b : Int), .int .i64 (c : Int), .int .i64 (v : Int)] 3)) fun e w' => e = .returned (.string (txt J)) ∧ Kp ((w.alloc (.cells #[.string nm, .int .i64 (a : Int), .int .i64 (b : Int), .int .i64 (c : Int), .bool z, .int .i64 (v : Int)] 62)).alloc (.cells #[.int .i64 (a : Int), .int .i64 (b : Int), .int .i64 (c : Int), .int .i64 (v : Int)] 3)) w') := Lib.hid (by rw [hJ]; exact CF.out)
  rw [← hJ] at HT hjl
  have s4 : ((w.alloc (.cells #[.string nm, .int .i64 (a : Int), .int .i64 (b : Int), .int .i64 (c : Int), .bool z, .int .i64 (v : Int)] 62)).alloc (.cells #[.int .i64 (a : Int), .int .i64 (b : Int), .int .i64 (c : Int), .int .i64 (v : Int)] 3)).cell? ⟨w.heap.size, 4, none⟩ = some (.bool z) := by simp [go_sem]
  have hz : (txt J).size ≤ 64 := by rw [txt_size]; exact hjl
  have y1 : ¬ 9223372036854775807 < (txt J).size + 5 := by omega
  clear hlen htx CF hJ hjl
  go_enter Tryd.func36, Tryd.ntmps36
  go_wp2_with fail
  refine CF2.out.mono ?_
  rintro e1 w1 ⟨rfl, k1⟩
  have s5 := k1.cell s4
  have K1 := KB.trans k1
  clear CF2 s4 k1 KB
  cases z
  · have HT2 : Hid (txt J = txt (kindTx ⟨nm, a, b, c, false, v⟩)) := Lib.hid (by rw [HT.out]; simp)
    go_wp2_with fail
    go_ret
    exact ⟨ret_str HT2.out, K1⟩
  · have HT2 : Hid (txt J ++ ByteArray.mk #[32, 122, 111, 110, 101] = txt (kindTx ⟨nm, a, b, c, true, v⟩)) := Lib.hid (by rw [HT.out, show ByteArray.mk #[32, 122, 111, 110, 101] = txt [32, 122, 111, 110, 101] from rfl, txt_app]; rfl)
    go_wp2_with fail
    go_ret
    exact ⟨ret_str HT2.out, K1⟩

theorem isKindR_any (A : Value) (Ak : Option Addr) (nk ck : Nat) (a b c d e k : Int) (w : World) :
    Calls Tryd.prog 35 #[rv A (.slice Ak nk ck) a b c d e, .int .i64 k] w fun e' w' => e' = .returned (.bool (inL k nk)) ∧ Kp w w' := by
  by_cases h1 : 0 ≤ k
  · by_cases h2 : k < nk
    · go_enter Tryd.func35, Tryd.ntmps35
      go_wp2_with fail
      go_ret
      exact ⟨ret_bool (by simp [inL, h1, h2]), (Kp.refl w).alloc _⟩
    · have d2 : decide (k < (nk : Int)) = false := by simpa using h2
      go_enter Tryd.func35, Tryd.ntmps35
      go_wp2_with fail
      go_ret
      exact ⟨ret_bool (by simp [inL]; omega), (Kp.refl w).alloc _⟩
  · have d1 : decide (0 ≤ k) = false := by simpa using h1
    go_enter Tryd.func35, Tryd.ntmps35
    go_wp2_with fail
    go_ret
    exact ⟨ret_bool (by simp [inL]; omega), (Kp.refl w).alloc _⟩

set_option maxRecDepth 100000 in
set_option maxHeartbeats 4000000 in
theorem implKindLine_any (At Ak : Option Addr) (nt nk ct ck : Nat) (l : List Ter) (m : List Knd) (a b c d e i : Int) (w : World) (hs : Spans w) (h : RulAt w At Ak nt nk l m) :
    Calls Tryd.prog 11 #[rv (.slice At nt ct) (.slice Ak nk ck) a b c d e, .int .i64 i] w fun e' w' => e' = .returned (.tuple #[.string (klT (rulOk ⟨l, m, a, b, c, d, e⟩) m i), .bool (klB (rulOk ⟨l, m, a, b, c, d, e⟩) m i)]) ∧ Kp w w' := by
  have KA : Kp w (w.alloc (.cells #[.slice At nt ct, .slice Ak nk ck, .int .i64 a, .int .i64 b, .int .i64 c, .int .i64 d, .int .i64 e] 32)) := (Kp.refl w).alloc _
  have s0 : ((w.alloc (.cells #[.slice At nt ct, .slice Ak nk ck, .int .i64 a, .int .i64 b, .int .i64 c, .int .i64 d, .int .i64 e] 32)).cell? ⟨w.heap.size, 0, none⟩ = some (.slice At nt ct) ∧ (w.alloc (.cells #[.slice At nt ct, .slice Ak nk ck, .int .i64 a, .int .i64 b, .int .i64 c, .int .i64 d, .int .i64 e] 32)).cell? ⟨w.heap.size, 1, none⟩ = some (.slice Ak nk ck) ∧ (w.alloc (.cells #[.slice At nt ct, .slice Ak nk ck, .int .i64 a, .int .i64 b, .int .i64 c, .int .i64 d, .int .i64 e] 32)).cell? ⟨w.heap.size, 2, none⟩ = some (.int .i64 a) ∧ (w.alloc (.cells #[.slice At nt ct, .slice Ak nk ck, .int .i64 a, .int .i64 b, .int .i64 c, .int .i64 d, .int .i64 e] 32)).cell? ⟨w.heap.size, 3, none⟩ = some (.int .i64 b) ∧ (w.alloc (.cells #[.slice At nt ct, .slice Ak nk ck, .int .i64 a, .int .i64 b, .int .i64 c, .int .i64 d, .int .i64 e] 32)).cell? ⟨w.heap.size, 4, none⟩ = some (.int .i64 c) ∧ (w.alloc (.cells #[.slice At nt ct, .slice Ak nk ck, .int .i64 a, .int .i64 b, .int .i64 c, .int .i64 d, .int .i64 e] 32)).cell? ⟨w.heap.size, 5, none⟩ = some (.int .i64 d) ∧ (w.alloc (.cells #[.slice At nt ct, .slice Ak nk ck, .int .i64 a, .int .i64 b, .int .i64 c, .int .i64 d, .int .i64 e] 32)).cell? ⟨w.heap.size, 6, none⟩ = some (.int .i64 e)) := ⟨by simp [go_sem], by simp [go_sem], by simp [go_sem], by simp [go_sem], by simp [go_sem], by simp [go_sem], by simp [go_sem]⟩
  have HL := Lib.hid (h.keep KA)
  have HS := Lib.hid (hs.keep KA)
  have CG := Lib.hid (fun w hs h => isRules_any At Ak nt nk ct ck l m a b c d e w hs h)
  have CK := Lib.hid (fun w => isKindR_any (.slice At nt ct) Ak nk ck a b c d e i w)
  obtain ⟨R, hR⟩ : ∃ R, R = rulOk ⟨l, m, a, b, c, d, e⟩ := ⟨_, rfl⟩
  rw [← hR] at CG ⊢
  have hlen : m.length = nk := h.rk.1
  cases R
  · have HT : Hid (klT false m i = ⟨#[]⟩) := Lib.hid (klT_no rfl)
    clear h hR hs
    go_enter Tryd.func11, Tryd.ntmps11
    go_wp2_with fail
    refine (CG.out _ HS.out HL.out).mono ?_
    rintro e1 w1 ⟨rfl, k1⟩
    go_wp2_with fail
    go_ret2
    exact ⟨ret_sb HT.out.symm rfl, KA.trans k1⟩
  · have hb := rulOk_len hR.symm
    cases hi : inL i nk
    · have e1 : klB true m i = false := by unfold klB; rw [hlen, hi]; rfl
      have HT : Hid (klT true m i = ⟨#[]⟩ ∧ klB true m i = false) := Lib.hid ⟨klT_no e1, e1⟩
      rw [hi] at CK
      clear h hR hi e1 hb hlen hs
      go_enter Tryd.func11, Tryd.ntmps11
      go_wp2_with fail
      refine (CG.out _ HS.out HL.out).mono ?_
      rintro e1 w1 ⟨rfl, k1⟩
      obtain ⟨t0, t1, t2, t3, t4, t5, t6⟩ := keepc7 k1 s0
      clear s0
      go_wp2_with fail
      refine (CK.out _).mono ?_
      rintro e2 w2 ⟨rfl, k2⟩
      go_wp2_with fail
      go_ret2
      exact ⟨ret_sb HT.out.1.symm HT.out.2.symm, (KA.trans k1).trans k2⟩
    · have e1 : klB true m i = true := by unfold klB; rw [hlen, hi]; rfl
      obtain ⟨q, rfl⟩ : ∃ q : Nat, i = q := ⟨i.toNat, by simp only [inL, Bool.and_eq_true, decide_eq_true_iff] at hi; omega⟩
      have hq : q < nk := by simp only [inL, Bool.and_eq_true, decide_eq_true_iff] at hi; omega
      obtain ⟨x, hx⟩ : ∃ x, m[q]? = some x := ⟨m[q]'(by omega), List.getElem?_eq_getElem _⟩
      have HT : Hid (klT true m q = txt (kindTx x) ∧ klB true m q = true) := Lib.hid ⟨klT_yes e1 hx, e1⟩
      have hsm := rulOk_knd hR.symm hx
      obtain ⟨g, off, rfl, hc⟩ := h.rk.2 (by omega)
      have hX := (hc q x hx).keep KA
      rw [hi] at CK
      have hn2 : nk ≤ 6 := by omega
      have hq1 : (q : Int) < nk := by omega
      obtain ⟨nm, ka, kb, kc, kz, kv'⟩ := x
      obtain ⟨m1, m2, m3, m4, m5⟩ := hsm
      simp only at m1 m2 m3 m4 m5 hX
      obtain ⟨na, rfl⟩ : ∃ k : Nat, ka = k := ⟨ka.toNat, by omega⟩
      obtain ⟨nb, rfl⟩ : ∃ k : Nat, kb = k := ⟨kb.toNat, by omega⟩
      obtain ⟨nc, rfl⟩ : ∃ k : Nat, kc = k := ⟨kc.toNat, by omega⟩
      obtain ⟨nv, rfl⟩ : ∃ k : Nat, kv' = k := ⟨kv'.toNat, by omega⟩
      have CX := Lib.hid (fun w => kindLine_any nm na nb nc nv kz w m1 (by omega) (by omega) (by omega) (by omega))
      clear h hR hi e1 hb hlen hc hx m1 m2 m3 m4 m5 hs
      go_enter Tryd.func11, Tryd.ntmps11
      go_wp2_with fail
      refine (CG.out _ HS.out HL.out).mono ?_
      rintro e1 w1 ⟨rfl, k1⟩
      obtain ⟨t0, t1, t2, t3, t4, t5, t6⟩ := keepc7 k1 s0
      have HX := Lib.hid (hX.keep k1)
      clear s0 hX
      go_wp2_with fail
      refine (CK.out _).mono ?_
      rintro e2 w2 ⟨rfl, k2⟩
      obtain ⟨a0, a1, a2, a3, a4, a5⟩ := HX.out.keep k2
      have u1 := k2.cell t1
      have K2 := (KA.trans k1).trans k2
      clear t0 t1 t2 t3 t4 t5 t6 HX k1 k2
      go_wp2_with fail
      refine (CX.out _).mono ?_
      rintro e3 w3 ⟨rfl, k3⟩
      go_wp2_with fail
      go_ret2
      exact ⟨ret_sb HT.out.1.symm HT.out.2.symm, K2.trans k3⟩

end Go.Proofs.YtpdcmpojjchobaaDoor

/-
  What the laws' sizes say: a negative number, or what is left and that all is small.
-/
namespace Go.Proofs.YtpdcmpojjchobaaDoor
open Go.RowKit

/-- A negative number, or what is left and P. -/
def SzPost (P : Prop) (w : World) (e : Ending) (w' : World) : Prop := ∃ r : Int, e = .returned (.int .i64 r) ∧ r ≤ 1048576 ∧ -1 ≤ r ∧ (0 ≤ r → P) ∧ Kp w w'

end Go.Proofs.YtpdcmpojjchobaaDoor
