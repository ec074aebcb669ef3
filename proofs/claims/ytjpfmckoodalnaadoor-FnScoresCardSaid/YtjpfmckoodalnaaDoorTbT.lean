/-
  The reference's counts of results; the mean score, as the program and as the reference tell. Nothing that was there is changed.
-/
import Derived.Test.YtjpfmckoodalnaaDoorTbR
namespace Go.Proofs.YtjpfmckoodalnaaDoor
open Go.RowKit

theorem cntW_bd {f : Int → Int} {P : List (Int × Int)} (h : ∀ p ∈ P, 0 ≤ p.2 ∧ p.2 ≤ 6) (hl : P.length ≤ 36) {i : Nat} {x : Int} (hx : (cntW f P)[i]? = some x) : 0 ≤ x ∧ x ≤ 216 := by
  have hi : i < 8 := by have := (List.getElem?_eq_some_iff.1 hx).1; rw [cntW_len] at this; exact this
  rw [cntW_at hi] at hx
  obtain rfl := Option.some.inj hx
  have := cntR_bd (f := f) (i : Int) h
  omega
def sumS (l : List Int) : Nat → Int
  | 0 => 0
  | q + 1 => sumS l q + l.getD q 0 * scoI q
def sumN (l : List Int) : Nat → Int
  | 0 => 0
  | q + 1 => sumN l q + l.getD q 0
theorem mul_sco {x s : Int} (h1 : 0 ≤ x) (h2 : x ≤ 216) (h3 : -3 ≤ s) (h4 : s ≤ 3) : -648 ≤ x * s ∧ x * s ≤ 648 := by
  have a1 : 0 ≤ x * (s + 3) := Int.mul_nonneg h1 (by omega)
  have a2 : 0 ≤ x * (3 - s) := Int.mul_nonneg h1 (by omega)
  simp only [Int.mul_add, Int.mul_sub] at a1 a2
  omega
theorem sumS_bd {l : List Int} (h : ∀ (i : Nat) x, l[i]? = some x → 0 ≤ x ∧ x ≤ 216) (hl : l.length = 8) : ∀ q : Nat, q ≤ 8 → -(648 * (q : Int)) ≤ sumS l q ∧ sumS l q ≤ 648 * (q : Int) ∧ 0 ≤ sumN l q ∧ sumN l q ≤ 216 * (q : Int)
  | 0, _ => by simp [sumS, sumN]
  | q + 1, hq => by
    have ih := sumS_bd h hl q (by omega)
    obtain ⟨y, hy⟩ : ∃ y, l[q]? = some y := ⟨l[q]'(by omega), List.getElem?_eq_getElem _⟩
    have ey : l.getD q 0 = y := by simp [List.getD, hy]
    have hx : l[q]? = some (l.getD q 0) := by rw [ey]; exact hy
    have hb := h q _ hx
    have hs := scoI_bd (q : Int) (by omega) (by omega)
    have hm := mul_sco hb.1 hb.2 hs.1 hs.2
    simp only [sumS, sumN]
    omega
theorem sumS_more {l : List Int} {q : Nat} {x : Int} (h : l[q]? = some x) : sumS l (q + 1) = sumS l q + x * scoI q ∧ sumN l (q + 1) = sumN l q + x := by
  have e : l.getD q 0 = x := by simp [List.getD, h]
  simp only [sumS, sumN, e, and_self]

set_option maxRecDepth 100000 in
set_option maxHeartbeats 4000000 in
theorem meanScore_any (c r : Value) (d : Int) (co : List (Int × Int)) (rs : List (List Int)) (x : Int) (w : World) (h : CtAt w c r co rs) (hs : TbM w) :
    Calls Tryd.prog 14 #[cv c d r, .int .i64 x] w fun e w' => e = .returned (.tuple #[.int .i64 (vI (tabOk co d rs && inCol co.length x) (sumS (cntW (fun s => resI d rs s x) (pS d.toNat)) 8)), .int .i64 (vI (tabOk co d rs && inCol co.length x) (sumN (cntW (fun s => resI d rs s x) (pS d.toNat)) 8)), .bool (tabOk co d rs && inCol co.length x)]) ∧ Kp w w' := by
  obtain ⟨A, c1, ec, hA⟩ := h.rc
  obtain ⟨B, c2, vs, er, hvs, hB, hI⟩ := h.rr
  obtain ⟨m, hm⟩ : ∃ m, co.length = m := ⟨_, rfl⟩
  obtain ⟨n, hn⟩ : ∃ n, rs.length = n := ⟨_, rfl⟩
  rw [hm] at ec hA
  rw [hn] at er hvs hB
  subst ec er
  have HL := Lib.hid h
  have HA := Lib.hid hA
  have HB := Lib.hid hB
  have HI := Lib.hid hI
  have HV := Lib.hid hvs
  have HM := Lib.hid hm
  have HN := Lib.hid hn
  have hmb : m ≤ 1048576 := by have := h.bc; omega
  have hnb : n ≤ 1048576 := by have := h.br; omega
  have HS := Lib.hid hs
  obtain ⟨Q, hQ⟩ : ∃ Q, Q = ((tabOk co d rs && inCol co.length x)) := ⟨_, rfl⟩
  rw [← hQ]
  rw [hm] at hQ
  have HQ := Lib.hid hQ
  have KA : Kp w (w.alloc (.cells #[.slice A m c1, .int .i64 d, .slice B n c2] 26)) := (Kp.refl w).alloc _
  have s0 : (w.alloc (.cells #[.slice A m c1, .int .i64 d, .slice B n c2] 26)).cell? ⟨w.heap.size, 0, none⟩ = some (.slice A m c1) ∧ (w.alloc (.cells #[.slice A m c1, .int .i64 d, .slice B n c2] 26)).cell? ⟨w.heap.size, 1, none⟩ = some (.int .i64 d) ∧ (w.alloc (.cells #[.slice A m c1, .int .i64 d, .slice B n c2] 26)).cell? ⟨w.heap.size, 2, none⟩ = some (.slice B n c2) ∧ Kp w (w.alloc (.cells #[.slice A m c1, .int .i64 d, .slice B n c2] 26)) := ⟨by simp [go_sem], by simp [go_sem], by simp [go_sem], KA⟩
  have C1 := Lib.hid (countResults_any _ _ d co rs x (w.alloc (.cells #[.slice A m c1, .int .i64 d, .slice B n c2] 26)) (h.keep KA) (hs.keep KA).t)
  obtain ⟨L, hL⟩ : ∃ L, L = cntW (fun s => resI d rs s x) (pS d.toNat) := ⟨_, rfl⟩
  rw [← hL]
  obtain ⟨S, hS⟩ : ∃ S, S = sumS L 8 := ⟨_, rfl⟩
  obtain ⟨N, hN⟩ : ∃ N, N = sumN L 8 := ⟨_, rfl⟩
  rw [← hS, ← hN]
  have HX1 := Lib.hid hS
  have HX2 := Lib.hid hN
  rw [← hL] at C1
  cases hc : (tabOk co d rs && inCol co.length x)
  · obtain rfl : Q = false := by rw [HQ.out, ← hm, hc]
    rw [hc] at C1
    clear h hs hvs hA hB hI hm hn hQ hc hL hS hN
    go_enter Tryd.func14, Tryd.ntmps14
    go_wp2_with fail
    refine C1.out.mono ?_
    rintro e1 w1 ⟨v, rfl, o, k1⟩
    go_wp2_with fail
    exact bodyPost_ret (v := .tuple #[.int .i64 0, .int .i64 0, .bool false]) (by simp [results, Tryd.results14, go_sem]) rfl ⟨rfl, KA.trans k1⟩
  · obtain rfl : Q = true := by rw [HQ.out, ← hm, hc]
    rw [hc] at C1
    simp only [Bool.and_eq_true] at hc
    have hok := hc.1
    have hdd := tabOk_d hok
    have HL8 : Hid (L.length = 8) := Lib.hid (by rw [hL, cntW_len])
    have HLB : Hid (∀ (i : Nat) y, L[i]? = some y → 0 ≤ y ∧ y ≤ 216) := Lib.hid fun i y hy => by
      rw [hL] at hy
      exact cntW_bd (pS_bd (by omega) (by omega)) (by rw [pS_len]; omega) hy
    have HSB := Lib.hid (fun q hq => sumS_bd HLB.out HL8.out q hq)
    clear h hs hvs hA hB hI hm hn hQ hc hL hS hN hok hdd
    go_enter Tryd.func14, Tryd.ntmps14
    go_wp2_with fail
    refine C1.out.mono ?_
    rintro e1 w1 ⟨v, rfl, o, k1⟩
    rw [if_pos rfl] at o
    obtain ⟨A2, c3, ev⟩ := o.slice
    rw [HL8.out] at ev
    subst ev
    have OL := Lib.hid o
    have KE : Kp w w1 := KA.trans k1
    have HSC := Lib.hid (HS.out.keep KE).sco
    clear o k1 s0 KA
    go_wp2_with fail
    go_loop [9, 10, 11, 12, 23] (fun a b _ _ i => ∃ (q : Nat) (S1 N1 : Int), q ≤ 8 ∧ i = .int .i64 q ∧ a = .int .i64 S1 ∧ b = .int .i64 N1 ∧ Hid (sumS L q = S1 ∧ sumN L q = N1)) (fun _ _ _ _ i => 8 - (intOf i).toNat)
    case atStart => exact ⟨0, 0, 0, by omega, rfl, rfl, rfl, Lib.hid ⟨rfl, rfl⟩⟩
    case round =>
      obtain ⟨q, S1, N1, hq, rfl, rfl, rfl, hE⟩ := hrel
      by_cases hlt : q < 8
      · have hlt' : (q : Int) < 8 := by omega
        obtain ⟨y, hy⟩ : ∃ y, L[q]? = some y := ⟨L[q]'(by have := HL8.out; omega), List.getElem?_eq_getElem _⟩
        obtain ⟨g, rfl, a0⟩ := OL.out.cellAt' hy
        obtain ⟨y1, y2⟩ := HLB.out q y hy
        obtain ⟨z1, z2, z3, z4⟩ := HSB.out q (by omega)
        rw [hE.out.1] at z1 z2
        rw [hE.out.2] at z3 z4
        have hs := scoI_bd (q : Int) (by omega) (by omega)
        have hm := mul_sco y1 y2 hs.1 hs.2
        have HM := Lib.hid (sumS_more hy)
        have HE2 : Hid (sumS L (q + 1) = S1 + y * scoI q ∧ sumN L (q + 1) = N1 + y) := Lib.hid (by rw [HM.out.1, HM.out.2, hE.out.1, hE.out.2]; exact ⟨rfl, rfl⟩)
        have p0 := HSC.out q (by omega)
        clear hy HM
        go_wp2_with fail
        go_round
        case rel => exact ⟨q + 1, _, _, by omega, by go_num, rfl, rfl, HE2⟩
        case measure => simp [intOf]; omega
      · obtain rfl : q = 8 := by omega
        go_wp2_with fail
        refine bodyPost_ret (v := .tuple #[.int .i64 S1, .int .i64 N1, .bool true]) (by simp [results, Tryd.results14, go_sem]) rfl ⟨?_, KE⟩
        rw [HX1.out, HX2.out, hE.out.1, hE.out.2]
        rfl

set_option maxRecDepth 100000 in
set_option maxHeartbeats 4000000 in
theorem specMeanScore_any (c r : Value) (d : Int) (co : List (Int × Int)) (rs : List (List Int)) (x : Int) (w : World) (h : CtAt w c r co rs) :
    Calls Tryd.prog 15 #[cv c d r, .int .i64 x] w fun e w' => e = .returned (.tuple #[.int .i64 (vI (tabOk co d rs && inCol co.length x) (sumS (cntW (fun s => resI d rs s x) (pS d.toNat)) 8)), .int .i64 (vI (tabOk co d rs && inCol co.length x) (sumN (cntW (fun s => resI d rs s x) (pS d.toNat)) 8)), .bool (tabOk co d rs && inCol co.length x)]) ∧ Kp w w' := by
  obtain ⟨A, c1, ec, hA⟩ := h.rc
  obtain ⟨B, c2, vs, er, hvs, hB, hI⟩ := h.rr
  obtain ⟨m, hm⟩ : ∃ m, co.length = m := ⟨_, rfl⟩
  obtain ⟨n, hn⟩ : ∃ n, rs.length = n := ⟨_, rfl⟩
  rw [hm] at ec hA
  rw [hn] at er hvs hB
  subst ec er
  have HL := Lib.hid h
  have HA := Lib.hid hA
  have HB := Lib.hid hB
  have HI := Lib.hid hI
  have HV := Lib.hid hvs
  have HM := Lib.hid hm
  have HN := Lib.hid hn
  have hmb : m ≤ 1048576 := by have := h.bc; omega
  have hnb : n ≤ 1048576 := by have := h.br; omega
  obtain ⟨Q, hQ⟩ : ∃ Q, Q = ((tabOk co d rs && inCol co.length x)) := ⟨_, rfl⟩
  rw [← hQ]
  rw [hm] at hQ
  have HQ := Lib.hid hQ
  have KA : Kp w (w.alloc (.cells #[.slice A m c1, .int .i64 d, .slice B n c2] 26)) := (Kp.refl w).alloc _
  have s0 : (w.alloc (.cells #[.slice A m c1, .int .i64 d, .slice B n c2] 26)).cell? ⟨w.heap.size, 0, none⟩ = some (.slice A m c1) ∧ (w.alloc (.cells #[.slice A m c1, .int .i64 d, .slice B n c2] 26)).cell? ⟨w.heap.size, 1, none⟩ = some (.int .i64 d) ∧ (w.alloc (.cells #[.slice A m c1, .int .i64 d, .slice B n c2] 26)).cell? ⟨w.heap.size, 2, none⟩ = some (.slice B n c2) ∧ Kp w (w.alloc (.cells #[.slice A m c1, .int .i64 d, .slice B n c2] 26)) := ⟨by simp [go_sem], by simp [go_sem], by simp [go_sem], KA⟩
  have C1 := Lib.hid (kAsked_any _ _ d co rs x (w.alloc (.cells #[.slice A m c1, .int .i64 d, .slice B n c2] 26)) (h.keep KA))
  rw [hm] at C1
  have RB := Lib.hid (fun w' (k : Kp w w') hok hx => kCounts_any _ _ d co rs x w' (h.keep k) hok hx)
  obtain ⟨L, hL⟩ : ∃ L, L = cntW (fun s => resI d rs s x) (pS d.toNat) := ⟨_, rfl⟩
  rw [← hL]
  obtain ⟨S, hS⟩ : ∃ S, S = sumS L 8 := ⟨_, rfl⟩
  obtain ⟨N, hN⟩ : ∃ N, N = sumN L 8 := ⟨_, rfl⟩
  rw [← hS, ← hN]
  have HX1 := Lib.hid hS
  have HX2 := Lib.hid hN
  cases hc : (tabOk co d rs && inCol m x)
  · obtain rfl : Q = false := by rw [HQ.out, hc]
    rw [hc] at C1
    clear h hvs hA hB hI hm hn hQ RB hc hL hS hN
    go_enter Tryd.func15, Tryd.ntmps15
    go_wp2_with fail
    refine C1.out.mono ?_
    rintro e1 w1 ⟨rfl, k1⟩
    go_wp2_with fail
    exact bodyPost_ret (v := .tuple #[.int .i64 0, .int .i64 0, .bool false]) (by simp [results, Tryd.results15, go_sem]) rfl ⟨rfl, KA.trans k1⟩
  · rw [hc] at C1
    obtain rfl : Q = true := by rw [HQ.out, hc]
    rw [← hm] at hc
    simp only [Bool.and_eq_true] at hc
    have hok := hc.1
    have RC := Lib.hid (fun w' k => RB.out w' k hc.1 hc.2)
    rw [← hL] at RC
    have hdd := tabOk_d hok
    have HL8 : Hid (L.length = 8) := Lib.hid (by rw [hL, cntW_len])
    have HLB : Hid (∀ (i : Nat) y, L[i]? = some y → 0 ≤ y ∧ y ≤ 216) := Lib.hid fun i y hy => by
      rw [hL] at hy
      exact cntW_bd (pS_bd (by omega) (by omega)) (by rw [pS_len]; omega) hy
    have HSB := Lib.hid (fun q hq => sumS_bd HLB.out HL8.out q hq)
    clear h hvs hA hB hI hm hn hQ RB hc hL hS hN hok hdd
    go_enter Tryd.func15, Tryd.ntmps15
    go_wp2_with fail
    refine C1.out.mono ?_
    rintro e1 w1 ⟨rfl, k1⟩
    have s1 := kc3 k1 s0
    clear s0 KA k1
    go_wp2_with fail
    refine (RC.out _ s1.2.2.2).mono ?_
    rintro e2 w2 ⟨v, rfl, o, k2⟩
    obtain ⟨A2, c3, ev⟩ := o.slice
    rw [HL8.out] at ev
    subst ev
    have OL := Lib.hid o
    have KE : Kp w w2 := s1.2.2.2.trans k2
    clear o k2 s1
    go_wp2_with fail
    go_loop [7, 8, 9, 10, 19] (fun a b _ _ i => ∃ (q : Nat) (S1 N1 : Int), q ≤ 8 ∧ i = .int .i64 q ∧ a = .int .i64 S1 ∧ b = .int .i64 N1 ∧ Hid (sumS L q = S1 ∧ sumN L q = N1)) (fun _ _ _ _ i => 8 - (intOf i).toNat)
    case atStart => exact ⟨0, 0, 0, by omega, rfl, rfl, rfl, Lib.hid ⟨rfl, rfl⟩⟩
    case round =>
      obtain ⟨q, S1, N1, hq, rfl, rfl, rfl, hE⟩ := hrel
      by_cases hlt : q < 8
      · have hlt' : (q : Int) < 8 := by omega
        obtain ⟨y, hy⟩ : ∃ y, L[q]? = some y := ⟨L[q]'(by have := HL8.out; omega), List.getElem?_eq_getElem _⟩
        obtain ⟨g, rfl, a0⟩ := OL.out.cellAt' hy
        obtain ⟨y1, y2⟩ := HLB.out q y hy
        obtain ⟨z1, z2, z3, z4⟩ := HSB.out q (by omega)
        rw [hE.out.1] at z1 z2
        rw [hE.out.2] at z3 z4
        have hs := scoI_bd (q : Int) (by omega) (by omega)
        have hm := mul_sco y1 y2 hs.1 hs.2
        have HM := Lib.hid (sumS_more hy)
        have HE2 : Hid (sumS L (q + 1) = S1 + y * scoI q ∧ sumN L (q + 1) = N1 + y) := Lib.hid (by rw [HM.out.1, HM.out.2, hE.out.1, hE.out.2]; exact ⟨rfl, rfl⟩)
        clear hy HM
        go_wp2_with fail
        refine (kScore_any _ _ (by omega) (by omega)).mono ?_
        rintro e5 w5 ⟨rfl, rfl⟩
        go_wp2_with fail
        go_round
        case rel => exact ⟨q + 1, _, _, by omega, by go_num, rfl, rfl, HE2⟩
        case measure => simp [intOf]; omega
      · obtain rfl : q = 8 := by omega
        go_wp2_with fail
        refine bodyPost_ret (v := .tuple #[.int .i64 S1, .int .i64 N1, .bool true]) (by simp [results, Tryd.results15, go_sem]) rfl ⟨?_, KE⟩
        rw [HX1.out, HX2.out, hE.out.1, hE.out.2]
        rfl

end Go.Proofs.YtjpfmckoodalnaaDoor
