/-
  Shifts and results of combat tables, as the program and as the reference tell. Nothing that was there is changed.
-/
import Derived.Test.YtjpfmckoodalnaaDoorTbK
namespace Go.Proofs.YtjpfmckoodalnaaDoor
open Go.RowKit

theorem l1Least_any (a b : Int) (w : World) : Calls Tryd.prog 42 #[.int .i64 a, .int .i64 b] w fun e w' => e = .returned (.int .i64 (min a b)) ∧ w = w' := by
  by_cases h : a < b
  · go_enter Tryd.func42, Tryd.ntmps42
    go_wp2
    go_ret
    exact ⟨ret_int (by omega), rfl⟩
  · go_enter Tryd.func42, Tryd.ntmps42
    go_wp2
    go_ret
    exact ⟨ret_int (by omega), rfl⟩
theorem l1Most_any (a b : Int) (w : World) : Calls Tryd.prog 41 #[.int .i64 a, .int .i64 b] w fun e w' => e = .returned (.int .i64 (max a b)) ∧ w = w' := by
  by_cases h : b < a
  · go_enter Tryd.func41, Tryd.ntmps41
    go_wp2
    go_ret
    exact ⟨ret_int (by omega), rfl⟩
  · go_enter Tryd.func41, Tryd.ntmps41
    go_wp2
    go_ret
    exact ⟨ret_int (by omega), rfl⟩

set_option maxRecDepth 100000 in
set_option maxHeartbeats 4000000 in
theorem shiftColumn_any (c r : Value) (d : Int) (co : List (Int × Int)) (rs : List (List Int)) (x s : Int) (w : World) (h : CtAt w c r co rs) (hs : TbH w) :
    Calls Tryd.prog 8 #[cv c d r, .int .i64 x, .int .i64 s] w fun e w' => e = .returned (ib ((tabOk co d rs && inCol co.length x) && spB (-10) 10 s) (shI co.length x s)) ∧ Kp w w' := by
  obtain ⟨A, c1, ec, hA⟩ := h.rc
  obtain ⟨B, c2, vs, er, hvs, hB, hI⟩ := h.rr
  obtain ⟨m, hm⟩ : ∃ m, co.length = m := ⟨_, rfl⟩
  obtain ⟨n, hn⟩ : ∃ n, rs.length = n := ⟨_, rfl⟩
  rw [hm] at ec hA
  rw [hn] at er hvs hB
  subst ec er
  have HL := Lib.hid h
  have HA := Lib.hid hA
  have HB := Lib.hid hB
  have HI := Lib.hid hI
  have HV := Lib.hid hvs
  have HM := Lib.hid hm
  have HN := Lib.hid hn
  have hmb : m ≤ 1048576 := by have := h.bc; omega
  have hnb : n ≤ 1048576 := by have := h.br; omega
  have HS := Lib.hid hs
  obtain ⟨Q, hQ⟩ : ∃ Q, Q = ((tabOk co d rs && inCol co.length x) && spB (-10) 10 s) := ⟨_, rfl⟩
  rw [← hQ]
  rw [hm] at hQ
  have HQ := Lib.hid hQ
  obtain ⟨X, hX⟩ : ∃ X : Int, X = (shI co.length x s) := ⟨_, rfl⟩
  rw [← hX]
  rw [hm] at hX
  have HX := Lib.hid hX
  have KA : Kp w (w.alloc (.cells #[.slice A m c1, .int .i64 d, .slice B n c2] 26)) := (Kp.refl w).alloc _
  have s0 : (w.alloc (.cells #[.slice A m c1, .int .i64 d, .slice B n c2] 26)).cell? ⟨w.heap.size, 0, none⟩ = some (.slice A m c1) ∧ (w.alloc (.cells #[.slice A m c1, .int .i64 d, .slice B n c2] 26)).cell? ⟨w.heap.size, 1, none⟩ = some (.int .i64 d) ∧ (w.alloc (.cells #[.slice A m c1, .int .i64 d, .slice B n c2] 26)).cell? ⟨w.heap.size, 2, none⟩ = some (.slice B n c2) ∧ Kp w (w.alloc (.cells #[.slice A m c1, .int .i64 d, .slice B n c2] 26)) := ⟨by simp [go_sem], by simp [go_sem], by simp [go_sem], KA⟩
  have C1 := Lib.hid (isColumnOf_any _ _ d co rs x (w.alloc (.cells #[.slice A m c1, .int .i64 d, .slice B n c2] 26)) (h.keep KA) (hs.keep KA).t)
  rw [hm] at C1
  clear h hs hvs hA hB hI hn hQ hX
  cases hc : (tabOk co d rs && inCol m x)
  · obtain rfl : Q = false := by rw [HQ.out, hc]; rfl
    rw [hc] at C1
    clear hm
    go_enter Tryd.func8, Tryd.ntmps8
    go_wp2_with fail
    refine C1.out.mono ?_
    rintro e1 w1 ⟨rfl, k1⟩
    go_wp2_with fail
    go_ret2
    exact ⟨rfl, KA.trans k1⟩
  · rw [hc] at C1
    simp only [Bool.and_eq_true] at hc
    obtain ⟨hx1, hx2⟩ := inCol_true hc.2
    have hmn := tabOk_n hc.1
    rw [hm] at hmn
    clear hm
    cases ha : spB (-10) 10 s
    · obtain rfl : Q = false := by rw [HQ.out, ha]; simp
      go_enter Tryd.func8, Tryd.ntmps8
      go_wp2_with fail
      refine C1.out.mono ?_
      rintro e1 w1 ⟨rfl, k1⟩
      have s1 := kc3 k1 s0
      have p0 := (HS.out.keep s1.2.2.2).shift.1
      have p1 := (HS.out.keep s1.2.2.2).shift.2
      clear s0 KA k1
      go_wp2_with fail
      refine (has_any _ _ _ _).mono ?_
      rintro e2 w2 ⟨rfl, k2⟩
      go_wp2_with fail
      go_ret2
      exact ⟨rfl, s1.2.2.2.trans k2⟩
    · obtain rfl : Q = true := by rw [HQ.out, hc.1, hc.2, ha]; rfl
      obtain ⟨ha1, ha2⟩ := spB_true ha
      clear hc
      go_enter Tryd.func8, Tryd.ntmps8
      go_wp2_with fail
      refine C1.out.mono ?_
      rintro e1 w1 ⟨rfl, k1⟩
      have s1 := kc3 k1 s0
      have p0 := (HS.out.keep s1.2.2.2).shift.1
      have p1 := (HS.out.keep s1.2.2.2).shift.2
      clear s0 KA k1
      go_wp2_with fail
      refine (has_any _ _ _ _).mono ?_
      rintro e2 w2 ⟨rfl, k2⟩
      have s2 := kc3 k2 s1
      clear s1 k2
      go_wp2_with fail
      all_goals
        go_ret2
        exact ⟨ib_ret (by rw [HX.out, shI]; omega), s2.2.2.2⟩

set_option maxRecDepth 100000 in
set_option maxHeartbeats 4000000 in
theorem kShift_any (c r : Value) (d : Int) (co : List (Int × Int)) (rs : List (List Int)) (x s : Int) (w : World) (h : CtAt w c r co rs) (hm8 : co.length ≤ 8) (hx1 : 0 ≤ x) (hx2 : x ≤ 8) (ha1 : -10 ≤ s) (ha2 : s ≤ 10) :
    Calls Tryd.prog 28 #[cv c d r, .int .i64 x, .int .i64 s] w fun e w' => e = .returned (.int .i64 (shI co.length x s)) ∧ Kp w w' := by
  obtain ⟨A, c1, ec, hA⟩ := h.rc
  obtain ⟨B, c2, vs, er, hvs, hB, hI⟩ := h.rr
  obtain ⟨m, hm⟩ : ∃ m, co.length = m := ⟨_, rfl⟩
  obtain ⟨n, hn⟩ : ∃ n, rs.length = n := ⟨_, rfl⟩
  rw [hm] at ec hA
  rw [hn] at er hvs hB
  subst ec er
  have HL := Lib.hid h
  have HA := Lib.hid hA
  have HB := Lib.hid hB
  have HI := Lib.hid hI
  have HV := Lib.hid hvs
  have HM := Lib.hid hm
  have HN := Lib.hid hn
  have hmb : m ≤ 1048576 := by have := h.bc; omega
  have hnb : n ≤ 1048576 := by have := h.br; omega
  have KA : Kp w (w.alloc (.cells #[.slice A m c1, .int .i64 d, .slice B n c2] 26)) := (Kp.refl w).alloc _
  rw [hm] at hm8 ⊢
  clear h hvs hA hB hI hm hn
  go_enter Tryd.func28, Tryd.ntmps28
  go_wp2_with fail
  refine (l1Least_any _ _ _).mono ?_
  rintro e1 w1 ⟨rfl, rfl⟩
  go_wp2_with fail
  refine (l1Most_any _ _ _).mono ?_
  rintro e2 w2 ⟨rfl, rfl⟩
  go_wp2_with fail
  go_ret
  exact ⟨ret_int (by rw [shI]), KA⟩

set_option maxRecDepth 100000 in
set_option maxHeartbeats 4000000 in
theorem specShiftColumn_any (c r : Value) (d : Int) (co : List (Int × Int)) (rs : List (List Int)) (x s : Int) (w : World) (h : CtAt w c r co rs) :
    Calls Tryd.prog 9 #[cv c d r, .int .i64 x, .int .i64 s] w fun e w' => e = .returned (ib ((tabOk co d rs && inCol co.length x) && spB (-10) 10 s) (shI co.length x s)) ∧ Kp w w' := by
  obtain ⟨A, c1, ec, hA⟩ := h.rc
  obtain ⟨B, c2, vs, er, hvs, hB, hI⟩ := h.rr
  obtain ⟨m, hm⟩ : ∃ m, co.length = m := ⟨_, rfl⟩
  obtain ⟨n, hn⟩ : ∃ n, rs.length = n := ⟨_, rfl⟩
  rw [hm] at ec hA
  rw [hn] at er hvs hB
  subst ec er
  have HL := Lib.hid h
  have HA := Lib.hid hA
  have HB := Lib.hid hB
  have HI := Lib.hid hI
  have HV := Lib.hid hvs
  have HM := Lib.hid hm
  have HN := Lib.hid hn
  have hmb : m ≤ 1048576 := by have := h.bc; omega
  have hnb : n ≤ 1048576 := by have := h.br; omega
  obtain ⟨Q, hQ⟩ : ∃ Q, Q = ((tabOk co d rs && inCol co.length x) && spB (-10) 10 s) := ⟨_, rfl⟩
  rw [← hQ]
  rw [hm] at hQ
  have HQ := Lib.hid hQ
  obtain ⟨X, hX⟩ : ∃ X : Int, X = (shI co.length x s) := ⟨_, rfl⟩
  rw [← hX]
  have HX := Lib.hid hX
  have KA : Kp w (w.alloc (.cells #[.slice A m c1, .int .i64 d, .slice B n c2] 26)) := (Kp.refl w).alloc _
  have s0 : (w.alloc (.cells #[.slice A m c1, .int .i64 d, .slice B n c2] 26)).cell? ⟨w.heap.size, 0, none⟩ = some (.slice A m c1) ∧ (w.alloc (.cells #[.slice A m c1, .int .i64 d, .slice B n c2] 26)).cell? ⟨w.heap.size, 1, none⟩ = some (.int .i64 d) ∧ (w.alloc (.cells #[.slice A m c1, .int .i64 d, .slice B n c2] 26)).cell? ⟨w.heap.size, 2, none⟩ = some (.slice B n c2) ∧ Kp w (w.alloc (.cells #[.slice A m c1, .int .i64 d, .slice B n c2] 26)) := ⟨by simp [go_sem], by simp [go_sem], by simp [go_sem], KA⟩
  have C1 := Lib.hid (kAsked_any _ _ d co rs x (w.alloc (.cells #[.slice A m c1, .int .i64 d, .slice B n c2] 26)) (h.keep KA))
  rw [hm] at C1
  have HS3 := Lib.hid (fun w' (k : Kp w w') h0 h1 h2 h3 h4 => kShift_any _ _ d co rs x s w' (h.keep k) h0 h1 h2 h3 h4)
  rw [← hX] at HS3
  clear h hvs hA hB hI hn hQ hX
  cases hc : (tabOk co d rs && inCol m x)
  · obtain rfl : Q = false := by rw [HQ.out, hc]; rfl
    rw [hc] at C1
    clear hm
    go_enter Tryd.func9, Tryd.ntmps9
    go_wp2_with fail
    refine C1.out.mono ?_
    rintro e1 w1 ⟨rfl, k1⟩
    go_wp2_with fail
    go_ret2
    exact ⟨rfl, KA.trans k1⟩
  · rw [hc] at C1
    simp only [Bool.and_eq_true] at hc
    obtain ⟨hx1, hx2⟩ := inCol_true hc.2
    have hmn := tabOk_n hc.1
    have HM8 := Lib.hid hmn.2
    rw [hm] at hmn
    clear hm
    cases ha : spB (-10) 10 s
    · obtain rfl : Q = false := by rw [HQ.out, ha]; simp
      go_enter Tryd.func9, Tryd.ntmps9
      go_wp2_with fail
      refine C1.out.mono ?_
      rintro e1 w1 ⟨rfl, k1⟩
      have s1 := kc3 k1 s0
      clear s0 KA k1
      go_wp2_with fail
      refine (l1In_sp _ _ _ _).mono ?_
      rintro e2 w2 ⟨rfl, rfl⟩
      go_wp2_with fail
      go_ret2
      exact ⟨rfl, s1.2.2.2⟩
    · obtain rfl : Q = true := by rw [HQ.out, hc.1, hc.2, ha]; rfl
      obtain ⟨ha1, ha2⟩ := spB_true ha
      clear hc
      go_enter Tryd.func9, Tryd.ntmps9
      go_wp2_with fail
      refine C1.out.mono ?_
      rintro e1 w1 ⟨rfl, k1⟩
      have s1 := kc3 k1 s0
      clear s0 KA k1
      go_wp2_with fail
      refine (l1In_sp _ _ _ _).mono ?_
      rintro e2 w2 ⟨rfl, rfl⟩
      go_wp2_with fail
      refine (HS3.out _ s1.2.2.2 HM8.out hx1 (by omega) ha1 ha2).mono ?_
      rintro e3 w3 ⟨rfl, k3⟩
      go_wp2_with fail
      go_ret2
      exact ⟨rfl, s1.2.2.2.trans k3⟩

theorem resI_at {d : Int} {rs : List (List Int)} {j y : Nat} {l : List Int} {v : Int} (hj : rs[j]? = some l) (hy : l[y]? = some v) : resI d rs (d + j) y = v := by
  have e1 : (d + (j : Int) - d).toNat = j := by omega
  have e2 : ((y : Int)).toNat = y := by omega
  unfold resI
  rw [e1, e2]
  simp [List.getD, hj, hy]

theorem fieldSpan (a b : Int) (w : World) : (Instr.field 52 (.agg #[.int .i64 a, .int .i64 b]) 0).run Tryd.prog w = .ok (.int .i64 a) w := by kernel_rfl
set_option maxRecDepth 100000 in
set_option maxHeartbeats 4000000 in
theorem resultOf_any (c r : Value) (d : Int) (co : List (Int × Int)) (rs : List (List Int)) (q : Int) (j y : Nat) (l : List Int) (v : Int) (w : World) (h : CtAt w c r co rs) (hqj : q = d + j) (hd1 : 1 ≤ d) (hd2 : d ≤ 2) (hj : rs[j]? = some l) (hy : l[y]? = some v) :
    Calls Tryd.prog 30 #[cv c d r, .int .i64 q, .int .i64 (y : Int)] w fun e w' => e = .returned (.int .i64 v) ∧ Kp w w' := by
  obtain ⟨A, c1, ec, hA⟩ := h.rc
  obtain ⟨B, c2, vs, er, hvs, hB, hI⟩ := h.rr
  obtain ⟨m, hm⟩ : ∃ m, co.length = m := ⟨_, rfl⟩
  obtain ⟨n, hn⟩ : ∃ n, rs.length = n := ⟨_, rfl⟩
  rw [hm] at ec hA
  rw [hn] at er hvs hB
  subst ec er
  have HL := Lib.hid h
  have HA := Lib.hid hA
  have HB := Lib.hid hB
  have HI := Lib.hid hI
  have HV := Lib.hid hvs
  have HM := Lib.hid hm
  have HN := Lib.hid hn
  have hmb : m ≤ 1048576 := by have := h.bc; omega
  have hnb : n ≤ 1048576 := by have := h.br; omega
  obtain ⟨g, off, rfl, hcl⟩ := hB (by have := (List.getElem?_eq_some_iff.1 hj).1; omega)
  obtain ⟨z, hz⟩ : ∃ z, vs[j]? = some z := ⟨vs[j]'(by have := (List.getElem?_eq_some_iff.1 hj).1; omega), List.getElem?_eq_getElem _⟩
  obtain ⟨Ax, cx, rfl, hx⟩ := hI j z l hz hj
  obtain ⟨gx, ox, rfl, hcx⟩ := hx (by have := (List.getElem?_eq_some_iff.1 hy).1; omega)
  have a0 := hcl j _ hz
  have eqj : j = (q - d).toNat := by omega
  rw [eqj] at a0
  have a1 := hcx y v hy
  have hq1 : 0 ≤ q - d := by omega
  have hq3 : d ≤ q := by omega
  have hq2 : q - d < n := by have := (List.getElem?_eq_some_iff.1 hj).1; omega
  have hyu : (y : Int) < l.length := by have := (List.getElem?_eq_some_iff.1 hy).1; omega
  have hlu : l.length ≤ 1048576 := h.bl l (List.mem_of_getElem? hj)
  generalize l.length = u at a0 hyu hlu
  have KA : Kp w (w.alloc (.cells #[.slice A m c1, .int .i64 d, .slice (some ⟨g, off, none⟩) n c2] 26)) := (Kp.refl w).alloc _
  have s0 : (w.alloc (.cells #[.slice A m c1, .int .i64 d, .slice (some ⟨g, off, none⟩) n c2] 26)).cell? ⟨w.heap.size, 0, none⟩ = some (.slice A m c1) ∧ (w.alloc (.cells #[.slice A m c1, .int .i64 d, .slice (some ⟨g, off, none⟩) n c2] 26)).cell? ⟨w.heap.size, 1, none⟩ = some (.int .i64 d) ∧ (w.alloc (.cells #[.slice A m c1, .int .i64 d, .slice (some ⟨g, off, none⟩) n c2] 26)).cell? ⟨w.heap.size, 2, none⟩ = some (.slice (some ⟨g, off, none⟩) n c2) ∧ (w.alloc (.cells #[.slice A m c1, .int .i64 d, .slice (some ⟨g, off, none⟩) n c2] 26)).cell? ⟨g, off + (q - d).toNat, none⟩ = some (.slice (some ⟨gx, ox, none⟩) u cx) ∧ (w.alloc (.cells #[.slice A m c1, .int .i64 d, .slice (some ⟨g, off, none⟩) n c2] 26)).cell? ⟨gx, ox + y, none⟩ = some (.int .i64 v) ∧ Kp w (w.alloc (.cells #[.slice A m c1, .int .i64 d, .slice (some ⟨g, off, none⟩) n c2] 26)) := ⟨by simp [go_sem], by simp [go_sem], by simp [go_sem], KA.cell a0, KA.cell a1, KA⟩
  clear h hvs hA hB hI hm hn hcl hz hx hcx hj hy a0 a1 HL HB HI HV HA eqj hqj
  go_enter Tryd.func30, Tryd.ntmps30
  go_wp2_with fail
  generalize (w.alloc (.cells #[.slice A m c1, .int .i64 d, .slice (some ⟨g, off, none⟩) n c2] 26)) = W0 at *
  have s1 := kd5 s0
  have ew : IntKind.i64.wrap (q - d) = q - d := IntWalk.i64_in _ (by omega)
  have hf := fun w => fieldSpan d (6 * d) w
  go_region_held3 (fun w' => w'.cell? ⟨w.heap.size, 0, none⟩ = some (.slice A m c1) ∧ w'.cell? ⟨w.heap.size, 1, none⟩ = some (.int .i64 d) ∧ w'.cell? ⟨w.heap.size, 2, none⟩ = some (.slice (some ⟨g, off, none⟩) n c2) ∧ w'.cell? ⟨g, off + (q - d).toNat, none⟩ = some (.slice (some ⟨gx, ox, none⟩) u cx) ∧ w'.cell? ⟨gx, ox + y, none⟩ = some (.int .i64 v) ∧ Kp w w') (first | assumption | exact s1)
    (first | (go_at_call 29; refine (sumsSpan_any d _ hd1 hd2).mono ?_; rintro e2 w2 ⟨rfl, k2⟩; have s2 := kc5 k2 (by assumption)))
  all_goals
    go_wp2_with fail
    go_ret
    exact ⟨rfl, s2.2.2.2.2.2⟩

set_option maxRecDepth 100000 in
set_option maxHeartbeats 4000000 in
theorem kResult_any (c r : Value) (d : Int) (co : List (Int × Int)) (rs : List (List Int)) (q : Int) (j y : Nat) (l : List Int) (v : Int) (w : World) (h : CtAt w c r co rs) (hqj : q = d + j) (hj : rs[j]? = some l) (hy : l[y]? = some v) :
    Calls Tryd.prog 31 #[cv c d r, .int .i64 q, .int .i64 (y : Int)] w fun e w' => e = .returned (.int .i64 v) ∧ Kp w w' := by
  obtain ⟨A, c1, ec, hA⟩ := h.rc
  obtain ⟨B, c2, vs, er, hvs, hB, hI⟩ := h.rr
  obtain ⟨m, hm⟩ : ∃ m, co.length = m := ⟨_, rfl⟩
  obtain ⟨n, hn⟩ : ∃ n, rs.length = n := ⟨_, rfl⟩
  rw [hm] at ec hA
  rw [hn] at er hvs hB
  subst ec er
  have HL := Lib.hid h
  have HA := Lib.hid hA
  have HB := Lib.hid hB
  have HI := Lib.hid hI
  have HV := Lib.hid hvs
  have HM := Lib.hid hm
  have HN := Lib.hid hn
  have hmb : m ≤ 1048576 := by have := h.bc; omega
  have hnb : n ≤ 1048576 := by have := h.br; omega
  obtain ⟨g, off, rfl, hcl⟩ := hB (by have := (List.getElem?_eq_some_iff.1 hj).1; omega)
  obtain ⟨z, hz⟩ : ∃ z, vs[j]? = some z := ⟨vs[j]'(by have := (List.getElem?_eq_some_iff.1 hj).1; omega), List.getElem?_eq_getElem _⟩
  obtain ⟨Ax, cx, rfl, hx⟩ := hI j z l hz hj
  obtain ⟨gx, ox, rfl, hcx⟩ := hx (by have := (List.getElem?_eq_some_iff.1 hy).1; omega)
  have a0 := hcl j _ hz
  have eqj : j = (q - d).toNat := by omega
  rw [eqj] at a0
  have a1 := hcx y v hy
  have hq1 : 0 ≤ q - d := by omega
  have hq3 : d ≤ q := by omega
  have hq2 : q - d < n := by have := (List.getElem?_eq_some_iff.1 hj).1; omega
  have hyu : (y : Int) < l.length := by have := (List.getElem?_eq_some_iff.1 hy).1; omega
  have hlu : l.length ≤ 1048576 := h.bl l (List.mem_of_getElem? hj)
  generalize l.length = u at a0 hyu hlu
  have KA : Kp w (w.alloc (.cells #[.slice A m c1, .int .i64 d, .slice (some ⟨g, off, none⟩) n c2] 26)) := (Kp.refl w).alloc _
  have s0 : (w.alloc (.cells #[.slice A m c1, .int .i64 d, .slice (some ⟨g, off, none⟩) n c2] 26)).cell? ⟨w.heap.size, 0, none⟩ = some (.slice A m c1) ∧ (w.alloc (.cells #[.slice A m c1, .int .i64 d, .slice (some ⟨g, off, none⟩) n c2] 26)).cell? ⟨w.heap.size, 1, none⟩ = some (.int .i64 d) ∧ (w.alloc (.cells #[.slice A m c1, .int .i64 d, .slice (some ⟨g, off, none⟩) n c2] 26)).cell? ⟨w.heap.size, 2, none⟩ = some (.slice (some ⟨g, off, none⟩) n c2) ∧ (w.alloc (.cells #[.slice A m c1, .int .i64 d, .slice (some ⟨g, off, none⟩) n c2] 26)).cell? ⟨g, off + (q - d).toNat, none⟩ = some (.slice (some ⟨gx, ox, none⟩) u cx) ∧ (w.alloc (.cells #[.slice A m c1, .int .i64 d, .slice (some ⟨g, off, none⟩) n c2] 26)).cell? ⟨gx, ox + y, none⟩ = some (.int .i64 v) ∧ Kp w (w.alloc (.cells #[.slice A m c1, .int .i64 d, .slice (some ⟨g, off, none⟩) n c2] 26)) := ⟨by simp [go_sem], by simp [go_sem], by simp [go_sem], KA.cell a0, KA.cell a1, KA⟩
  clear h hvs hA hB hI hm hn hcl hz hx hcx hj hy a0 a1 HL HB HI HV HA eqj hqj
  go_enter Tryd.func31, Tryd.ntmps31
  go_wp2_with fail
  go_ret
  exact ⟨rfl, KA⟩


set_option maxRecDepth 100000 in
set_option maxHeartbeats 4000000 in
theorem resultAt_any (c r : Value) (d : Int) (co : List (Int × Int)) (rs : List (List Int)) (q x : Int) (w : World) (h : CtAt w c r co rs) (hs : TbSp w) :
    Calls Tryd.prog 11 #[cv c d r, .int .i64 q, .int .i64 x] w fun e w' => e = .returned (ib ((tabOk co d rs && inCol co.length x) && spB d (6 * d) q) (resI d rs q x)) ∧ Kp w w' := by
  obtain ⟨A, c1, ec, hA⟩ := h.rc
  obtain ⟨B, c2, vs, er, hvs, hB, hI⟩ := h.rr
  obtain ⟨m, hm⟩ : ∃ m, co.length = m := ⟨_, rfl⟩
  obtain ⟨n, hn⟩ : ∃ n, rs.length = n := ⟨_, rfl⟩
  rw [hm] at ec hA
  rw [hn] at er hvs hB
  subst ec er
  have HL := Lib.hid h
  have HA := Lib.hid hA
  have HB := Lib.hid hB
  have HI := Lib.hid hI
  have HV := Lib.hid hvs
  have HM := Lib.hid hm
  have HN := Lib.hid hn
  have hmb : m ≤ 1048576 := by have := h.bc; omega
  have hnb : n ≤ 1048576 := by have := h.br; omega
  have HS := Lib.hid hs
  obtain ⟨Q, hQ⟩ : ∃ Q, Q = ((tabOk co d rs && inCol co.length x) && spB d (6 * d) q) := ⟨_, rfl⟩
  rw [← hQ]
  rw [hm] at hQ
  have HQ := Lib.hid hQ
  obtain ⟨X, hX⟩ : ∃ X : Int, X = (resI d rs q x) := ⟨_, rfl⟩
  rw [← hX]
  have HX := Lib.hid hX
  have KA : Kp w (w.alloc (.cells #[.slice A m c1, .int .i64 d, .slice B n c2] 26)) := (Kp.refl w).alloc _
  have s0 : (w.alloc (.cells #[.slice A m c1, .int .i64 d, .slice B n c2] 26)).cell? ⟨w.heap.size, 0, none⟩ = some (.slice A m c1) ∧ (w.alloc (.cells #[.slice A m c1, .int .i64 d, .slice B n c2] 26)).cell? ⟨w.heap.size, 1, none⟩ = some (.int .i64 d) ∧ (w.alloc (.cells #[.slice A m c1, .int .i64 d, .slice B n c2] 26)).cell? ⟨w.heap.size, 2, none⟩ = some (.slice B n c2) ∧ Kp w (w.alloc (.cells #[.slice A m c1, .int .i64 d, .slice B n c2] 26)) := ⟨by simp [go_sem], by simp [go_sem], by simp [go_sem], KA⟩
  have C1 := Lib.hid (isColumnOf_any _ _ d co rs x (w.alloc (.cells #[.slice A m c1, .int .i64 d, .slice B n c2] 26)) (h.keep KA) (hs.keep KA))
  rw [hm] at C1
  have HV3 : Hid (tabOk co d rs = true → inCol m x = true → spB d (6 * d) q = true → ∀ w', Kp w w' → Calls Tryd.prog 30 #[cv (.slice A m c1) d (.slice B n c2), .int .i64 q, .int .i64 x] w' fun e w'' => e = .returned (.int .i64 X) ∧ Kp w' w'') := Lib.hid fun hok hx hq w' k => by
    have hd := tabOk_d hok
    obtain ⟨hx1, hx2⟩ := inCol_true hx
    obtain ⟨hq1, hq2⟩ := spB_true hq
    obtain ⟨y, rfl⟩ : ∃ y : Nat, x = y := ⟨x.toNat, by omega⟩
    obtain ⟨j, hqj⟩ : ∃ j : Nat, q = d + j := ⟨(q - d).toNat, by omega⟩
    have hnn := (tabOk_parts hok).2.2.1
    obtain ⟨l, hj⟩ : ∃ l, rs[j]? = some l := ⟨rs[j]'(by omega), List.getElem?_eq_getElem _⟩
    have hlm := (tabOk_row hok hj).1
    obtain ⟨v, hy⟩ : ∃ v, l[y]? = some v := ⟨l[y]'(by omega), List.getElem?_eq_getElem _⟩
    have e : X = v := by rw [hX, hqj]; exact resI_at hj hy
    rw [e]
    exact resultOf_any _ _ d co rs q j y l v w' (h.keep k) hqj hd.1 hd.2 hj hy
  clear h hs hvs hA hB hI hm hn hQ hX
  cases hc : (tabOk co d rs && inCol m x)
  · obtain rfl : Q = false := by rw [HQ.out, hc]; rfl
    rw [hc] at C1
    go_enter Tryd.func11, Tryd.ntmps11
    go_wp2_with fail
    refine C1.out.mono ?_
    rintro e1 w1 ⟨rfl, k1⟩
    go_wp2_with fail
    go_ret2
    exact ⟨rfl, KA.trans k1⟩
  · rw [hc] at C1
    simp only [Bool.and_eq_true] at hc
    obtain ⟨hd1, hd2⟩ := tabOk_d hc.1
    have HO1 := Lib.hid hc.1
    have HO2 := Lib.hid hc.2
    cases ha : spB d (6 * d) q
    · obtain rfl : Q = false := by rw [HQ.out, ha]; simp
      clear hc
      go_enter Tryd.func11, Tryd.ntmps11
      go_wp2_with fail
      refine C1.out.mono ?_
      rintro e1 w1 ⟨rfl, k1⟩
      have s1 := kc3 k1 s0
      clear s0 KA k1
      go_wp2_with fail
      refine (sumsSpan_any d _ hd1 hd2).mono ?_
      rintro e2 w2 ⟨rfl, k2⟩
      have s2 := kc3 k2 s1
      clear s1 k2
      go_wp2_with fail
      refine (has_any _ _ _ _).mono ?_
      rintro e3 w3 ⟨rfl, k3⟩
      have s3 := kc3 k3 s2
      clear s2 k3
      go_wp2_with fail
      go_ret2
      exact ⟨rfl, s3.2.2.2⟩
    · obtain rfl : Q = true := by rw [HQ.out, hc.1, hc.2, ha]; rfl
      have HO3 := Lib.hid ha
      clear hc
      go_enter Tryd.func11, Tryd.ntmps11
      go_wp2_with fail
      refine C1.out.mono ?_
      rintro e1 w1 ⟨rfl, k1⟩
      have s1 := kc3 k1 s0
      clear s0 KA k1
      go_wp2_with fail
      refine (sumsSpan_any d _ hd1 hd2).mono ?_
      rintro e2 w2 ⟨rfl, k2⟩
      have s2 := kc3 k2 s1
      clear s1 k2
      go_wp2_with fail
      refine (has_any _ _ _ _).mono ?_
      rintro e3 w3 ⟨rfl, k3⟩
      have s3 := kc3 k3 s2
      clear s2 k3
      go_wp2_with fail
      refine (HV3.out HO1.out HO2.out HO3.out _ s3.2.2.2).mono ?_
      rintro e5 w5 ⟨rfl, k5⟩
      go_wp2_with fail
      go_ret2
      exact ⟨rfl, s3.2.2.2.trans k5⟩

set_option maxRecDepth 100000 in
set_option maxHeartbeats 4000000 in
theorem specResultAt_any (c r : Value) (d : Int) (co : List (Int × Int)) (rs : List (List Int)) (q x : Int) (w : World) (h : CtAt w c r co rs) :
    Calls Tryd.prog 12 #[cv c d r, .int .i64 q, .int .i64 x] w fun e w' => e = .returned (ib ((tabOk co d rs && inCol co.length x) && spB d (6 * d) q) (resI d rs q x)) ∧ Kp w w' := by
  obtain ⟨A, c1, ec, hA⟩ := h.rc
  obtain ⟨B, c2, vs, er, hvs, hB, hI⟩ := h.rr
  obtain ⟨m, hm⟩ : ∃ m, co.length = m := ⟨_, rfl⟩
  obtain ⟨n, hn⟩ : ∃ n, rs.length = n := ⟨_, rfl⟩
  rw [hm] at ec hA
  rw [hn] at er hvs hB
  subst ec er
  have HL := Lib.hid h
  have HA := Lib.hid hA
  have HB := Lib.hid hB
  have HI := Lib.hid hI
  have HV := Lib.hid hvs
  have HM := Lib.hid hm
  have HN := Lib.hid hn
  have hmb : m ≤ 1048576 := by have := h.bc; omega
  have hnb : n ≤ 1048576 := by have := h.br; omega
  obtain ⟨Q, hQ⟩ : ∃ Q, Q = ((tabOk co d rs && inCol co.length x) && spB d (6 * d) q) := ⟨_, rfl⟩
  rw [← hQ]
  rw [hm] at hQ
  have HQ := Lib.hid hQ
  obtain ⟨X, hX⟩ : ∃ X : Int, X = (resI d rs q x) := ⟨_, rfl⟩
  rw [← hX]
  have HX := Lib.hid hX
  have KA : Kp w (w.alloc (.cells #[.slice A m c1, .int .i64 d, .slice B n c2] 26)) := (Kp.refl w).alloc _
  have s0 : (w.alloc (.cells #[.slice A m c1, .int .i64 d, .slice B n c2] 26)).cell? ⟨w.heap.size, 0, none⟩ = some (.slice A m c1) ∧ (w.alloc (.cells #[.slice A m c1, .int .i64 d, .slice B n c2] 26)).cell? ⟨w.heap.size, 1, none⟩ = some (.int .i64 d) ∧ (w.alloc (.cells #[.slice A m c1, .int .i64 d, .slice B n c2] 26)).cell? ⟨w.heap.size, 2, none⟩ = some (.slice B n c2) ∧ Kp w (w.alloc (.cells #[.slice A m c1, .int .i64 d, .slice B n c2] 26)) := ⟨by simp [go_sem], by simp [go_sem], by simp [go_sem], KA⟩
  have C1 := Lib.hid (kAsked_any _ _ d co rs x (w.alloc (.cells #[.slice A m c1, .int .i64 d, .slice B n c2] 26)) (h.keep KA))
  rw [hm] at C1
  have HV3 : Hid (tabOk co d rs = true → inCol m x = true → spB d (6 * d) q = true → ∀ w', Kp w w' → Calls Tryd.prog 31 #[cv (.slice A m c1) d (.slice B n c2), .int .i64 q, .int .i64 x] w' fun e w'' => e = .returned (.int .i64 X) ∧ Kp w' w'') := Lib.hid fun hok hx hq w' k => by
    have hd := tabOk_d hok
    obtain ⟨hx1, hx2⟩ := inCol_true hx
    obtain ⟨hq1, hq2⟩ := spB_true hq
    obtain ⟨y, rfl⟩ : ∃ y : Nat, x = y := ⟨x.toNat, by omega⟩
    obtain ⟨j, hqj⟩ : ∃ j : Nat, q = d + j := ⟨(q - d).toNat, by omega⟩
    have hnn := (tabOk_parts hok).2.2.1
    obtain ⟨l, hj⟩ : ∃ l, rs[j]? = some l := ⟨rs[j]'(by omega), List.getElem?_eq_getElem _⟩
    have hlm := (tabOk_row hok hj).1
    obtain ⟨v, hy⟩ : ∃ v, l[y]? = some v := ⟨l[y]'(by omega), List.getElem?_eq_getElem _⟩
    have e : X = v := by rw [hX, hqj]; exact resI_at hj hy
    rw [e]
    exact kResult_any _ _ d co rs q j y l v w' (h.keep k) hqj hj hy
  clear h hvs hA hB hI hm hn hQ hX
  cases hc : (tabOk co d rs && inCol m x)
  · obtain rfl : Q = false := by rw [HQ.out, hc]; rfl
    rw [hc] at C1
    go_enter Tryd.func12, Tryd.ntmps12
    go_wp2_with fail
    refine C1.out.mono ?_
    rintro e1 w1 ⟨rfl, k1⟩
    go_wp2_with fail
    go_ret2
    exact ⟨rfl, KA.trans k1⟩
  · rw [hc] at C1
    simp only [Bool.and_eq_true] at hc
    obtain ⟨hd1, hd2⟩ := tabOk_d hc.1
    have HO1 := Lib.hid hc.1
    have HO2 := Lib.hid hc.2
    cases ha : spB d (6 * d) q
    · obtain rfl : Q = false := by rw [HQ.out, ha]; simp
      clear hc
      go_enter Tryd.func12, Tryd.ntmps12
      go_wp2_with fail
      refine C1.out.mono ?_
      rintro e1 w1 ⟨rfl, k1⟩
      have s1 := kc3 k1 s0
      clear s0 KA k1
      go_wp2_with fail
      refine (l1In_sp _ _ _ _).mono ?_
      rintro e2 w2 ⟨rfl, rfl⟩
      have s3 := s1
      clear s1
      go_wp2_with fail
      go_ret2
      exact ⟨rfl, s3.2.2.2⟩
    · obtain rfl : Q = true := by rw [HQ.out, hc.1, hc.2, ha]; rfl
      have HO3 := Lib.hid ha
      clear hc
      go_enter Tryd.func12, Tryd.ntmps12
      go_wp2_with fail
      refine C1.out.mono ?_
      rintro e1 w1 ⟨rfl, k1⟩
      have s1 := kc3 k1 s0
      clear s0 KA k1
      go_wp2_with fail
      refine (l1In_sp _ _ _ _).mono ?_
      rintro e2 w2 ⟨rfl, rfl⟩
      have s3 := s1
      clear s1
      go_wp2_with fail
      refine (HV3.out HO1.out HO2.out HO3.out _ s3.2.2.2).mono ?_
      rintro e5 w5 ⟨rfl, k5⟩
      go_wp2_with fail
      go_ret2
      exact ⟨rfl, s3.2.2.2.trans k5⟩
end Go.Proofs.YtjpfmckoodalnaaDoor
