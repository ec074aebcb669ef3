/-
  Columns, shifts, results and scores of combat tables, as the program and as the reference tell. Nothing that was there is changed.
-/
import Derived.Test.YtjpfmckoodalnaaDoorTbS
import Derived.Test.YtjpfmckoodalnaaDoorTabO
namespace Go.Proofs.YtjpfmckoodalnaaDoor
open Go.RowKit

theorem kScore_any (n : Int) (w : World) (h : 0 ≤ n) (h' : n ≤ 7) :
    Calls Tryd.prog 20 #[.int .i64 n] w fun e w' => e = .returned (.int .i64 (scoI n)) ∧ w = w' := by
  by_cases h7 : n = 7
  · subst h7
    go_enter Tryd.func20, Tryd.ntmps20
    go_wp2
    go_ret
    exact ⟨rfl, rfl⟩
  · have e7 : ((n : Int) == 7) = false := by simpa using h7
    by_cases h4 : 4 ≤ n
    · go_enter Tryd.func20, Tryd.ntmps20
      go_wp2
      go_ret
      exact ⟨ret_int (by unfold scoI; rw [if_neg h7, if_pos h4]), rfl⟩
    · go_enter Tryd.func20, Tryd.ntmps20
      go_wp2
      go_ret
      exact ⟨ret_int (by unfold scoI; rw [if_neg h7, if_neg (by omega)]), rfl⟩
theorem scoI_bd (n : Int) (h : 0 ≤ n) (h' : n ≤ 7) : -3 ≤ scoI n ∧ scoI n ≤ 3 := by
  unfold scoI
  split
  · omega
  · split <;> omega

theorem scoreOf_any (n : Int) (w : World) (hs : TbR w) :
    Calls Tryd.prog 16 #[.int .i64 n] w fun e w' => e = .returned (ib (spB 0 7 n) (scoI n)) ∧ Kp w w' := by
  have p0 := hs.result.1
  have p1 := hs.result.2
  have HS := Lib.hid hs
  clear hs
  cases h : spB 0 7 n
  · go_enter Tryd.func16, Tryd.ntmps16
    go_wp2_with fail
    refine (has_any _ _ _ _).mono ?_
    rintro e w1 ⟨rfl, k1⟩
    go_wp2_with fail
    go_ret2
    exact ⟨rfl, k1⟩
  · obtain ⟨h1, h2⟩ := spB_true h
    obtain ⟨j, rfl⟩ : ∃ j : Nat, n = j := ⟨n.toNat, by omega⟩
    have a0 := HS.out.sco j (by omega)
    go_enter Tryd.func16, Tryd.ntmps16
    go_wp2_with fail
    refine (has_any _ _ _ _).mono ?_
    rintro e w1 ⟨rfl, k1⟩
    have a1 := k1.cell a0
    clear a0 p0 p1
    go_wp2_with fail
    go_ret2
    exact ⟨rfl, k1⟩
set_option maxRecDepth 100000 in
set_option maxHeartbeats 4000000 in
theorem isColumnOf_any (c r : Value) (d : Int) (co : List (Int × Int)) (rs : List (List Int)) (x : Int) (w : World) (h : CtAt w c r co rs) (hs : TbSp w) :
    Calls Tryd.prog 24 #[cv c d r, .int .i64 x] w fun e w' => e = .returned (.bool (tabOk co d rs && inCol co.length x)) ∧ Kp w w' := by
  obtain ⟨A, c1, ec, hA⟩ := h.rc
  obtain ⟨B, c2, vs, er, hvs, hB, hI⟩ := h.rr
  obtain ⟨m, hm⟩ : ∃ m, co.length = m := ⟨_, rfl⟩
  obtain ⟨n, hn⟩ : ∃ n, rs.length = n := ⟨_, rfl⟩
  rw [hm] at ec hA
  rw [hn] at er hvs hB
  subst ec er
  have HL := Lib.hid h
  have HA := Lib.hid hA
  have HB := Lib.hid hB
  have HI := Lib.hid hI
  have HV := Lib.hid hvs
  have HM := Lib.hid hm
  have HN := Lib.hid hn
  have hmb : m ≤ 1048576 := by have := h.bc; omega
  have hnb : n ≤ 1048576 := by have := h.br; omega
  have HS := Lib.hid hs
  obtain ⟨Q, hQ⟩ : ∃ Q, Q = (tabOk co d rs && inCol co.length x) := ⟨_, rfl⟩
  rw [← hQ]
  rw [hm] at hQ
  have HQ := Lib.hid hQ
  have KA : Kp w (w.alloc (.cells #[.slice A m c1, .int .i64 d, .slice B n c2] 26)) := (Kp.refl w).alloc _
  have s0 : (w.alloc (.cells #[.slice A m c1, .int .i64 d, .slice B n c2] 26)).cell? ⟨w.heap.size, 0, none⟩ = some (.slice A m c1) ∧ (w.alloc (.cells #[.slice A m c1, .int .i64 d, .slice B n c2] 26)).cell? ⟨w.heap.size, 1, none⟩ = some (.int .i64 d) ∧ (w.alloc (.cells #[.slice A m c1, .int .i64 d, .slice B n c2] 26)).cell? ⟨w.heap.size, 2, none⟩ = some (.slice B n c2) ∧ Kp w (w.alloc (.cells #[.slice A m c1, .int .i64 d, .slice B n c2] 26)) := ⟨by simp [go_sem], by simp [go_sem], by simp [go_sem], KA⟩
  have C1 := Lib.hid (isCombatTable_any _ _ d co rs (w.alloc (.cells #[.slice A m c1, .int .i64 d, .slice B n c2] 26)) (h.keep KA) (hs.keep KA))
  clear h hs hvs hA hB hI hm hn hQ
  cases hc : tabOk co d rs
  · obtain rfl : Q = false := by rw [HQ.out, hc]; rfl
    rw [hc] at C1
    go_enter Tryd.func24, Tryd.ntmps24
    go_wp2_with fail
    refine C1.out.mono ?_
    rintro e1 w1 ⟨rfl, k1⟩
    go_wp2_with fail
    go_ret
    exact ⟨rfl, KA.trans k1⟩
  · rw [hc] at C1
    by_cases hx : 0 ≤ x
    · have hQ2 : Q = decide (x < (m : Int)) := by rw [HQ.out, hc]; simp [inCol, hx]
      subst hQ2
      go_enter Tryd.func24, Tryd.ntmps24
      go_wp2_with fail
      refine C1.out.mono ?_
      rintro e1 w1 ⟨rfl, k1⟩
      have s1 := kc3 k1 s0
      clear s0 KA k1
      go_wp2_with fail
      go_ret
      exact ⟨rfl, s1.2.2.2⟩
    · have hx' : decide (0 ≤ x) = false := by simpa using hx
      obtain rfl : Q = false := by rw [HQ.out, inCol, hx']; simp
      go_enter Tryd.func24, Tryd.ntmps24
      go_wp2_with fail
      refine C1.out.mono ?_
      rintro e1 w1 ⟨rfl, k1⟩
      have s1 := kc3 k1 s0
      clear s0 KA k1
      go_wp2_with fail
      go_ret
      exact ⟨rfl, s1.2.2.2⟩

theorem spB_inCol (m : Nat) (x : Int) : spB 0 ((m : Int) - 1) x = inCol m x := by
  unfold spB inCol
  congr 1
  rw [Bool.eq_iff_iff]
  simp
  omega
set_option maxRecDepth 100000 in
set_option maxHeartbeats 4000000 in
theorem kAsked_any (c r : Value) (d : Int) (co : List (Int × Int)) (rs : List (List Int)) (x : Int) (w : World) (h : CtAt w c r co rs) :
    Calls Tryd.prog 26 #[cv c d r, .int .i64 x] w fun e w' => e = .returned (.bool (tabOk co d rs && inCol co.length x)) ∧ Kp w w' := by
  obtain ⟨A, c1, ec, hA⟩ := h.rc
  obtain ⟨B, c2, vs, er, hvs, hB, hI⟩ := h.rr
  obtain ⟨m, hm⟩ : ∃ m, co.length = m := ⟨_, rfl⟩
  obtain ⟨n, hn⟩ : ∃ n, rs.length = n := ⟨_, rfl⟩
  rw [hm] at ec hA
  rw [hn] at er hvs hB
  subst ec er
  have HL := Lib.hid h
  have HA := Lib.hid hA
  have HB := Lib.hid hB
  have HI := Lib.hid hI
  have HV := Lib.hid hvs
  have HM := Lib.hid hm
  have HN := Lib.hid hn
  have hmb : m ≤ 1048576 := by have := h.bc; omega
  have hnb : n ≤ 1048576 := by have := h.br; omega
  obtain ⟨Q, hQ⟩ : ∃ Q, Q = (tabOk co d rs && inCol co.length x) := ⟨_, rfl⟩
  rw [← hQ]
  rw [hm] at hQ
  have HQ := Lib.hid hQ
  have KA : Kp w (w.alloc (.cells #[.slice A m c1, .int .i64 d, .slice B n c2] 26)) := (Kp.refl w).alloc _
  have s0 : (w.alloc (.cells #[.slice A m c1, .int .i64 d, .slice B n c2] 26)).cell? ⟨w.heap.size, 0, none⟩ = some (.slice A m c1) ∧ (w.alloc (.cells #[.slice A m c1, .int .i64 d, .slice B n c2] 26)).cell? ⟨w.heap.size, 1, none⟩ = some (.int .i64 d) ∧ (w.alloc (.cells #[.slice A m c1, .int .i64 d, .slice B n c2] 26)).cell? ⟨w.heap.size, 2, none⟩ = some (.slice B n c2) ∧ Kp w (w.alloc (.cells #[.slice A m c1, .int .i64 d, .slice B n c2] 26)) := ⟨by simp [go_sem], by simp [go_sem], by simp [go_sem], KA⟩
  have C1 := Lib.hid (kGood_any _ _ d co rs (w.alloc (.cells #[.slice A m c1, .int .i64 d, .slice B n c2] 26)) (h.keep KA))
  clear h hvs hA hB hI hm hn hQ
  have CI := Lib.hid (fun w => l1In_sp x 0 ((m : Int) - 1) w)
  rw [spB_inCol] at CI
  cases hc : tabOk co d rs
  · obtain rfl : Q = false := by rw [HQ.out, hc]; rfl
    rw [hc] at C1
    go_enter Tryd.func26, Tryd.ntmps26
    go_wp2_with fail
    refine C1.out.mono ?_
    rintro e1 w1 ⟨rfl, k1⟩
    go_wp2_with fail
    go_ret
    exact ⟨rfl, KA.trans k1⟩
  · rw [hc] at C1
    obtain rfl : Q = inCol m x := by rw [HQ.out, hc]; rfl
    go_enter Tryd.func26, Tryd.ntmps26
    go_wp2_with fail
    refine C1.out.mono ?_
    rintro e1 w1 ⟨rfl, k1⟩
    have s1 := kc3 k1 s0
    clear s0 KA k1
    go_wp2_with fail
    refine (CI.out _).mono ?_
    rintro e2 w2 ⟨rfl, rfl⟩
    go_wp2_with fail
    go_ret
    exact ⟨rfl, s1.2.2.2⟩


theorem ib_ret {q X : Int} (h : X = q) : Ending.returned (.tuple #[.int .i64 q, .bool true]) = .returned (ib true X) := by
  subst h
  rfl
theorem colI_succ {co : List (Int × Int)} {a b : Int} {k : Nat} {x : Int × Int} (h : co[k]? = some x) : colI co a b (k + 1) = if witB a b x = true then k else colI co a b k := by
  have e : co.getD k (0, 0) = x := by simp [List.getD, h]
  rw [colI, e]

end Go.Proofs.YtjpfmckoodalnaaDoor
