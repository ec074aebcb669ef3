/-
  Columns, shifts, results and scores of combat tables, as the program and as the reference tell. Nothing that was there is changed.
-/
import Derived.Test.YtcdfbcmfpeceeaaDoorTbS
import Derived.Test.YtcdfbcmfpeceeaaDoorTabO
namespace Go.Proofs.YtcdfbcmfpeceeaaDoor
open Go.RowKit

theorem kScore_any (n : Int) (w : World) (h : 0 ≤ n) (h' : n ≤ 7) :
    Calls Tryd.prog 56 #[.int .i64 n] w fun e w' => e = .returned (.int .i64 (scoI n)) ∧ w = w' := by
  by_cases h7 : n = 7
  · subst h7
    go_enter Tryd.func56, Tryd.ntmps56
    go_wp2
    go_ret
    exact ⟨rfl, rfl⟩
  · have e7 : ((n : Int) == 7) = false := by simpa using h7
    by_cases h4 : 4 ≤ n
    · go_enter Tryd.func56, Tryd.ntmps56
      go_wp2
      go_ret
      exact ⟨ret_int (by unfold scoI; rw [if_neg h7, if_pos h4]), rfl⟩
    · go_enter Tryd.func56, Tryd.ntmps56
      go_wp2
      go_ret
      exact ⟨ret_int (by unfold scoI; rw [if_neg h7, if_neg (by omega)]), rfl⟩
theorem scoI_bd (n : Int) (h : 0 ≤ n) (h' : n ≤ 7) : -3 ≤ scoI n ∧ scoI n ≤ 3 := by
  unfold scoI
  split
  · omega
  · split <;> omega

theorem scoreOf_any (n : Int) (w : World) (hs : TbR w) :
    Calls Tryd.prog 27 #[.int .i64 n] w fun e w' => e = .returned (ib (spB 0 7 n) (scoI n)) ∧ Kp w w' := by
  have p0 := hs.result.1
  have p1 := hs.result.2
  have HS := Lib.hid hs
  clear hs
  cases h : spB 0 7 n
  · go_enter Tryd.func27, Tryd.ntmps27
    go_wp2_with fail
    refine (has_any _ _ _ _).mono ?_
    rintro e w1 ⟨rfl, k1⟩
    go_wp2_with fail
    go_ret2
    exact ⟨rfl, k1⟩
  · obtain ⟨h1, h2⟩ := spB_true h
    obtain ⟨j, rfl⟩ : ∃ j : Nat, n = j := ⟨n.toNat, by omega⟩
    have a0 := HS.out.sco j (by omega)
    go_enter Tryd.func27, Tryd.ntmps27
    go_wp2_with fail
    refine (has_any _ _ _ _).mono ?_
    rintro e w1 ⟨rfl, k1⟩
    have a1 := k1.cell a0
    clear a0 p0 p1
    go_wp2_with fail
    go_ret2
    exact ⟨rfl, k1⟩
theorem specScoreOf_any (n : Int) (w : World) :
    Calls Tryd.prog 42 #[.int .i64 n] w fun e w' => e = .returned (ib (spB 0 7 n) (scoI n)) ∧ w = w' := by
  cases h : spB 0 7 n
  · go_enter Tryd.func42, Tryd.ntmps42
    go_wp2_with fail
    refine (l1In_sp _ _ _ _).mono ?_
    rintro e w1 ⟨rfl, rfl⟩
    go_wp2_with fail
    go_ret2
    exact ⟨rfl, rfl⟩
  · obtain ⟨h1, h2⟩ := spB_true h
    go_enter Tryd.func42, Tryd.ntmps42
    go_wp2_with fail
    refine (l1In_sp _ _ _ _).mono ?_
    rintro e w1 ⟨rfl, rfl⟩
    go_wp2_with fail
    refine (kScore_any _ _ h1 h2).mono ?_
    rintro e w1 ⟨rfl, rfl⟩
    go_wp2_with fail
    go_ret2
    exact ⟨rfl, rfl⟩

set_option maxRecDepth 100000 in
set_option maxHeartbeats 4000000 in
theorem isColumnOf_any (c r : Value) (d : Int) (co : List (Int × Int)) (rs : List (List Int)) (x : Int) (w : World) (h : CtAt w c r co rs) (hs : TbSp w) :
    Calls Tryd.prog 60 #[cv c d r, .int .i64 x] w fun e w' => e = .returned (.bool (tabOk co d rs && inCol co.length x)) ∧ Kp w w' := by
  obtain ⟨A, c1, ec, hA⟩ := h.rc
  obtain ⟨B, c2, vs, er, hvs, hB, hI⟩ := h.rr
  obtain ⟨m, hm⟩ : ∃ m, co.length = m := ⟨_, rfl⟩
  obtain ⟨n, hn⟩ : ∃ n, rs.length = n := ⟨_, rfl⟩
  rw [hm] at ec hA
  rw [hn] at er hvs hB
  subst ec er
  have HL := Lib.hid h
  have HA := Lib.hid hA
  have HB := Lib.hid hB
  have HI := Lib.hid hI
  have HV := Lib.hid hvs
  have HM := Lib.hid hm
  have HN := Lib.hid hn
  have hmb : m ≤ 1048576 := by have := h.bc; omega
  have hnb : n ≤ 1048576 := by have := h.br; omega
  have HS := Lib.hid hs
  obtain ⟨Q, hQ⟩ : ∃ Q, Q = (tabOk co d rs && inCol co.length x) := ⟨_, rfl⟩
  rw [← hQ]
  rw [hm] at hQ
  have HQ := Lib.hid hQ
  have KA : Kp w (w.alloc (.cells #[.slice A m c1, .int .i64 d, .slice B n c2] 26)) := (Kp.refl w).alloc _
  have s0 : (w.alloc (.cells #[.slice A m c1, .int .i64 d, .slice B n c2] 26)).cell? ⟨w.heap.size, 0, none⟩ = some (.slice A m c1) ∧ (w.alloc (.cells #[.slice A m c1, .int .i64 d, .slice B n c2] 26)).cell? ⟨w.heap.size, 1, none⟩ = some (.int .i64 d) ∧ (w.alloc (.cells #[.slice A m c1, .int .i64 d, .slice B n c2] 26)).cell? ⟨w.heap.size, 2, none⟩ = some (.slice B n c2) ∧ Kp w (w.alloc (.cells #[.slice A m c1, .int .i64 d, .slice B n c2] 26)) := ⟨by simp [go_sem], by simp [go_sem], by simp [go_sem], KA⟩
  have C1 := Lib.hid (isCombatTable_any _ _ d co rs (w.alloc (.cells #[.slice A m c1, .int .i64 d, .slice B n c2] 26)) (h.keep KA) (hs.keep KA))
  clear h hs hvs hA hB hI hm hn hQ
  cases hc : tabOk co d rs
  · obtain rfl : Q = false := by rw [HQ.out, hc]; rfl
    rw [hc] at C1
    go_enter Tryd.func60, Tryd.ntmps60
    go_wp2_with fail
    refine C1.out.mono ?_
    rintro e1 w1 ⟨rfl, k1⟩
    go_wp2_with fail
    go_ret
    exact ⟨rfl, KA.trans k1⟩
  · rw [hc] at C1
    by_cases hx : 0 ≤ x
    · have hQ2 : Q = decide (x < (m : Int)) := by rw [HQ.out, hc]; simp [inCol, hx]
      subst hQ2
      go_enter Tryd.func60, Tryd.ntmps60
      go_wp2_with fail
      refine C1.out.mono ?_
      rintro e1 w1 ⟨rfl, k1⟩
      have s1 := kc3 k1 s0
      clear s0 KA k1
      go_wp2_with fail
      go_ret
      exact ⟨rfl, s1.2.2.2⟩
    · have hx' : decide (0 ≤ x) = false := by simpa using hx
      obtain rfl : Q = false := by rw [HQ.out, inCol, hx']; simp
      go_enter Tryd.func60, Tryd.ntmps60
      go_wp2_with fail
      refine C1.out.mono ?_
      rintro e1 w1 ⟨rfl, k1⟩
      have s1 := kc3 k1 s0
      clear s0 KA k1
      go_wp2_with fail
      go_ret
      exact ⟨rfl, s1.2.2.2⟩

theorem spB_inCol (m : Nat) (x : Int) : spB 0 ((m : Int) - 1) x = inCol m x := by
  unfold spB inCol
  congr 1
  rw [Bool.eq_iff_iff]
  simp
  omega
set_option maxRecDepth 100000 in
set_option maxHeartbeats 4000000 in
theorem kAsked_any (c r : Value) (d : Int) (co : List (Int × Int)) (rs : List (List Int)) (x : Int) (w : World) (h : CtAt w c r co rs) :
    Calls Tryd.prog 62 #[cv c d r, .int .i64 x] w fun e w' => e = .returned (.bool (tabOk co d rs && inCol co.length x)) ∧ Kp w w' := by
  obtain ⟨A, c1, ec, hA⟩ := h.rc
  obtain ⟨B, c2, vs, er, hvs, hB, hI⟩ := h.rr
  obtain ⟨m, hm⟩ : ∃ m, co.length = m := ⟨_, rfl⟩
  obtain ⟨n, hn⟩ : ∃ n, rs.length = n := ⟨_, rfl⟩
  rw [hm] at ec hA
  rw [hn] at er hvs hB
  subst ec er
  have HL := Lib.hid h
  have HA := Lib.hid hA
  have HB := Lib.hid hB
  have HI := Lib.hid hI
  have HV := Lib.hid hvs
  have HM := Lib.hid hm
  have HN := Lib.hid hn
  have hmb : m ≤ 1048576 := by have := h.bc; omega
  have hnb : n ≤ 1048576 := by have := h.br; omega
  obtain ⟨Q, hQ⟩ : ∃ Q, Q = (tabOk co d rs && inCol co.length x) := ⟨_, rfl⟩
  rw [← hQ]
  rw [hm] at hQ
  have HQ := Lib.hid hQ
  have KA : Kp w (w.alloc (.cells #[.slice A m c1, .int .i64 d, .slice B n c2] 26)) := (Kp.refl w).alloc _
  have s0 : (w.alloc (.cells #[.slice A m c1, .int .i64 d, .slice B n c2] 26)).cell? ⟨w.heap.size, 0, none⟩ = some (.slice A m c1) ∧ (w.alloc (.cells #[.slice A m c1, .int .i64 d, .slice B n c2] 26)).cell? ⟨w.heap.size, 1, none⟩ = some (.int .i64 d) ∧ (w.alloc (.cells #[.slice A m c1, .int .i64 d, .slice B n c2] 26)).cell? ⟨w.heap.size, 2, none⟩ = some (.slice B n c2) ∧ Kp w (w.alloc (.cells #[.slice A m c1, .int .i64 d, .slice B n c2] 26)) := ⟨by simp [go_sem], by simp [go_sem], by simp [go_sem], KA⟩
  have C1 := Lib.hid (kGood_any _ _ d co rs (w.alloc (.cells #[.slice A m c1, .int .i64 d, .slice B n c2] 26)) (h.keep KA))
  clear h hvs hA hB hI hm hn hQ
  have CI := Lib.hid (fun w => l1In_sp x 0 ((m : Int) - 1) w)
  rw [spB_inCol] at CI
  cases hc : tabOk co d rs
  · obtain rfl : Q = false := by rw [HQ.out, hc]; rfl
    rw [hc] at C1
    go_enter Tryd.func62, Tryd.ntmps62
    go_wp2_with fail
    refine C1.out.mono ?_
    rintro e1 w1 ⟨rfl, k1⟩
    go_wp2_with fail
    go_ret
    exact ⟨rfl, KA.trans k1⟩
  · rw [hc] at C1
    obtain rfl : Q = inCol m x := by rw [HQ.out, hc]; rfl
    go_enter Tryd.func62, Tryd.ntmps62
    go_wp2_with fail
    refine C1.out.mono ?_
    rintro e1 w1 ⟨rfl, k1⟩
    have s1 := kc3 k1 s0
    clear s0 KA k1
    go_wp2_with fail
    refine (CI.out _).mono ?_
    rintro e2 w2 ⟨rfl, rfl⟩
    go_wp2_with fail
    go_ret
    exact ⟨rfl, s1.2.2.2⟩


theorem ib_ret {q X : Int} (h : X = q) : Ending.returned (.tuple #[.int .i64 q, .bool true]) = .returned (ib true X) := by
  subst h
  rfl
theorem colI_succ {co : List (Int × Int)} {a b : Int} {k : Nat} {x : Int × Int} (h : co[k]? = some x) : colI co a b (k + 1) = if witB a b x = true then k else colI co a b k := by
  have e : co.getD k (0, 0) = x := by simp [List.getD, h]
  rw [colI, e]

set_option maxRecDepth 100000 in
set_option maxHeartbeats 4000000 in
theorem columnFor_any (c r : Value) (d : Int) (co : List (Int × Int)) (rs : List (List Int)) (a b : Int) (w : World) (h : CtAt w c r co rs) (hs : TbF w) :
    Calls Tryd.prog 41 #[cv c d r, .int .i64 a, .int .i64 b] w fun e w' => e = .returned (ib (tabOk co d rs && (spB 0 1000 a && spB 0 1000 b)) (colI co a b co.length)) ∧ Kp w w' := by
  obtain ⟨A, c1, ec, hA⟩ := h.rc
  obtain ⟨B, c2, vs, er, hvs, hB, hI⟩ := h.rr
  obtain ⟨m, hm⟩ : ∃ m, co.length = m := ⟨_, rfl⟩
  obtain ⟨n, hn⟩ : ∃ n, rs.length = n := ⟨_, rfl⟩
  rw [hm] at ec hA
  rw [hn] at er hvs hB
  subst ec er
  have HL := Lib.hid h
  have HA := Lib.hid hA
  have HB := Lib.hid hB
  have HI := Lib.hid hI
  have HV := Lib.hid hvs
  have HM := Lib.hid hm
  have HN := Lib.hid hn
  have hmb : m ≤ 1048576 := by have := h.bc; omega
  have hnb : n ≤ 1048576 := by have := h.br; omega
  have HS := Lib.hid hs
  obtain ⟨Q, hQ⟩ : ∃ Q, Q = (tabOk co d rs && (spB 0 1000 a && spB 0 1000 b)) := ⟨_, rfl⟩
  rw [← hQ]
  skip
  have HQ := Lib.hid hQ
  obtain ⟨X, hX⟩ : ∃ X : Int, X = ((colI co a b co.length : Nat)) := ⟨_, rfl⟩
  rw [← hX]
  rw [hm] at hX
  have HX := Lib.hid hX
  have KA : Kp w (w.alloc (.cells #[.slice A m c1, .int .i64 d, .slice B n c2] 26)) := (Kp.refl w).alloc _
  have s0 : (w.alloc (.cells #[.slice A m c1, .int .i64 d, .slice B n c2] 26)).cell? ⟨w.heap.size, 0, none⟩ = some (.slice A m c1) ∧ (w.alloc (.cells #[.slice A m c1, .int .i64 d, .slice B n c2] 26)).cell? ⟨w.heap.size, 1, none⟩ = some (.int .i64 d) ∧ (w.alloc (.cells #[.slice A m c1, .int .i64 d, .slice B n c2] 26)).cell? ⟨w.heap.size, 2, none⟩ = some (.slice B n c2) ∧ Kp w (w.alloc (.cells #[.slice A m c1, .int .i64 d, .slice B n c2] 26)) := ⟨by simp [go_sem], by simp [go_sem], by simp [go_sem], KA⟩
  have C1 := Lib.hid (isCombatTable_any _ _ d co rs (w.alloc (.cells #[.slice A m c1, .int .i64 d, .slice B n c2] 26)) (h.keep KA) (hs.keep KA).t)
  clear h hs hvs hA hB hI hm hn hQ hX
  cases hc : tabOk co d rs
  · obtain rfl : Q = false := by rw [HQ.out, hc]; rfl
    rw [hc] at C1
    go_enter Tryd.func41, Tryd.ntmps41
    go_wp2_with fail
    refine C1.out.mono ?_
    rintro e1 w1 ⟨rfl, k1⟩
    go_wp2_with fail
    go_ret2
    exact ⟨rfl, KA.trans k1⟩
  · rw [hc] at C1
    have HOK := Lib.hid hc
    cases ha : spB 0 1000 a
    · obtain rfl : Q = false := by rw [HQ.out, ha]; simp
      clear hc
      go_enter Tryd.func41, Tryd.ntmps41
      go_wp2_with fail
      refine C1.out.mono ?_
      rintro e1 w1 ⟨rfl, k1⟩
      have s1 := kc3 k1 s0
      have p0 := (HS.out.keep s1.2.2.2).force.1
      have p1 := (HS.out.keep s1.2.2.2).force.2
      clear s0 KA k1
      go_wp2_with fail
      refine (has_any _ _ _ _).mono ?_
      rintro e2 w2 ⟨rfl, k2⟩
      go_wp2_with fail
      go_ret2
      exact ⟨rfl, s1.2.2.2.trans k2⟩
    · cases hb : spB 0 1000 b
      · obtain rfl : Q = false := by rw [HQ.out, hb]; simp
        clear hc
        go_enter Tryd.func41, Tryd.ntmps41
        go_wp2_with fail
        refine C1.out.mono ?_
        rintro e1 w1 ⟨rfl, k1⟩
        have s1 := kc3 k1 s0
        have p0 := (HS.out.keep s1.2.2.2).force.1
        have p1 := (HS.out.keep s1.2.2.2).force.2
        clear s0 KA k1
        go_wp2_with fail
        refine (has_any _ _ _ _).mono ?_
        rintro e2 w2 ⟨rfl, k2⟩
        have s2 := kc3 k2 s1
        have q0 := k2.cell p0
        have q1 := k2.cell p1
        clear p0 p1
        clear s1 k2
        go_wp2_with fail
        refine (has_any _ _ _ _).mono ?_
        rintro e3 w3 ⟨rfl, k3⟩
        go_wp2_with fail
        go_ret2
        exact ⟨rfl, s2.2.2.2.trans k3⟩
      · obtain rfl : Q = true := by rw [HQ.out, hc, ha, hb]; rfl
        obtain ⟨ha1, ha2⟩ := spB_true ha
        obtain ⟨hb1, hb2⟩ := spB_true hb
        clear hc
        go_enter Tryd.func41, Tryd.ntmps41
        go_wp2_with fail
        refine C1.out.mono ?_
        rintro e1 w1 ⟨rfl, k1⟩
        have s1 := kc3 k1 s0
        have p0 := (HS.out.keep s1.2.2.2).force.1
        have p1 := (HS.out.keep s1.2.2.2).force.2
        clear s0 KA k1
        go_wp2_with fail
        refine (has_any _ _ _ _).mono ?_
        rintro e2 w2 ⟨rfl, k2⟩
        have s2 := kc3 k2 s1
        have q0 := k2.cell p0
        have q1 := k2.cell p1
        clear p0 p1
        clear s1 k2
        go_wp2_with fail
        refine (has_any _ _ _ _).mono ?_
        rintro e3 w3 ⟨rfl, k3⟩
        have s3 := kc3 k3 s2
        clear s2 k3
        go_wp2_with fail
        clear q0 q1
        go_loopw [8, 9, 10, 29] (fun v _ _ i wr => ∃ k q : Nat, k ≤ m ∧ i = .int .i64 k ∧ v = .int .i64 q ∧ Hid (colI co a b k = q) ∧ wr.cell? ⟨w.heap.size, 0, none⟩ = some (.slice A m c1) ∧ wr.cell? ⟨w.heap.size, 1, none⟩ = some (.int .i64 d) ∧ wr.cell? ⟨w.heap.size, 2, none⟩ = some (.slice B n c2) ∧ Kp w wr) (fun _ _ _ i _ => m - (intOf i).toNat)
        case atStart => exact ⟨0, 0, by omega, rfl, rfl, Lib.hid rfl, s3⟩
        case round =>
          clear s3
          obtain ⟨k, q, hk, rfl, rfl, hE, sr⟩ := hrel
          by_cases hlt : k < m
          · have hlt' : (k : Int) < m := by omega
            obtain ⟨g, off, rfl, hcl⟩ := HA.out (by omega)
            obtain ⟨z, hx⟩ : ∃ x, co[k]? = some x := ⟨co[k]'(by have := HM.out; omega), List.getElem?_eq_getElem _⟩
            have kr := sr.2.2.2
            have a0 := kr.cell (hcl k z hx).1
            have a1 := kr.cell (hcl k z hx).2
            have hbd := tabOk_col HOK.out hx
            have HC := Lib.hid (colI_succ (a := a) (b := b) hx)
            obtain ⟨x, y⟩ := z
            simp only at a0 a1 hbd
            have KX : Kp wr (wr.alloc (.cells #[.int .i64 x, .int .i64 y] 101)) := (Kp.refl wr).alloc _
            clear hcl hx
            cases hw : witB a b (x, y)
            · have HE2 : Hid (colI co a b (k + 1) = q) := Lib.hid (by rw [HC.out, hw]; simpa using hE.out)
              clear HC
              go_wp2_with fail
              refine (isWithin_any x y a b _ hbd ha1 ha2 hb1 hb2).mono ?_
              rintro e5 w5 ⟨rfl, k5⟩
              go_wp2_with fail
              go_roundw
              case rel => exact ⟨k + 1, q, by omega, by go_num, rfl, HE2, kc3 (KX.trans k5) sr⟩
              case measure => simp [intOf]; omega
            · have HE2 : Hid (colI co a b (k + 1) = k) := Lib.hid (by rw [HC.out, hw]; rfl)
              clear HC
              go_wp2_with fail
              refine (isWithin_any x y a b _ hbd ha1 ha2 hb1 hb2).mono ?_
              rintro e5 w5 ⟨rfl, k5⟩
              go_wp2_with fail
              go_roundw
              case rel => exact ⟨k + 1, k, by omega, by go_num, rfl, HE2, kc3 (KX.trans k5) sr⟩
              case measure => simp [intOf]; omega
          · obtain rfl : k = m := by omega
            go_wp2_with fail
            go_ret2
            exact ⟨ib_ret (by rw [HX.out, hE.out]), sr.2.2.2⟩

set_option maxRecDepth 100000 in
set_option maxHeartbeats 4000000 in
theorem kColumn_any (c r : Value) (d : Int) (co : List (Int × Int)) (rs : List (List Int)) (a b : Int) (w : World) (h : CtAt w c r co rs) (hok : tabOk co d rs = true) (ha1 : 0 ≤ a) (ha2 : a ≤ 1000) (hb1 : 0 ≤ b) (hb2 : b ≤ 1000) :
    Calls Tryd.prog 86 #[cv c d r, .int .i64 a, .int .i64 b] w fun e w' => e = .returned (.int .i64 (colI co a b co.length : Nat)) ∧ Kp w w' := by
  obtain ⟨A, c1, ec, hA⟩ := h.rc
  obtain ⟨B, c2, vs, er, hvs, hB, hI⟩ := h.rr
  obtain ⟨m, hm⟩ : ∃ m, co.length = m := ⟨_, rfl⟩
  obtain ⟨n, hn⟩ : ∃ n, rs.length = n := ⟨_, rfl⟩
  rw [hm] at ec hA
  rw [hn] at er hvs hB
  subst ec er
  have HL := Lib.hid h
  have HA := Lib.hid hA
  have HB := Lib.hid hB
  have HI := Lib.hid hI
  have HV := Lib.hid hvs
  have HM := Lib.hid hm
  have HN := Lib.hid hn
  have hmb : m ≤ 1048576 := by have := h.bc; omega
  have hnb : n ≤ 1048576 := by have := h.br; omega
  have HOK := Lib.hid hok
  obtain ⟨X, hX⟩ : ∃ X : Int, X = (colI co a b co.length : Nat) := ⟨_, rfl⟩
  rw [← hX]
  rw [hm] at hX
  have HX := Lib.hid hX
  have KA : Kp w (w.alloc (.cells #[.slice A m c1, .int .i64 d, .slice B n c2] 26)) := (Kp.refl w).alloc _
  have s0 : (w.alloc (.cells #[.slice A m c1, .int .i64 d, .slice B n c2] 26)).cell? ⟨w.heap.size, 0, none⟩ = some (.slice A m c1) ∧ (w.alloc (.cells #[.slice A m c1, .int .i64 d, .slice B n c2] 26)).cell? ⟨w.heap.size, 1, none⟩ = some (.int .i64 d) ∧ (w.alloc (.cells #[.slice A m c1, .int .i64 d, .slice B n c2] 26)).cell? ⟨w.heap.size, 2, none⟩ = some (.slice B n c2) ∧ Kp w (w.alloc (.cells #[.slice A m c1, .int .i64 d, .slice B n c2] 26)) := ⟨by simp [go_sem], by simp [go_sem], by simp [go_sem], KA⟩
  clear h hok hvs hA hB hI hm hn hX KA
  go_enter Tryd.func86, Tryd.ntmps86
  go_wp2_with fail
  generalize (w.alloc (.cells #[.slice A m c1, .int .i64 d, .slice B n c2] 26)) = W0 at *
  go_loopw [7, 8, 9, 13] (fun v _ _ i wr => ∃ k q : Nat, k ≤ m ∧ i = .int .i64 k ∧ v = .int .i64 q ∧ Hid (colI co a b k = q) ∧ wr.cell? ⟨w.heap.size, 0, none⟩ = some (.slice A m c1) ∧ wr.cell? ⟨w.heap.size, 1, none⟩ = some (.int .i64 d) ∧ wr.cell? ⟨w.heap.size, 2, none⟩ = some (.slice B n c2) ∧ Kp w wr) (fun _ _ _ i _ => m - (intOf i).toNat)
  case atStart => exact ⟨0, 0, by omega, rfl, rfl, Lib.hid rfl, s0⟩
  case round =>
    clear s0
    obtain ⟨k, q, hk, rfl, rfl, hE, sr⟩ := hrel
    by_cases hlt : k < m
    · have hlt' : (k : Int) < m := by omega
      obtain ⟨g, off, rfl, hcl⟩ := HA.out (by omega)
      obtain ⟨z, hx⟩ : ∃ x, co[k]? = some x := ⟨co[k]'(by have := HM.out; omega), List.getElem?_eq_getElem _⟩
      have kr := sr.2.2.2
      have a0 := kr.cell (hcl k z hx).1
      have a1 := kr.cell (hcl k z hx).2
      have hbd := tabOk_col HOK.out hx
      have HC := Lib.hid (colI_succ (a := a) (b := b) hx)
      obtain ⟨x, y⟩ := z
      simp only at a0 a1 hbd
      obtain ⟨m1, m2⟩ := mul_bd20 (a := a) (b := y) (m := 1000) (n := 20) (by omega) (by omega) (by omega) (by omega) (by omega)
      obtain ⟨m3, m4⟩ := mul_bd20 (a := b) (b := x) (m := 1000) (n := 20) (by omega) (by omega) (by omega) (by omega) (by omega)
      have KX : Kp wr (wr.alloc (.cells #[.int .i64 x, .int .i64 y] 101)) := (Kp.refl wr).alloc _
      clear hcl hx hbd
      by_cases hw : b * x ≤ a * y
      · have HE2 : Hid (colI co a b (k + 1) = k) := Lib.hid (by rw [HC.out, if_pos (by simpa [witB] using hw)])
        clear HC
        go_wp2_with fail
        go_roundw
        case rel => exact ⟨k + 1, k, by omega, by go_num, rfl, HE2, kc3 KX sr⟩
        case measure => simp [intOf]; omega
      · have HE2 : Hid (colI co a b (k + 1) = q) := Lib.hid (by rw [HC.out, if_neg (by simpa [witB] using hw)]; exact hE.out)
        clear HC
        go_wp2_with fail
        go_roundw
        case rel => exact ⟨k + 1, q, by omega, by go_num, rfl, HE2, kc3 KX sr⟩
        case measure => simp [intOf]; omega
    · obtain rfl : k = m := by omega
      go_wp2_with fail
      go_ret
      exact ⟨ret_int (by rw [HX.out, hE.out]), sr.2.2.2⟩

set_option maxRecDepth 100000 in
set_option maxHeartbeats 4000000 in
theorem specColumnFor_any (c r : Value) (d : Int) (co : List (Int × Int)) (rs : List (List Int)) (a b : Int) (w : World) (h : CtAt w c r co rs) :
    Calls Tryd.prog 40 #[cv c d r, .int .i64 a, .int .i64 b] w fun e w' => e = .returned (ib (tabOk co d rs && (spB 0 1000 a && spB 0 1000 b)) (colI co a b co.length)) ∧ Kp w w' := by
  obtain ⟨A, c1, ec, hA⟩ := h.rc
  obtain ⟨B, c2, vs, er, hvs, hB, hI⟩ := h.rr
  obtain ⟨m, hm⟩ : ∃ m, co.length = m := ⟨_, rfl⟩
  obtain ⟨n, hn⟩ : ∃ n, rs.length = n := ⟨_, rfl⟩
  rw [hm] at ec hA
  rw [hn] at er hvs hB
  subst ec er
  have HL := Lib.hid h
  have HA := Lib.hid hA
  have HB := Lib.hid hB
  have HI := Lib.hid hI
  have HV := Lib.hid hvs
  have HM := Lib.hid hm
  have HN := Lib.hid hn
  have hmb : m ≤ 1048576 := by have := h.bc; omega
  have hnb : n ≤ 1048576 := by have := h.br; omega
  obtain ⟨Q, hQ⟩ : ∃ Q, Q = (tabOk co d rs && (spB 0 1000 a && spB 0 1000 b)) := ⟨_, rfl⟩
  rw [← hQ]
  skip
  have HQ := Lib.hid hQ
  obtain ⟨X, hX⟩ : ∃ X : Int, X = ((colI co a b co.length : Nat)) := ⟨_, rfl⟩
  rw [← hX]
  have HX := Lib.hid hX
  have KA : Kp w (w.alloc (.cells #[.slice A m c1, .int .i64 d, .slice B n c2] 26)) := (Kp.refl w).alloc _
  have s0 : (w.alloc (.cells #[.slice A m c1, .int .i64 d, .slice B n c2] 26)).cell? ⟨w.heap.size, 0, none⟩ = some (.slice A m c1) ∧ (w.alloc (.cells #[.slice A m c1, .int .i64 d, .slice B n c2] 26)).cell? ⟨w.heap.size, 1, none⟩ = some (.int .i64 d) ∧ (w.alloc (.cells #[.slice A m c1, .int .i64 d, .slice B n c2] 26)).cell? ⟨w.heap.size, 2, none⟩ = some (.slice B n c2) ∧ Kp w (w.alloc (.cells #[.slice A m c1, .int .i64 d, .slice B n c2] 26)) := ⟨by simp [go_sem], by simp [go_sem], by simp [go_sem], KA⟩
  have C1 := Lib.hid (kGood_any _ _ d co rs (w.alloc (.cells #[.slice A m c1, .int .i64 d, .slice B n c2] 26)) (h.keep KA))
  have HS3 := Lib.hid (fun w' (k : Kp w w') (hok : tabOk co d rs = true) h1 h2 h3 h4 => kColumn_any _ _ d co rs a b w' (h.keep k) hok h1 h2 h3 h4)
  rw [← hX] at HS3
  clear h hvs hA hB hI hm hn hQ hX
  cases hc : tabOk co d rs
  · obtain rfl : Q = false := by rw [HQ.out, hc]; rfl
    rw [hc] at C1
    go_enter Tryd.func40, Tryd.ntmps40
    go_wp2_with fail
    refine C1.out.mono ?_
    rintro e1 w1 ⟨rfl, k1⟩
    go_wp2_with fail
    go_ret2
    exact ⟨rfl, KA.trans k1⟩
  · rw [hc] at C1
    have HOK := Lib.hid hc
    cases ha : spB 0 1000 a
    · obtain rfl : Q = false := by rw [HQ.out, ha]; simp
      clear hc
      go_enter Tryd.func40, Tryd.ntmps40
      go_wp2_with fail
      refine C1.out.mono ?_
      rintro e1 w1 ⟨rfl, k1⟩
      have s1 := kc3 k1 s0
      clear s0 KA k1
      go_wp2_with fail
      refine (l1In_sp _ _ _ _).mono ?_
      rintro e2 w2 ⟨rfl, rfl⟩
      go_wp2_with fail
      go_ret2
      exact ⟨rfl, s1.2.2.2⟩
    · cases hb : spB 0 1000 b
      · obtain rfl : Q = false := by rw [HQ.out, hb]; simp
        clear hc
        go_enter Tryd.func40, Tryd.ntmps40
        go_wp2_with fail
        refine C1.out.mono ?_
        rintro e1 w1 ⟨rfl, k1⟩
        have s1 := kc3 k1 s0
        clear s0 KA k1
        go_wp2_with fail
        refine (l1In_sp _ _ _ _).mono ?_
        rintro e2 w2 ⟨rfl, rfl⟩
        go_wp2_with fail
        refine (l1In_sp _ _ _ _).mono ?_
        rintro e3 w3 ⟨rfl, rfl⟩
        go_wp2_with fail
        go_ret2
        exact ⟨rfl, s1.2.2.2⟩
      · obtain rfl : Q = true := by rw [HQ.out, hc, ha, hb]; rfl
        obtain ⟨ha1, ha2⟩ := spB_true ha
        obtain ⟨hb1, hb2⟩ := spB_true hb
        clear hc
        go_enter Tryd.func40, Tryd.ntmps40
        go_wp2_with fail
        refine C1.out.mono ?_
        rintro e1 w1 ⟨rfl, k1⟩
        have s1 := kc3 k1 s0
        clear s0 KA k1
        go_wp2_with fail
        refine (l1In_sp _ _ _ _).mono ?_
        rintro e2 w2 ⟨rfl, rfl⟩
        go_wp2_with fail
        refine (l1In_sp _ _ _ _).mono ?_
        rintro e3 w3 ⟨rfl, rfl⟩
        go_wp2_with fail
        refine (HS3.out _ s1.2.2.2 HOK.out ha1 ha2 hb1 hb2).mono ?_
        rintro e4 w4 ⟨rfl, k4⟩
        go_wp2_with fail
        go_ret2
        exact ⟨rfl, s1.2.2.2.trans k4⟩

end Go.Proofs.YtcdfbcmfpeceeaaDoor
