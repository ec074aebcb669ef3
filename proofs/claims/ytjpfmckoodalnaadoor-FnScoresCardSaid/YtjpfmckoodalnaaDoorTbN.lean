/-
  Monotony of combat tables, as the program and as the reference tell. Nothing that was there is changed.
-/
import Derived.Test.YtjpfmckoodalnaaDoorTbK
namespace Go.Proofs.YtjpfmckoodalnaaDoor
open Go.RowKit

def sAt (rs : List (List Int)) (i j : Nat) : Int := scoI ((rs.getD i []).getD j 0)
def monF (rs : List (List Int)) (i j : Nat) : Bool := (decide (j = 0) || decide (sAt rs i (j - 1) ≤ sAt rs i j)) && (decide (i = 0) || decide (sAt rs (i - 1) j ≤ sAt rs i j))
def monR (rs : List (List Int)) (m i : Nat) : Bool := allN m (monF rs i)
def monB (rs : List (List Int)) (n m : Nat) : Bool := allN n (monR rs m)
theorem monF_left {rs : List (List Int)} {i q : Nat} {a b : Int} (ha : sAt rs i q = a) (hb : sAt rs i (q + 1) = b) (h : b < a) : monF rs i (q + 1) = false := by
  have h1 : decide (sAt rs i q ≤ sAt rs i (q + 1)) = false := by rw [ha, hb]; simpa using h
  unfold monF
  rw [Nat.add_sub_cancel, h1]
  simp
theorem monF_up {rs : List (List Int)} {p j : Nat} {a b : Int} (ha : sAt rs p j = a) (hb : sAt rs (p + 1) j = b) (h : b < a) : monF rs (p + 1) j = false := by
  have h1 : decide (sAt rs p j ≤ sAt rs (p + 1) j) = false := by rw [ha, hb]; simpa using h
  unfold monF
  rw [Nat.add_sub_cancel, h1]
  simp
theorem monF_mk {rs : List (List Int)} {i j : Nat} {b : Int} (hb : sAt rs i j = b) (h1 : ∀ q, j = q + 1 → ¬ b < sAt rs i q) (h2 : ∀ p, i = p + 1 → ¬ b < sAt rs p j) : monF rs i j = true := by
  unfold monF
  rw [Bool.and_eq_true]
  refine ⟨?_, ?_⟩
  · rcases j with _ | q
    · simp
    · have := h1 q rfl
      rw [Nat.add_sub_cancel, hb]
      simp
      omega
  · rcases i with _ | p
    · simp
    · have := h2 p rfl
      rw [Nat.add_sub_cancel, hb]
      simp
      omega

/-- The rows of a valid table, cell by cell. -/
theorem rows_at {w : World} {A B : Option Addr} {m n c1 c2 : Nat} {d : Int} {co : List (Int × Int)} {rs : List (List Int)} (h : CtAt w (.slice A m c1) (.slice B n c2) co rs) (hok : tabOk co d rs = true) (hm : co.length = m) (hn : rs.length = n) :
    ∃ g off, B = some ⟨g, off, none⟩ ∧ ∀ i, i < n → ∃ gx ox cx, w.cell? ⟨g, off + i, none⟩ = some (.slice (some ⟨gx, ox, none⟩) m cx) ∧ ∀ j, j < m → ∃ x : Nat, w.cell? ⟨gx, ox + j, none⟩ = some (.int .i64 (x : Int)) ∧ x ≤ 7 ∧ sAt rs i j = scoI x := by
  obtain ⟨B', c2', vs, er, hvs, hB, hI⟩ := h.rr
  obtain ⟨rfl, _, rfl⟩ : B = B' ∧ n = rs.length ∧ c2 = c2' := by simpa using er
  have hd := tabOk_d hok
  have hnn := (tabOk_parts hok).2.2.1
  have hmm := tabOk_n hok
  obtain ⟨g, off, rfl, hcl⟩ := hB (by omega)
  refine ⟨g, off, rfl, fun i hi => ?_⟩
  obtain ⟨z, hz⟩ : ∃ z, vs[i]? = some z := ⟨vs[i]'(by omega), List.getElem?_eq_getElem _⟩
  obtain ⟨l, hl⟩ : ∃ l, rs[i]? = some l := ⟨rs[i]'(by omega), List.getElem?_eq_getElem _⟩
  obtain ⟨hlm, hlx⟩ := tabOk_row hok hl
  obtain ⟨Ax, cx, rfl, hx⟩ := hI i z l hz hl
  obtain ⟨gx, ox, rfl, hcx⟩ := hx (by omega)
  refine ⟨gx, ox, cx, by rw [hcl i _ hz, hlm, hm], fun j hj => ?_⟩
  obtain ⟨v, hv⟩ : ∃ v, l[j]? = some v := ⟨l[j]'(by omega), List.getElem?_eq_getElem _⟩
  have hb := hlx j v hv
  obtain ⟨x, rfl⟩ : ∃ x : Nat, v = x := ⟨v.toNat, by omega⟩
  exact ⟨x, hcx j _ hv, by omega, by simp [sAt, List.getD, hl, hv]⟩


set_option maxRecDepth 100000 in
set_option maxHeartbeats 4000000 in
theorem isMonotone_any (c r : Value) (d : Int) (co : List (Int × Int)) (rs : List (List Int)) (w : World) (h : CtAt w c r co rs) (hs : TbM w) :
    Calls Tryd.prog 5 #[cv c d r] w fun e w' => e = .returned (.tuple #[.bool (tabOk co d rs && monB rs rs.length co.length), .bool (tabOk co d rs)]) ∧ Kp w w' := by
  obtain ⟨A, c1, ec, hA⟩ := h.rc
  obtain ⟨B, c2, vs, er, hvs, hB, hI⟩ := h.rr
  obtain ⟨m, hm⟩ : ∃ m, co.length = m := ⟨_, rfl⟩
  obtain ⟨n, hn⟩ : ∃ n, rs.length = n := ⟨_, rfl⟩
  rw [hm] at ec hA
  rw [hn] at er hvs hB
  subst ec er
  have HL := Lib.hid h
  have HA := Lib.hid hA
  have HB := Lib.hid hB
  have HI := Lib.hid hI
  have HV := Lib.hid hvs
  have HM := Lib.hid hm
  have HN := Lib.hid hn
  have hmb : m ≤ 1048576 := by have := h.bc; omega
  have hnb : n ≤ 1048576 := by have := h.br; omega
  have HS := Lib.hid hs
  obtain ⟨Q, hQ⟩ : ∃ Q, Q = (tabOk co d rs) := ⟨_, rfl⟩
  rw [← hQ]
  skip
  have HQ := Lib.hid hQ
  obtain ⟨M, hM⟩ : ∃ M, M = monB rs rs.length co.length := ⟨_, rfl⟩
  rw [← hM]
  rw [hm, hn] at hM
  have HMM := Lib.hid hM
  have KA : Kp w (w.alloc (.cells #[.slice A m c1, .int .i64 d, .slice B n c2] 26)) := (Kp.refl w).alloc _
  have s0 : (w.alloc (.cells #[.slice A m c1, .int .i64 d, .slice B n c2] 26)).cell? ⟨w.heap.size, 0, none⟩ = some (.slice A m c1) ∧ (w.alloc (.cells #[.slice A m c1, .int .i64 d, .slice B n c2] 26)).cell? ⟨w.heap.size, 1, none⟩ = some (.int .i64 d) ∧ (w.alloc (.cells #[.slice A m c1, .int .i64 d, .slice B n c2] 26)).cell? ⟨w.heap.size, 2, none⟩ = some (.slice B n c2) ∧ Kp w (w.alloc (.cells #[.slice A m c1, .int .i64 d, .slice B n c2] 26)) := ⟨by simp [go_sem], by simp [go_sem], by simp [go_sem], KA⟩
  have C1 := Lib.hid (isCombatTable_any _ _ d co rs (w.alloc (.cells #[.slice A m c1, .int .i64 d, .slice B n c2] 26)) (h.keep KA) (hs.keep KA).t)
  cases hc : tabOk co d rs
  · obtain rfl : Q = false := by rw [HQ.out, hc]
    rw [hc] at C1
    clear h hs hvs hA hB hI hm hn hQ hM hc
    go_enter Tryd.func5, Tryd.ntmps5
    go_wp2_with fail
    refine C1.out.mono ?_
    rintro e1 w1 ⟨rfl, k1⟩
    go_wp2_with fail
    go_ret2
    exact ⟨rfl, KA.trans k1⟩
  · rw [hc] at C1
    obtain rfl : Q = true := by rw [HQ.out, hc]
    have hmm := tabOk_n hc
    have RA := Lib.hid (fun w' (k : Kp w w') => rows_at (h.keep k) hc hm hn)
    clear h hs hvs hA hB hI hn hQ hM hc HB
    rw [hm] at hmm
    clear hm
    go_enter Tryd.func5, Tryd.ntmps5
    go_wp2_with fail
    refine C1.out.mono ?_
    rintro e1 w1 ⟨rfl, k1⟩
    have s1 := kc3 k1 s0
    have K1 := s1.2.2.2
    have HSC := Lib.hid (HS.out.keep K1).sco
    obtain ⟨g, off, rfl, hrow⟩ := RA.out w1 K1
    have HROW := Lib.hid hrow
    clear s0 KA k1 hrow RA
    go_wp2_with fail
    go_loop [4, 5, 15] (fun _ _ i => ∃ k : Nat, k ≤ n ∧ i = .int .i64 k ∧ Hid (∀ z, z < k → monR rs m z = true)) (fun _ _ i => n - (intOf i).toNat)
    case atStart => exact ⟨0, by omega, rfl, Lib.hid fun j hj => absurd hj (by omega)⟩
    case round =>
      obtain ⟨i, hk, rfl, hE⟩ := hrel
      by_cases hi : i < n
      · have hi' : (i : Int) < n := by omega
        obtain ⟨gx, ox, cx, hr0, hrow⟩ := HROW.out i hi
        have HRW := Lib.hid hrow
        clear hrow
        go_wp2_with fail
        go_loop [6, 7, 8, 22] (fun _ _ _ z => ∃ j : Nat, j ≤ m ∧ z = .int .i64 j ∧ Hid (∀ z, z < j → monF rs i z = true)) (fun _ _ _ z => m - (intOf z).toNat)
        case atStart => exact ⟨0, by omega, rfl, Lib.hid fun j hj => absurd hj (by omega)⟩
        case round =>
          obtain ⟨j, hj', rfl, hF⟩ := hrel
          by_cases hj : j < m
          · have hj'' : (j : Int) < m := by omega
            have hrow := HRW.out
            obtain ⟨x, hx, hx7, HX0⟩ := hrow j hj
            have HX := Lib.hid HX0
            have px := HSC.out x (by omega)
            clear HX0
            rcases Nat.eq_zero_or_pos j with hj0' | hj0'
            · have hjz : ¬ (0 : Int) < j := by omega
              rcases Nat.eq_zero_or_pos i with hi0' | hi0'
              · have hiz : ¬ (0 : Int) < i := by omega
                clear hrow hj0' hi0'
                have HE2 : Hid (∀ z, z < j + 1 → monF rs (i) z = true) := Lib.hid fun z hz => by
                  rcases Nat.lt_or_ge z (j) with h1 | h1
                  · exact hF.out z h1
                  · obtain rfl : z = j := by omega
                    exact monF_mk HX.out (fun q e => absurd e (by omega)) (fun p e => absurd e (by omega))
                go_wp2_with fail
                go_round
                case rel => exact ⟨j + 1, by omega, by go_num, HE2⟩
                case measure => simp [intOf]; omega
              · obtain ⟨p, hip⟩ : ∃ p, i = p + 1 := ⟨i - 1, by omega⟩
                have HIP := Lib.hid hip
                obtain ⟨gu, ou, cu, hru, hrowu⟩ := HROW.out p (by omega)
                obtain ⟨v, hv, hv7, HV0⟩ := hrowu _ hj
                have HVV := Lib.hid HV0
                clear HV0 hrowu
                have pv := HSC.out v (by omega)
                have d1 : w1.cell? ⟨g, off + (i - 1), none⟩ = some (.slice (some ⟨gu, ou, none⟩) m cu) := by rw [show i - 1 = p from by omega]; exact hru
                have d2 : w1.cell? ⟨g, off + ((i : Int) - 1).toNat, none⟩ = some (.slice (some ⟨gu, ou, none⟩) m cu) := by rw [show ((i : Int) - 1).toNat = p from by omega]; exact hru
                have hi0 : (0 : Int) < i := by omega
                have hi1 : (1 : Int) ≤ i := by omega
                have hi2 : (i : Int) - 1 < n := by omega
                have hi3 : (0 : Int) ≤ (i : Int) - 1 := by omega
                clear hru
                clear hrow hj0' hip
                by_cases hu : scoI (x : Int) < scoI (v : Int)
                · go_wp2_with fail
                  go_ret2
                  exact ⟨by rw [show M = false from by rw [HMM.out, monB, allN_no hi (by rw [monR, allN_no hj (by have := monF_up (p := p) HVV.out (by rw [← HIP.out]; exact HX.out) hu; rw [← HIP.out] at this; exact this)])]]; rfl, K1⟩
                · have HE2 : Hid (∀ z, z < j + 1 → monF rs (i) z = true) := Lib.hid fun z hz => by
                    rcases Nat.lt_or_ge z (j) with h1 | h1
                    · exact hF.out z h1
                    · obtain rfl : z = j := by omega
                      exact monF_mk HX.out (fun q e => absurd e (by omega)) (fun p' e => by
                        obtain rfl : p' = p := by have := HIP.out; omega
                        rw [HVV.out]
                        exact hu)
                  go_wp2_with fail
                  go_round
                  case rel => exact ⟨j + 1, by omega, by go_num, HE2⟩
                  case measure => simp [intOf]; omega
            · obtain ⟨q, rfl⟩ : ∃ q, j = q + 1 := ⟨j - 1, by omega⟩
              rcases Nat.eq_zero_or_pos i with hi0' | hi0'
              · have hiz : ¬ (0 : Int) < i := by omega
                obtain ⟨y, hy, hy7, HY⟩ := hrow q (by omega)
                have HYY := Lib.hid HY
                clear HY
                have py := HSC.out y (by omega)
                have hj2 : (q : Int) < m := by omega
                clear hrow hi0'
                by_cases hl : scoI (x : Int) < scoI (y : Int)
                · go_wp2_with fail
                  go_ret2
                  exact ⟨by rw [show M = false from by rw [HMM.out, monB, allN_no hi (by rw [monR, allN_no hj (monF_left HYY.out HX.out hl)])]]; rfl, K1⟩
                · have HE2 : Hid (∀ z, z < q + 1 + 1 → monF rs (i) z = true) := Lib.hid fun z hz => by
                    rcases Nat.lt_or_ge z (q + 1) with h1 | h1
                    · exact hF.out z h1
                    · obtain rfl : z = q + 1 := by omega
                      exact monF_mk HX.out (fun q' e => by
                        obtain rfl : q' = q := by omega
                        rw [HYY.out]
                        exact hl) (fun p e => absurd e (by omega))
                  go_wp2_with fail
                  go_round
                  case rel => exact ⟨q + 1 + 1, by omega, by go_num, HE2⟩
                  case measure => simp [intOf]; omega
              · obtain ⟨p, hip⟩ : ∃ p, i = p + 1 := ⟨i - 1, by omega⟩
                have HIP := Lib.hid hip
                obtain ⟨y, hy, hy7, HY⟩ := hrow q (by omega)
                have HYY := Lib.hid HY
                clear HY
                have py := HSC.out y (by omega)
                have hj2 : (q : Int) < m := by omega
                obtain ⟨gu, ou, cu, hru, hrowu⟩ := HROW.out p (by omega)
                obtain ⟨v, hv, hv7, HV0⟩ := hrowu _ hj
                have HVV := Lib.hid HV0
                clear HV0 hrowu
                have pv := HSC.out v (by omega)
                have d1 : w1.cell? ⟨g, off + (i - 1), none⟩ = some (.slice (some ⟨gu, ou, none⟩) m cu) := by rw [show i - 1 = p from by omega]; exact hru
                have d2 : w1.cell? ⟨g, off + ((i : Int) - 1).toNat, none⟩ = some (.slice (some ⟨gu, ou, none⟩) m cu) := by rw [show ((i : Int) - 1).toNat = p from by omega]; exact hru
                have hi0 : (0 : Int) < i := by omega
                have hi1 : (1 : Int) ≤ i := by omega
                have hi2 : (i : Int) - 1 < n := by omega
                have hi3 : (0 : Int) ≤ (i : Int) - 1 := by omega
                clear hru
                clear hrow hip
                by_cases hl : scoI (x : Int) < scoI (y : Int)
                · go_wp2_with fail
                  go_ret2
                  exact ⟨by rw [show M = false from by rw [HMM.out, monB, allN_no hi (by rw [monR, allN_no hj (monF_left HYY.out HX.out hl)])]]; rfl, K1⟩
                · by_cases hu : scoI (x : Int) < scoI (v : Int)
                  · go_wp2_with fail
                    go_ret2
                    exact ⟨by rw [show M = false from by rw [HMM.out, monB, allN_no hi (by rw [monR, allN_no hj (by have := monF_up (p := p) HVV.out (by rw [← HIP.out]; exact HX.out) hu; rw [← HIP.out] at this; exact this)])]]; rfl, K1⟩
                  · have HE2 : Hid (∀ z, z < q + 1 + 1 → monF rs (i) z = true) := Lib.hid fun z hz => by
                      rcases Nat.lt_or_ge z (q + 1) with h1 | h1
                      · exact hF.out z h1
                      · obtain rfl : z = q + 1 := by omega
                        exact monF_mk HX.out (fun q' e => by
                        obtain rfl : q' = q := by omega
                        rw [HYY.out]
                        exact hl) (fun p' e => by
                          obtain rfl : p' = p := by have := HIP.out; omega
                          rw [HVV.out]
                          exact hu)
                    go_wp2_with fail
                    go_round
                    case rel => exact ⟨q + 1 + 1, by omega, by go_num, HE2⟩
                    case measure => simp [intOf]; omega
          · obtain rfl : j = m := by omega
            have HE2 : Hid (∀ z, z < i + 1 → monR rs j z = true) := Lib.hid fun z hz => by
              rcases Nat.lt_or_ge z i with h1 | h1
              · exact hE.out z h1
              · obtain rfl : z = i := by omega
                exact allN_mk hF.out
            go_wp2_with fail
            go_round
            case rel => exact ⟨i + 1, by omega, by go_num, HE2⟩
            case measure => simp [intOf]; omega
      · obtain rfl : i = n := by omega
        go_wp2_with fail
        go_ret2
        exact ⟨by rw [show M = true from by rw [HMM.out]; exact allN_mk hE.out]; rfl, K1⟩

set_option maxRecDepth 100000 in
set_option maxHeartbeats 4000000 in
theorem specIsMonotone_any (c r : Value) (d : Int) (co : List (Int × Int)) (rs : List (List Int)) (w : World) (h : CtAt w c r co rs) :
    Calls Tryd.prog 6 #[cv c d r] w fun e w' => e = .returned (.tuple #[.bool (tabOk co d rs && monB rs rs.length co.length), .bool (tabOk co d rs)]) ∧ Kp w w' := by
  obtain ⟨A, c1, ec, hA⟩ := h.rc
  obtain ⟨B, c2, vs, er, hvs, hB, hI⟩ := h.rr
  obtain ⟨m, hm⟩ : ∃ m, co.length = m := ⟨_, rfl⟩
  obtain ⟨n, hn⟩ : ∃ n, rs.length = n := ⟨_, rfl⟩
  rw [hm] at ec hA
  rw [hn] at er hvs hB
  subst ec er
  have HL := Lib.hid h
  have HA := Lib.hid hA
  have HB := Lib.hid hB
  have HI := Lib.hid hI
  have HV := Lib.hid hvs
  have HM := Lib.hid hm
  have HN := Lib.hid hn
  have hmb : m ≤ 1048576 := by have := h.bc; omega
  have hnb : n ≤ 1048576 := by have := h.br; omega
  obtain ⟨Q, hQ⟩ : ∃ Q, Q = (tabOk co d rs) := ⟨_, rfl⟩
  rw [← hQ]
  skip
  have HQ := Lib.hid hQ
  obtain ⟨M, hM⟩ : ∃ M, M = monB rs rs.length co.length := ⟨_, rfl⟩
  rw [← hM]
  rw [hm, hn] at hM
  have HMM := Lib.hid hM
  have KA : Kp w (w.alloc (.cells #[.slice A m c1, .int .i64 d, .slice B n c2] 26)) := (Kp.refl w).alloc _
  have s0 : (w.alloc (.cells #[.slice A m c1, .int .i64 d, .slice B n c2] 26)).cell? ⟨w.heap.size, 0, none⟩ = some (.slice A m c1) ∧ (w.alloc (.cells #[.slice A m c1, .int .i64 d, .slice B n c2] 26)).cell? ⟨w.heap.size, 1, none⟩ = some (.int .i64 d) ∧ (w.alloc (.cells #[.slice A m c1, .int .i64 d, .slice B n c2] 26)).cell? ⟨w.heap.size, 2, none⟩ = some (.slice B n c2) ∧ Kp w (w.alloc (.cells #[.slice A m c1, .int .i64 d, .slice B n c2] 26)) := ⟨by simp [go_sem], by simp [go_sem], by simp [go_sem], KA⟩
  have C1 := Lib.hid (kGood_any _ _ d co rs (w.alloc (.cells #[.slice A m c1, .int .i64 d, .slice B n c2] 26)) (h.keep KA))
  cases hc : tabOk co d rs
  · obtain rfl : Q = false := by rw [HQ.out, hc]
    rw [hc] at C1
    clear h hvs hA hB hI hm hn hQ hM hc
    go_enter Tryd.func6, Tryd.ntmps6
    go_wp2_with fail
    refine C1.out.mono ?_
    rintro e1 w1 ⟨rfl, k1⟩
    go_wp2_with fail
    go_ret2
    exact ⟨rfl, KA.trans k1⟩
  · rw [hc] at C1
    obtain rfl : Q = true := by rw [HQ.out, hc]
    have hmm := tabOk_n hc
    have RA := Lib.hid (fun w' (k : Kp w w') => rows_at (h.keep k) hc hm hn)
    clear h hvs hA hB hI hn hQ hM hc HB
    rw [hm] at hmm
    clear hm
    go_enter Tryd.func6, Tryd.ntmps6
    go_wp2_with fail
    refine C1.out.mono ?_
    rintro e1 w1 ⟨rfl, k1⟩
    have s1 := kc3 k1 s0
    have K1 := s1.2.2.2
    obtain ⟨g, off, rfl, hrow⟩ := RA.out w1 K1
    have HROW := Lib.hid hrow
    clear s0 KA k1 hrow RA
    go_wp2_with fail
    go_loop [4, 5, 14] (fun _ _ i => ∃ k : Nat, k ≤ n ∧ i = .int .i64 k ∧ Hid (∀ z, z < k → monR rs m z = true)) (fun _ _ i => n - (intOf i).toNat)
    case atStart => exact ⟨0, by omega, rfl, Lib.hid fun j hj => absurd hj (by omega)⟩
    case round =>
      obtain ⟨i, hk, rfl, hE⟩ := hrel
      by_cases hi : i < n
      · have hi' : (i : Int) < n := by omega
        obtain ⟨gx, ox, cx, hr0, hrow⟩ := HROW.out i hi
        have HRW := Lib.hid hrow
        clear hrow
        go_wp2_with fail
        go_loop [6, 7, 21] (fun _ _ z => ∃ j : Nat, j ≤ m ∧ z = .int .i64 j ∧ Hid (∀ z, z < j → monF rs i z = true)) (fun _ _ z => m - (intOf z).toNat)
        case atStart => exact ⟨0, by omega, rfl, Lib.hid fun j hj => absurd hj (by omega)⟩
        case round =>
          obtain ⟨j, hj', rfl, hF⟩ := hrel
          by_cases hj : j < m
          · have hj'' : (j : Int) < m := by omega
            have hrow := HRW.out
            obtain ⟨x, hx, hx7, HX0⟩ := hrow j hj
            have HX := Lib.hid HX0
            clear HX0
            rcases Nat.eq_zero_or_pos j with hj0' | hj0'
            · have hjz : ¬ (0 : Int) < j := by omega
              rcases Nat.eq_zero_or_pos i with hi0' | hi0'
              · have hiz : ¬ (0 : Int) < i := by omega
                clear hrow hj0' hi0'
                have HE2 : Hid (∀ z, z < j + 1 → monF rs (i) z = true) := Lib.hid fun z hz => by
                  rcases Nat.lt_or_ge z (j) with h1 | h1
                  · exact hF.out z h1
                  · obtain rfl : z = j := by omega
                    exact monF_mk HX.out (fun q e => absurd e (by omega)) (fun p e => absurd e (by omega))
                go_wp2_with fail
                go_round
                case rel => exact ⟨j + 1, by omega, by go_num, HE2⟩
                case measure => simp [intOf]; omega
              · obtain ⟨p, hip⟩ : ∃ p, i = p + 1 := ⟨i - 1, by omega⟩
                have HIP := Lib.hid hip
                obtain ⟨gu, ou, cu, hru, hrowu⟩ := HROW.out p (by omega)
                obtain ⟨v, hv, hv7, HV0⟩ := hrowu _ hj
                have HVV := Lib.hid HV0
                clear HV0 hrowu
                have d1 : w1.cell? ⟨g, off + (i - 1), none⟩ = some (.slice (some ⟨gu, ou, none⟩) m cu) := by rw [show i - 1 = p from by omega]; exact hru
                have d2 : w1.cell? ⟨g, off + ((i : Int) - 1).toNat, none⟩ = some (.slice (some ⟨gu, ou, none⟩) m cu) := by rw [show ((i : Int) - 1).toNat = p from by omega]; exact hru
                have hi0 : (0 : Int) < i := by omega
                have hi1 : (1 : Int) ≤ i := by omega
                have hi2 : (i : Int) - 1 < n := by omega
                have hi3 : (0 : Int) ≤ (i : Int) - 1 := by omega
                clear hru
                clear hrow hj0' hip
                by_cases hu : scoI (x : Int) < scoI (v : Int)
                · go_wp2_with fail
                  refine (kScore_any _ _ (by omega) (by omega)).mono ?_
                  rintro ez wz ⟨rfl, rfl⟩
                  go_wp2_with fail
                  refine (kScore_any _ _ (by omega) (by omega)).mono ?_
                  rintro ez wz ⟨rfl, rfl⟩
                  go_wp2_with fail
                  go_ret2
                  exact ⟨by rw [show M = false from by rw [HMM.out, monB, allN_no hi (by rw [monR, allN_no hj (by have := monF_up (p := p) HVV.out (by rw [← HIP.out]; exact HX.out) hu; rw [← HIP.out] at this; exact this)])]]; rfl, K1⟩
                · have HE2 : Hid (∀ z, z < j + 1 → monF rs (i) z = true) := Lib.hid fun z hz => by
                    rcases Nat.lt_or_ge z (j) with h1 | h1
                    · exact hF.out z h1
                    · obtain rfl : z = j := by omega
                      exact monF_mk HX.out (fun q e => absurd e (by omega)) (fun p' e => by
                        obtain rfl : p' = p := by have := HIP.out; omega
                        rw [HVV.out]
                        exact hu)
                  go_wp2_with fail
                  refine (kScore_any _ _ (by omega) (by omega)).mono ?_
                  rintro ez wz ⟨rfl, rfl⟩
                  go_wp2_with fail
                  refine (kScore_any _ _ (by omega) (by omega)).mono ?_
                  rintro ez wz ⟨rfl, rfl⟩
                  go_wp2_with fail
                  go_round
                  case rel => exact ⟨j + 1, by omega, by go_num, HE2⟩
                  case measure => simp [intOf]; omega
            · obtain ⟨q, rfl⟩ : ∃ q, j = q + 1 := ⟨j - 1, by omega⟩
              rcases Nat.eq_zero_or_pos i with hi0' | hi0'
              · have hiz : ¬ (0 : Int) < i := by omega
                obtain ⟨y, hy, hy7, HY⟩ := hrow q (by omega)
                have HYY := Lib.hid HY
                clear HY
                have hj2 : (q : Int) < m := by omega
                clear hrow hi0'
                by_cases hl : scoI (x : Int) < scoI (y : Int)
                · go_wp2_with fail
                  refine (kScore_any _ _ (by omega) (by omega)).mono ?_
                  rintro ez wz ⟨rfl, rfl⟩
                  go_wp2_with fail
                  refine (kScore_any _ _ (by omega) (by omega)).mono ?_
                  rintro ez wz ⟨rfl, rfl⟩
                  go_wp2_with fail
                  go_ret2
                  exact ⟨by rw [show M = false from by rw [HMM.out, monB, allN_no hi (by rw [monR, allN_no hj (monF_left HYY.out HX.out hl)])]]; rfl, K1⟩
                · have HE2 : Hid (∀ z, z < q + 1 + 1 → monF rs (i) z = true) := Lib.hid fun z hz => by
                    rcases Nat.lt_or_ge z (q + 1) with h1 | h1
                    · exact hF.out z h1
                    · obtain rfl : z = q + 1 := by omega
                      exact monF_mk HX.out (fun q' e => by
                        obtain rfl : q' = q := by omega
                        rw [HYY.out]
                        exact hl) (fun p e => absurd e (by omega))
                  go_wp2_with fail
                  refine (kScore_any _ _ (by omega) (by omega)).mono ?_
                  rintro ez wz ⟨rfl, rfl⟩
                  go_wp2_with fail
                  refine (kScore_any _ _ (by omega) (by omega)).mono ?_
                  rintro ez wz ⟨rfl, rfl⟩
                  go_wp2_with fail
                  go_round
                  case rel => exact ⟨q + 1 + 1, by omega, by go_num, HE2⟩
                  case measure => simp [intOf]; omega
              · obtain ⟨p, hip⟩ : ∃ p, i = p + 1 := ⟨i - 1, by omega⟩
                have HIP := Lib.hid hip
                obtain ⟨y, hy, hy7, HY⟩ := hrow q (by omega)
                have HYY := Lib.hid HY
                clear HY
                have hj2 : (q : Int) < m := by omega
                obtain ⟨gu, ou, cu, hru, hrowu⟩ := HROW.out p (by omega)
                obtain ⟨v, hv, hv7, HV0⟩ := hrowu _ hj
                have HVV := Lib.hid HV0
                clear HV0 hrowu
                have d1 : w1.cell? ⟨g, off + (i - 1), none⟩ = some (.slice (some ⟨gu, ou, none⟩) m cu) := by rw [show i - 1 = p from by omega]; exact hru
                have d2 : w1.cell? ⟨g, off + ((i : Int) - 1).toNat, none⟩ = some (.slice (some ⟨gu, ou, none⟩) m cu) := by rw [show ((i : Int) - 1).toNat = p from by omega]; exact hru
                have hi0 : (0 : Int) < i := by omega
                have hi1 : (1 : Int) ≤ i := by omega
                have hi2 : (i : Int) - 1 < n := by omega
                have hi3 : (0 : Int) ≤ (i : Int) - 1 := by omega
                clear hru
                clear hrow hip
                by_cases hl : scoI (x : Int) < scoI (y : Int)
                · go_wp2_with fail
                  refine (kScore_any _ _ (by omega) (by omega)).mono ?_
                  rintro ez wz ⟨rfl, rfl⟩
                  go_wp2_with fail
                  refine (kScore_any _ _ (by omega) (by omega)).mono ?_
                  rintro ez wz ⟨rfl, rfl⟩
                  go_wp2_with fail
                  go_ret2
                  exact ⟨by rw [show M = false from by rw [HMM.out, monB, allN_no hi (by rw [monR, allN_no hj (monF_left HYY.out HX.out hl)])]]; rfl, K1⟩
                · by_cases hu : scoI (x : Int) < scoI (v : Int)
                  · go_wp2_with fail
                    refine (kScore_any _ _ (by omega) (by omega)).mono ?_
                    rintro ez wz ⟨rfl, rfl⟩
                    go_wp2_with fail
                    refine (kScore_any _ _ (by omega) (by omega)).mono ?_
                    rintro ez wz ⟨rfl, rfl⟩
                    go_wp2_with fail
                    refine (kScore_any _ _ (by omega) (by omega)).mono ?_
                    rintro ez wz ⟨rfl, rfl⟩
                    go_wp2_with fail
                    refine (kScore_any _ _ (by omega) (by omega)).mono ?_
                    rintro ez wz ⟨rfl, rfl⟩
                    go_wp2_with fail
                    go_ret2
                    exact ⟨by rw [show M = false from by rw [HMM.out, monB, allN_no hi (by rw [monR, allN_no hj (by have := monF_up (p := p) HVV.out (by rw [← HIP.out]; exact HX.out) hu; rw [← HIP.out] at this; exact this)])]]; rfl, K1⟩
                  · have HE2 : Hid (∀ z, z < q + 1 + 1 → monF rs (i) z = true) := Lib.hid fun z hz => by
                      rcases Nat.lt_or_ge z (q + 1) with h1 | h1
                      · exact hF.out z h1
                      · obtain rfl : z = q + 1 := by omega
                        exact monF_mk HX.out (fun q' e => by
                        obtain rfl : q' = q := by omega
                        rw [HYY.out]
                        exact hl) (fun p' e => by
                          obtain rfl : p' = p := by have := HIP.out; omega
                          rw [HVV.out]
                          exact hu)
                    go_wp2_with fail
                    refine (kScore_any _ _ (by omega) (by omega)).mono ?_
                    rintro ez wz ⟨rfl, rfl⟩
                    go_wp2_with fail
                    refine (kScore_any _ _ (by omega) (by omega)).mono ?_
                    rintro ez wz ⟨rfl, rfl⟩
                    go_wp2_with fail
                    refine (kScore_any _ _ (by omega) (by omega)).mono ?_
                    rintro ez wz ⟨rfl, rfl⟩
                    go_wp2_with fail
                    refine (kScore_any _ _ (by omega) (by omega)).mono ?_
                    rintro ez wz ⟨rfl, rfl⟩
                    go_wp2_with fail
                    go_round
                    case rel => exact ⟨q + 1 + 1, by omega, by go_num, HE2⟩
                    case measure => simp [intOf]; omega
          · obtain rfl : j = m := by omega
            have HE2 : Hid (∀ z, z < i + 1 → monR rs j z = true) := Lib.hid fun z hz => by
              rcases Nat.lt_or_ge z i with h1 | h1
              · exact hE.out z h1
              · obtain rfl : z = i := by omega
                exact allN_mk hF.out
            go_wp2_with fail
            go_round
            case rel => exact ⟨i + 1, by omega, by go_num, HE2⟩
            case measure => simp [intOf]; omega
      · obtain rfl : i = n := by omega
        go_wp2_with fail
        go_ret2
        exact ⟨by rw [show M = true from by rw [HMM.out]; exact allN_mk hE.out]; rfl, K1⟩

end Go.Proofs.YtjpfmckoodalnaaDoor
