/-
  Whether a combat table is valid, as the program tells. Nothing that was there is changed.
-/
import Derived.Test.YtgeophllbmjjfaaDoorTbI
namespace Go.Proofs.YtgeophllbmjjfaaDoor
open Go.RowKit

theorem tabOk_eq {co : List (Int × Int)} {d : Int} {rs : List (List Int)} {m n : Nat} (hm : co.length = m) (hn : rs.length = n) : tabOk co d rs = (colsOk co && (spB 1 2 d && (decide ((n : Int) = 5 * d + 1) && allN n (rowF m rs)))) := by
  rw [tabOk, rowsOk, hm, hn]

set_option maxRecDepth 100000 in
set_option maxHeartbeats 4000000 in
theorem isCombatTable_any (c r : Value) (d : Int) (co : List (Int × Int)) (rs : List (List Int)) (w : World) (h : CtAt w c r co rs) (hs : TbSp w) :
    Calls Tryd.prog 20 #[cv c d r] w fun e w' => e = .returned (.bool (tabOk co d rs)) ∧ Kp w w' := by
  obtain ⟨A, c1, ec, hA⟩ := h.rc
  obtain ⟨B, c2, vs, er, hvs, hB, hI⟩ := h.rr
  obtain ⟨m, hm⟩ : ∃ m, co.length = m := ⟨_, rfl⟩
  obtain ⟨n, hn⟩ : ∃ n, rs.length = n := ⟨_, rfl⟩
  rw [hm] at ec hA
  rw [hn] at er hvs hB
  subst ec er
  have HL := Lib.hid h
  have HA := Lib.hid hA
  have HB := Lib.hid hB
  have HI := Lib.hid hI
  have HV := Lib.hid hvs
  have HM := Lib.hid hm
  have HN := Lib.hid hn
  have hmb : m ≤ 1048576 := by have := h.bc; omega
  have hnb : n ≤ 1048576 := by have := h.br; omega
  have HS := Lib.hid hs
  obtain ⟨R, hR⟩ : ∃ R, R = tabOk co d rs := ⟨_, rfl⟩
  have HR := Lib.hid (hR.trans (tabOk_eq hm hn))
  rw [← hR]
  have KA : Kp w (w.alloc (.cells #[.slice A m c1, .int .i64 d, .slice B n c2] 31)) := (Kp.refl w).alloc _
  have s0 : (w.alloc (.cells #[.slice A m c1, .int .i64 d, .slice B n c2] 31)).cell? ⟨w.heap.size, 0, none⟩ = some (.slice A m c1) ∧ (w.alloc (.cells #[.slice A m c1, .int .i64 d, .slice B n c2] 31)).cell? ⟨w.heap.size, 1, none⟩ = some (.int .i64 d) ∧ (w.alloc (.cells #[.slice A m c1, .int .i64 d, .slice B n c2] 31)).cell? ⟨w.heap.size, 2, none⟩ = some (.slice B n c2) ∧ Kp w (w.alloc (.cells #[.slice A m c1, .int .i64 d, .slice B n c2] 31)) := ⟨by simp [go_sem], by simp [go_sem], by simp [go_sem], KA⟩
  have C1 := Lib.hid (areColumns_any (.slice A m c1) co (w.alloc (.cells #[.slice A m c1, .int .i64 d, .slice B n c2] 31)) (h.keep KA).rc h.bc (hs.keep KA))
  clear h hs hvs hA hB hI hm hn hR HA
  cases hc : colsOk co
  · have hR0 : Hid (R = false) := Lib.hid (by rw [HR.out, hc]; rfl)
    rw [hc] at C1
    clear hc
    go_enter Tryd.func20, Tryd.ntmps20
    go_wp2_with fail
    refine C1.out.mono ?_
    rintro e1 w1 ⟨rfl, k1⟩
    go_wp2_with fail
    go_ret
    exact ⟨ret_bool hR0.out.symm, KA.trans k1⟩
  · rw [hc] at C1 HR
    clear hc
    cases hd : spB 1 2 d
    · have hR0 : Hid (R = false) := Lib.hid (by rw [HR.out, hd]; rfl)
      go_enter Tryd.func20, Tryd.ntmps20
      go_wp2_with fail
      refine C1.out.mono ?_
      rintro e1 w1 ⟨rfl, k1⟩
      have s1 := kc3 k1 s0
      have p0 := (HS.out.keep s1.2.2.2).dice.1
      have p1 := (HS.out.keep s1.2.2.2).dice.2
      clear s0 KA k1
      go_wp2_with fail
      refine (has_any _ _ _ _).mono ?_
      rintro e2 w2 ⟨rfl, k2⟩
      go_wp2_with fail
      go_ret
      exact ⟨ret_bool hR0.out.symm, s1.2.2.2.trans k2⟩
    · obtain ⟨hd1, hd2⟩ := spB_true hd
      by_cases hr : (n : Int) = 5 * d + 1
      · have e5 : ((n : Int) != 6 * d - d + 1) = false := by simp; omega
        have hdr : Hid (decide ((n : Int) = 5 * d + 1) = true) := Lib.hid (by simpa using hr)
        clear hr
        go_enter Tryd.func20, Tryd.ntmps20
        go_wp2_with fail
        refine C1.out.mono ?_
        rintro e1 w1 ⟨rfl, k1⟩
        have s1 := kc3 k1 s0
        have p0 := (HS.out.keep s1.2.2.2).dice.1
        have p1 := (HS.out.keep s1.2.2.2).dice.2
        clear s0 KA k1
        go_wp2_with fail
        refine (has_any _ _ _ _).mono ?_
        rintro e2 w2 ⟨rfl, k2⟩
        have s2 := kc3 k2 s1
        clear s1 p0 p1 k2
        go_wp2_with fail
        refine (sumsSpan_any d _ hd1 hd2).mono ?_
        rintro e3 w3 ⟨rfl, k3⟩
        have s3 := kc3 (k3.trans ((Kp.refl w3).alloc (.cells #[.int .i64 d, .int .i64 (6 * d)] 65))) s2
        clear s2 k3
        go_wp2_with fail
        generalize w3.alloc (.cells #[.int .i64 d, .int .i64 (6 * d)] 65) = W3 at *
        go_loopw [5, 33] (fun _ i wr => ∃ k : Nat, k ≤ n ∧ i = .int .i64 k ∧ Hid (∀ j, j < k → rowF m rs j = true) ∧ wr.cell? ⟨w.heap.size, 0, none⟩ = some (.slice A m c1) ∧ wr.cell? ⟨w.heap.size, 1, none⟩ = some (.int .i64 d) ∧ wr.cell? ⟨w.heap.size, 2, none⟩ = some (.slice B n c2) ∧ Kp w wr) (fun _ i _ => n - (intOf i).toNat)
        case atStart => exact ⟨0, by omega, rfl, Lib.hid fun j hj => absurd hj (by omega), s3⟩
        case round =>
          clear s3
          obtain ⟨k, hk, rfl, hE, sr⟩ := hrel
          by_cases hlt : k < n
          · have hlt' : (k : Int) < n := by omega
            obtain ⟨g, off, rfl, hcl⟩ := HB.out (by omega)
            obtain ⟨x, hx⟩ : ∃ x, vs[k]? = some x := ⟨vs[k]'(by have := HV.out; omega), List.getElem?_eq_getElem _⟩
            obtain ⟨l, hl⟩ : ∃ l, rs[k]? = some l := ⟨rs[k]'(by have := HN.out; omega), List.getElem?_eq_getElem _⟩
            have kr := sr.2.2.2
            have a0 := kr.cell (hcl k x hx)
            have C3 := Lib.hid (fun (hs : SpanAt wr 2 0 7) => isResultRow_any x l m wr ((HI.out k x l hx hl).keep kr) (HL.out.bl l (List.mem_of_getElem? hl)) hmb hs)
            have HX := Lib.hid (rowF_at (n := m) hl)
            have HSR := Lib.hid (HS.out.keep kr).result
            clear hcl hx hl
            cases hok : rowOk m l
            · have hR0 : Hid (R = false) := Lib.hid (by rw [HR.out, hd, hdr.out, allN_no hlt (HX.out.trans hok)]; rfl)
              rw [hok] at C3
              clear hok
              go_wp2_with fail
              refine (C3.out HSR.out).mono ?_
              rintro e4 w4 ⟨rfl, k4⟩
              go_wp2_with fail
              go_ret
              exact ⟨ret_bool hR0.out.symm, kr.trans k4⟩
            · have HE2 : Hid (∀ j, j < k + 1 → rowF m rs j = true) := Lib.hid fun j hj => by
                rcases Nat.lt_or_ge j k with hjk | hjk
                · exact hE.out j hjk
                · obtain rfl : j = k := by omega
                  exact HX.out.trans hok
              rw [hok] at C3
              clear hok
              go_wp2_with fail
              refine (C3.out HSR.out).mono ?_
              rintro e4 w4 ⟨rfl, k4⟩
              have s4 := kc3 k4 sr
              go_wp2_with fail
              go_roundw
              case rel => exact ⟨k + 1, by omega, by go_num, HE2, s4⟩
              case measure => simp [intOf]; omega
          · obtain rfl : k = n := by omega
            go_wp2_with fail
            go_ret
            refine ⟨ret_bool ?_, sr.2.2.2⟩
            rw [HR.out, hd, hdr.out, allN_mk hE.out]
            rfl
      · have e5 : ((n : Int) != 6 * d - d + 1) = true := by simp; omega
        have hR0 : Hid (R = false) := Lib.hid (by rw [HR.out, hd]; simp [hr])
        clear hr
        go_enter Tryd.func20, Tryd.ntmps20
        go_wp2_with fail
        refine C1.out.mono ?_
        rintro e1 w1 ⟨rfl, k1⟩
        have s1 := kc3 k1 s0
        have p0 := (HS.out.keep s1.2.2.2).dice.1
        have p1 := (HS.out.keep s1.2.2.2).dice.2
        clear s0 KA k1
        go_wp2_with fail
        refine (has_any _ _ _ _).mono ?_
        rintro e2 w2 ⟨rfl, k2⟩
        have s2 := kc3 k2 s1
        clear s1 p0 p1 k2
        go_wp2_with fail
        refine (sumsSpan_any d _ hd1 hd2).mono ?_
        rintro e3 w3 ⟨rfl, k3⟩
        have s3 := kc3 (k3.trans ((Kp.refl w3).alloc (.cells #[.int .i64 d, .int .i64 (6 * d)] 65))) s2
        clear s2 k3
        go_wp2_with fail
        go_ret
        exact ⟨ret_bool hR0.out.symm, s3.2.2.2⟩

end Go.Proofs.YtgeophllbmjjfaaDoor
