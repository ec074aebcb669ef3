/-
  How often each result occurs in a column, as the program and as the reference tell, in memory of its own. Nothing that was there is changed.
-/
import Derived.Test.YtjpfmckoodalnaaDoorTbQ
namespace Go.Proofs.YtjpfmckoodalnaaDoor
open Go.RowKit

theorem OwnI.cellAt' {w : World} {base n c : Nat} {A : Option Addr} {l : List Int} (h : OwnI w base (.slice A n c) l) {q : Nat} {x : Int} (hx : l[q]? = some x) : ∃ g, A = some ⟨g, 0, none⟩ ∧ w.cell? ⟨g, q, none⟩ = some (.int .i64 x) := by
  have hq := (List.getElem?_eq_some_iff.1 hx).1
  have h' : w.ownsRow base 3 1 (.slice A n c) l.length (cellsI l) := h
  rcases h.2 with ⟨_, hn⟩ | ⟨g, cap, cur, e, _⟩
  · omega
  · obtain ⟨rfl, rfl, rfl⟩ : A = some ⟨g, 0, none⟩ ∧ n = l.length ∧ c = cap := by simpa using e
    exact ⟨g, rfl, (World.ownsRow.cellAt h' q (by simp; omega)).trans (by simp [cellsI, hx])⟩
theorem cellFar {w : World} {g j b o : Nat} {u v : Value} (h : b ≠ g) (hc : w.cell? ⟨b, o, none⟩ = some v) : (w.setCell ⟨g, j, none⟩ u).cell? ⟨b, o, none⟩ = some v := by
  rw [World.cell?_setCell_far w ⟨g, j, none⟩ ⟨b, o, none⟩ u (fun e => h e.symm)]
  exact hc
/-- The box of a table when a cell of another block has been written. -/
theorem kf3 {W0 w : World} {b g j : Nat} {u v0 v1 v2 : Value} (hb : b ≠ g) (hg : W0.heap.size ≤ g) (h : w.cell? ⟨b, 0, none⟩ = some v0 ∧ w.cell? ⟨b, 1, none⟩ = some v1 ∧ w.cell? ⟨b, 2, none⟩ = some v2 ∧ Kp W0 w) :
    (w.setCell ⟨g, j, none⟩ u).cell? ⟨b, 0, none⟩ = some v0 ∧ (w.setCell ⟨g, j, none⟩ u).cell? ⟨b, 1, none⟩ = some v1 ∧ (w.setCell ⟨g, j, none⟩ u).cell? ⟨b, 2, none⟩ = some v2 ∧ Kp W0 (w.setCell ⟨g, j, none⟩ u) :=
  ⟨cellFar hb h.1, cellFar hb h.2.1, cellFar hb h.2.2.1, h.2.2.2.setCell hg u⟩

set_option maxRecDepth 100000 in
set_option maxHeartbeats 4000000 in
theorem countResults_any (c r : Value) (d : Int) (co : List (Int × Int)) (rs : List (List Int)) (x : Int) (w : World) (h : CtAt w c r co rs) (hs : TbSp w) :
    Calls Tryd.prog 33 #[cv c d r, .int .i64 x] w (ListPostI (tabOk co d rs && inCol co.length x) (cntW (fun s => resI d rs s x) (pS d.toNat)) w) := by
  obtain ⟨A, c1, ec, hA⟩ := h.rc
  obtain ⟨B, c2, vs, er, hvs, hB, hI⟩ := h.rr
  obtain ⟨m, hm⟩ : ∃ m, co.length = m := ⟨_, rfl⟩
  obtain ⟨n, hn⟩ : ∃ n, rs.length = n := ⟨_, rfl⟩
  rw [hm] at ec hA
  rw [hn] at er hvs hB
  subst ec er
  have HL := Lib.hid h
  have HA := Lib.hid hA
  have HB := Lib.hid hB
  have HI := Lib.hid hI
  have HV := Lib.hid hvs
  have HM := Lib.hid hm
  have HN := Lib.hid hn
  have hmb : m ≤ 1048576 := by have := h.bc; omega
  have hnb : n ≤ 1048576 := by have := h.br; omega
  have HS := Lib.hid hs
  obtain ⟨Q, hQ⟩ : ∃ Q, Q = ((tabOk co d rs && inCol co.length x)) := ⟨_, rfl⟩
  rw [← hQ]
  rw [hm] at hQ
  have HQ := Lib.hid hQ
  have KA : Kp w (w.alloc (.cells #[.slice A m c1, .int .i64 d, .slice B n c2] 26)) := (Kp.refl w).alloc _
  have s0 : (w.alloc (.cells #[.slice A m c1, .int .i64 d, .slice B n c2] 26)).cell? ⟨w.heap.size, 0, none⟩ = some (.slice A m c1) ∧ (w.alloc (.cells #[.slice A m c1, .int .i64 d, .slice B n c2] 26)).cell? ⟨w.heap.size, 1, none⟩ = some (.int .i64 d) ∧ (w.alloc (.cells #[.slice A m c1, .int .i64 d, .slice B n c2] 26)).cell? ⟨w.heap.size, 2, none⟩ = some (.slice B n c2) ∧ Kp w (w.alloc (.cells #[.slice A m c1, .int .i64 d, .slice B n c2] 26)) := ⟨by simp [go_sem], by simp [go_sem], by simp [go_sem], KA⟩
  have C1 := Lib.hid (isColumnOf_any _ _ d co rs x (w.alloc (.cells #[.slice A m c1, .int .i64 d, .slice B n c2] 26)) (h.keep KA) (hs.keep KA))
  rw [hm] at C1
  obtain ⟨L, hL⟩ : ∃ L, L = cntW (fun s => resI d rs s x) (pS d.toNat) := ⟨_, rfl⟩
  rw [← hL]
  have HLL := Lib.hid hL
  have RB := Lib.hid (fun hok hx q h1 h2 => res_both (x := x) (d := d) h hok hx q h1 h2)
  have hmk := fun w => mkCnt w
  cases hc : (tabOk co d rs && inCol m x)
  · obtain rfl : Q = false := by rw [HQ.out, hc]
    rw [hc] at C1
    clear h hs hvs hA hB hI hm hn hQ hL RB hc
    go_enter Tryd.func33, Tryd.ntmps33
    go_wp2_with fail
    refine C1.out.mono ?_
    rintro e1 w1 ⟨rfl, k1⟩
    go_wp2_with fail
    go_ret2
    exact ListPostI.no (KA.trans k1)
  · rw [hc] at C1
    obtain rfl : Q = true := by rw [HQ.out, hc]
    rw [← hm] at hc
    simp only [Bool.and_eq_true] at hc
    obtain ⟨hd1, hd2⟩ := tabOk_d hc.1
    have RC := Lib.hid (RB.out hc.1 hc.2)
    obtain ⟨D, hD⟩ : ∃ D : Nat, D = d.toNat := ⟨_, rfl⟩
    have HD := Lib.hid hD
    have HdD := Lib.hid (show d = (D : Int) by omega)
    have HLI : Hid (cntW (fun s => resI d rs s x) (pI D) = L) := Lib.hid (by rw [hL, cnt_eq _ (by omega) (by omega), hD])
    have HSI := Lib.hid (sums_in (D := D) (by omega) (by omega))
    have hl36 := sumsL_len (k := D) (by omega)
    clear h hs hvs hA hB hI hm hn hQ hL RB hc
    generalize hF : (fun s => resI d rs s x) = F at HLI
    have HF := Lib.hid hF
    clear hF
    go_enter Tryd.func33, Tryd.ntmps33
    go_wp2_with fail
    refine C1.out.mono ?_
    rintro e1 w1 ⟨rfl, k1⟩
    have s1 := kc3 k1 s0
    clear s0 KA k1
    have ka : Kp w1 (w1.alloc (.cells (madeCells #[.int .i64 0] 8) 3)) := (Kp.refl _).alloc _
    have s2 := kc3 ka s1
    go_wp2_with fail
    refine (rollSums_any d _ hd1 hd2).mono ?_
    rintro e3 w3 ⟨v3, rfl, o3, k3⟩
    rw [← HD.out] at o3
    have s3 := kc3 (ka.trans k3) s1
    have OC3 : Hid (OwnI w3 w1.heap.size (.slice (some ⟨w1.heap.size, 0, none⟩) 8 8) (cntW F ((pI D).take 0))) := Lib.hid ((ownI_zero w1 8 (by omega)).keep k3)
    have hbw : w.heap.size < w1.heap.size := cell_lt s1.1
    simp only [World.size_alloc] at o3
    obtain ⟨A3, c3, ev⟩ := o3.slice
    subst ev
    have OS3 := Lib.hid o3
    obtain ⟨n3, hn3⟩ : ∃ n3, (sumsL D).length = n3 := ⟨_, rfl⟩
    have HN3 := Lib.hid hn3
    rw [hn3] at OS3 hl36 ⊢
    generalize w1.heap.size = G at *
    clear hn3 o3 k3 ka s1 s2
    go_wp2_with fail
    go_loopw [8, 18] (fun _ i wx => ∃ q : Nat, q ≤ n3 ∧ i = .int .i64 q ∧ Hid (OwnI wx G (.slice (some ⟨G, 0, none⟩) 8 8) (cntW F ((pI D).take q))) ∧ Hid (OwnI wx (G + 1) (.slice A3 n3 c3) (sumsL D)) ∧ wx.cell? ⟨w.heap.size, 0, none⟩ = some (.slice A m c1) ∧ wx.cell? ⟨w.heap.size, 1, none⟩ = some (.int .i64 d) ∧ wx.cell? ⟨w.heap.size, 2, none⟩ = some (.slice B n c2) ∧ Kp w wx) (fun _ i _ => n3 - (intOf i).toNat)
    case atStart => exact ⟨0, by omega, rfl, OC3, OS3, s3⟩
    case round =>
      clear OC3 OS3 s3
      obtain ⟨q, hq, rfl, hOC, hOS, sr⟩ := hrel
      by_cases hlt : q < n3
      · have hlt' : (q : Int) < n3 := by omega
        obtain ⟨s, hs⟩ : ∃ s, (sumsL D)[q]? = some s := ⟨(sumsL D)[q]'(by have := HN3.out; omega), List.getElem?_eq_getElem _⟩
        obtain ⟨g3, rfl, a0⟩ := hOS.out.cellAt' hs
        obtain ⟨i1, i2⟩ := HSI.out s (List.mem_of_getElem? hs)
        have hdD := HdD.out
        obtain ⟨y, hy8, hfy, CR0, _⟩ := RC.out s (by omega) (by omega)
        have CR := Lib.hid CR0
        have hp : (pI D)[q]? = some (s, 1) := by simp [pI, hs]
        have HS := Lib.hid (cntW_more hp (show F (s, 1).1 = y by rw [← HF.out]; exact hfy))
        have hb := cntR_tk (f := F) (y : Int) (pI_bd D) (by rw [pI_len, HN3.out]; exact hl36) q
        have HAT := Lib.hid (cntW_at (f := F) (P := (pI D).take q) hy8)
        generalize cntR F ((pI D).take q) (y : Int) = C at HS hb HAT
        have kr := sr.2.2.2
        have hyy : (y : Int) < 8 := by omega
        have hne : w.heap.size ≠ G := by omega
        clear hs hp hfy CR0 hdD i1 i2
        go_wp2_with fail
        refine (CR.out _ kr).mono ?_
        rintro e5 w5 ⟨rfl, k5⟩
        have s5 := kc3 k5 sr
        obtain ⟨g', eg, a1⟩ := (hOC.out.keep k5).cellAt' HAT.out
        obtain rfl : G = g' := by simpa using eg
        obtain ⟨_, hf, hput⟩ := (hOC.out.keep k5).put (cntW_len _ _) hy8 (C + 1)
        have O1 : Hid (OwnI (w5.setCell ⟨G, y, none⟩ (.int .i64 (C + 1))) G (.slice (some ⟨G, 0, none⟩) 8 8) (cntW F ((pI D).take (q + 1)))) := Lib.hid (by rw [HS.out]; exact hput)
        have O2 : Hid (OwnI (w5.setCell ⟨G, y, none⟩ (.int .i64 (C + 1))) (G + 1) (.slice (some ⟨g3, 0, none⟩) n3 c3) (sumsL D)) := Lib.hid ((hOS.out.keep k5).far ((hOS.out.keep k5).not (by omega)) _)
        have s6 := kf3 (j := y) (u := .int .i64 (C + 1)) hne (by omega) s5
        clear hput eg sr k5 hOC hOS s5 HS HAT
        go_wp2_with fail
        go_roundw
        case rel => exact ⟨q + 1, by omega, by go_num, O1, O2, s6⟩
        case measure => simp [intOf]; omega
      · obtain rfl : q = n3 := by omega
        go_wp2_with fail
        go_ret2
        have o := hOC.out
        rw [List.take_of_length_le (by rw [pI_len, HN3.out]; exact Nat.le_refl _), HLI.out] at o
        exact ⟨_, rfl, o.base (b := w.heap.size) (by omega), sr.2.2.2⟩


set_option maxRecDepth 100000 in
set_option maxHeartbeats 4000000 in
theorem kCounts_any (c r : Value) (d : Int) (co : List (Int × Int)) (rs : List (List Int)) (x : Int) (w : World) (h : CtAt w c r co rs) (hok : tabOk co d rs = true) (hx : inCol co.length x = true) :
    Calls Tryd.prog 34 #[cv c d r, .int .i64 x] w fun e w' => ∃ v, e = .returned v ∧ OwnI w' w.heap.size v (cntW (fun s => resI d rs s x) (pS d.toNat)) ∧ Kp w w' := by
  obtain ⟨A, c1, ec, hA⟩ := h.rc
  obtain ⟨B, c2, vs, er, hvs, hB, hI⟩ := h.rr
  obtain ⟨m, hm⟩ : ∃ m, co.length = m := ⟨_, rfl⟩
  obtain ⟨n, hn⟩ : ∃ n, rs.length = n := ⟨_, rfl⟩
  rw [hm] at ec hA
  rw [hn] at er hvs hB
  subst ec er
  have HL := Lib.hid h
  have HA := Lib.hid hA
  have HB := Lib.hid hB
  have HI := Lib.hid hI
  have HV := Lib.hid hvs
  have HM := Lib.hid hm
  have HN := Lib.hid hn
  have hmb : m ≤ 1048576 := by have := h.bc; omega
  have hnb : n ≤ 1048576 := by have := h.br; omega
  obtain ⟨L, hL⟩ : ∃ L, L = cntW (fun s => resI d rs s x) (pS d.toNat) := ⟨_, rfl⟩
  rw [← hL]
  have RC := Lib.hid (fun q h1 h2 => res_both (x := x) (d := d) h hok hx q h1 h2)
  have hmk := fun w => mkCnt w
  obtain ⟨hd1, hd2⟩ := tabOk_d hok
  obtain ⟨D, hD⟩ : ∃ D : Nat, D = d.toNat := ⟨_, rfl⟩
  have HdD := Lib.hid (show d = (D : Int) by omega)
  have HLI : Hid (cntW (fun s => resI d rs s x) (pS D) = L) := Lib.hid (by rw [hL, hD])
  have KA : Kp w (w.alloc (.cells #[.slice A m c1, .int .i64 d, .slice B n c2] 26)) := (Kp.refl w).alloc _
  have s0 : (w.alloc (.cells #[.slice A m c1, .int .i64 d, .slice B n c2] 26)).cell? ⟨w.heap.size, 0, none⟩ = some (.slice A m c1) ∧ (w.alloc (.cells #[.slice A m c1, .int .i64 d, .slice B n c2] 26)).cell? ⟨w.heap.size, 1, none⟩ = some (.int .i64 d) ∧ (w.alloc (.cells #[.slice A m c1, .int .i64 d, .slice B n c2] 26)).cell? ⟨w.heap.size, 2, none⟩ = some (.slice B n c2) ∧ Kp w (w.alloc (.cells #[.slice A m c1, .int .i64 d, .slice B n c2] 26)) := ⟨by simp [go_sem], by simp [go_sem], by simp [go_sem], KA⟩
  clear h hok hx hvs hA hB hI hm hn hL hD
  generalize hF : (fun s => resI d rs s x) = F at HLI
  have HF := Lib.hid hF
  clear hF
  have ka : Kp (w.alloc (.cells #[.slice A m c1, .int .i64 d, .slice B n c2] 26)) ((w.alloc (.cells #[.slice A m c1, .int .i64 d, .slice B n c2] 26)).alloc (.cells (madeCells #[.int .i64 0] 8) 3)) := (Kp.refl _).alloc _
  have s3 := kc3 ka s0
  have OC3 : Hid (OwnI ((w.alloc (.cells #[.slice A m c1, .int .i64 d, .slice B n c2] 26)).alloc (.cells (madeCells #[.int .i64 0] 8) 3)) (w.heap.size + 1) (.slice (some ⟨w.heap.size + 1, 0, none⟩) 8 8) (cntW F ((pS D).take 0))) := Lib.hid (by have := ownI_zero (w.alloc (.cells #[.slice A m c1, .int .i64 d, .slice B n c2] 26)) 8 (by omega); simp only [World.size_alloc] at this; exact this)
  have hbw : w.heap.size < w.heap.size + 1 := by omega
  go_enter Tryd.func34, Tryd.ntmps34
  go_wp2_with fail
  generalize (w.alloc (.cells #[.slice A m c1, .int .i64 d, .slice B n c2] 26)).alloc (.cells (madeCells #[.int .i64 0] 8) 3) = W3 at *
  generalize w.heap.size + 1 = G at *
  clear ka s0 KA hmk
  go_loopw [6] (fun i wx => ∃ q : Nat, q ≤ 5 * D + 1 ∧ i = .int .i64 (d + (q : Int)) ∧ Hid (OwnI wx G (.slice (some ⟨G, 0, none⟩) 8 8) (cntW F ((pS D).take q))) ∧ wx.cell? ⟨w.heap.size, 0, none⟩ = some (.slice A m c1) ∧ wx.cell? ⟨w.heap.size, 1, none⟩ = some (.int .i64 d) ∧ wx.cell? ⟨w.heap.size, 2, none⟩ = some (.slice B n c2) ∧ Kp w wx) (fun i _ => 20 - (intOf i).toNat)
  case atStart => exact ⟨0, by omega, by simp, OC3, s3⟩
  case round =>
    clear OC3 s3
    obtain ⟨q, hq, rfl, hOC, sr⟩ := hrel
    have hdD := HdD.out
    by_cases hlt : q < 5 * D + 1
    · have hle : d + (q : Int) ≤ 6 * d := by omega
      obtain ⟨ρ, hρ⟩ : ∃ ρ : Int, ρ = d + (q : Int) := ⟨_, rfl⟩
      have HP : Hid ((pS D)[q]? = some (ρ, wayI d ρ)) := Lib.hid (by rw [pS_at hlt, hρ, hdD])
      have hwb : 0 ≤ wayI d ρ ∧ wayI d ρ ≤ 6 := by rw [hρ, hdD]; exact way_bd (by omega) (by omega) hlt
      obtain ⟨y, hy8, hfy, _, CR0⟩ := RC.out ρ (by omega) (by omega)
      have CR := Lib.hid CR0
      have HS := Lib.hid (cntW_more HP.out (show F (ρ, wayI d ρ).1 = y by rw [← HF.out]; exact hfy))
      have hb := cntR_tk (f := F) (y : Int) (pS_bd (D := D) (by omega) (by omega)) (by rw [pS_len]; omega) q
      have HAT := Lib.hid (cntW_at (f := F) (P := (pS D).take q) hy8)
      generalize cntR F ((pS D).take q) (y : Int) = C at HS hb HAT
      simp only at HS
      have kr := sr.2.2.2
      have hyy : (y : Int) < 8 := by omega
      have hne : w.heap.size ≠ G := by omega
      have hgw : w.heap.size ≤ G := by omega
      have hr1 : 0 ≤ ρ := by omega
      have hr2 : ρ ≤ 20 := by omega
      have hr3 : ρ ≤ 6 * d := by omega
      have hr4 : Hid (ρ + 1 = d + ((q + 1 : Nat) : Int)) := Lib.hid (by omega)
      have hms : Hid (20 - (ρ + 1).toNat < 20 - ρ.toNat) := Lib.hid (by omega)
      have s1 : wr.drew.cell? ⟨w.heap.size, 0, none⟩ = some (.slice A m c1) ∧ wr.drew.cell? ⟨w.heap.size, 1, none⟩ = some (.int .i64 d) ∧ wr.drew.cell? ⟨w.heap.size, 2, none⟩ = some (.slice B n c2) ∧ Kp w wr.drew := kd3 sr
      have ew : IntKind.i64.wrap (C + wayI d ρ) = C + wayI d ρ := IntWalk.i64_in _ (by omega)
      rw [← hρ]
      clear hfy CR0 hdD hρ
      go_wp2_with fail
      refine wp_region_held_drew (S := (fun w' => w'.cell? ⟨w.heap.size, 0, none⟩ = some (.slice A m c1) ∧ w'.cell? ⟨w.heap.size, 1, none⟩ = some (.int .i64 d) ∧ w'.cell? ⟨w.heap.size, 2, none⟩ = some (.slice B n c2) ∧ Kp w w')) (by kernel_rfl) ?_ (fun hHeld => ?_)
      · exact s1
      refine wpAnyH_take (i := 0) (oi := ⟨some 17, _, _, _, _, _⟩) (v := ?_) rfl (by kernel_rfl) (by kernel_rfl) (by kernel_rfl) (fun _ _ _ h => h) (Or.inl ⟨by rfl, ?_⟩) (by assumption) ?_
      rotate_left
      · intro w hSw; (try dsimp only at hSw); go_simp; (all_goals with_reducible rfl)
      simp only [Act.put, List.setIfInBounds_toArray, List.set_cons_zero, List.set_cons_succ]
      refine wpAnyH_take (i := 1) (oi := ⟨some 18, _, _, _, _, _⟩) (v := ?_) rfl (by kernel_rfl) (by kernel_rfl) (by kernel_rfl) (fun _ _ _ h => h) (Or.inl ⟨by rfl, ?_⟩) (by assumption) ?_
      rotate_left
      · intro w hSw; (try dsimp only at hSw); go_simp; (all_goals with_reducible rfl)
      simp only [Act.put, List.setIfInBounds_toArray, List.set_cons_zero, List.set_cons_succ]
      refine wpAnyH_take (i := 2) (oi := ⟨some 19, _, _, _, _, _⟩) (v := ?_) rfl (by kernel_rfl) (by kernel_rfl) (by kernel_rfl) (fun _ _ _ h => h) (Or.inl ⟨by rfl, ?_⟩) (by assumption) ?_
      rotate_left
      · intro w hSw; (try dsimp only at hSw); go_simp; (all_goals with_reducible rfl)
      simp only [Act.put, List.setIfInBounds_toArray, List.set_cons_zero, List.set_cons_succ]
      refine wpAnyH_take (i := 3) (oi := ⟨some 20, _, _, _, _, _⟩) (v := ?_) rfl (by kernel_rfl) (by kernel_rfl) (by kernel_rfl) (fun _ _ _ h => h) (Or.inl ⟨by rfl, ?_⟩) (by assumption) ?_
      rotate_left
      · intro w hSw; (try dsimp only at hSw); go_simp; (all_goals with_reducible rfl)
      simp only [Act.put, List.setIfInBounds_toArray, List.set_cons_zero, List.set_cons_succ]
      refine wpAnyH_take (i := 7) (oi := ⟨some 24, _, _, _, _, _⟩) (v := ?_) rfl (by kernel_rfl) (by kernel_rfl) (by kernel_rfl) (fun _ _ _ h => h) (Or.inl ⟨by rfl, ?_⟩) (by assumption) ?_
      rotate_left
      · intro w hSw; (try dsimp only at hSw); go_simp; (all_goals with_reducible rfl)
      simp only [Act.put, List.setIfInBounds_toArray, List.set_cons_zero, List.set_cons_succ]
      refine wpAnyH_take (i := 8) (oi := ⟨some 25, _, _, _, _, _⟩) (v := ?_) rfl (by kernel_rfl) (by kernel_rfl) (by kernel_rfl) (fun _ _ _ h => h) (Or.inl ⟨by rfl, ?_⟩) (by assumption) ?_
      rotate_left
      · intro w hSw; (try dsimp only at hSw); go_simp; (all_goals with_reducible rfl)
      simp only [Act.put, List.setIfInBounds_toArray, List.set_cons_zero, List.set_cons_succ]
      refine wpAnyH_take (i := 9) (oi := ⟨some 26, _, _, _, _, _⟩) (v := ?_) rfl (by kernel_rfl) (by kernel_rfl) (by kernel_rfl) (fun _ _ _ h => h) (Or.inl ⟨by rfl, ?_⟩) (by assumption) ?_
      rotate_left
      · intro w hSw; (try dsimp only at hSw); go_simp; (all_goals with_reducible rfl)
      simp only [Act.put, List.setIfInBounds_toArray, List.set_cons_zero, List.set_cons_succ]
      refine wpAnyH_ready (rs := [4]) (by kernel_rfl) (by simp) ?_
      refine (AllReadyH.cons (o := ⟨some 21, _, _, _, _, _⟩) rfl (fun K hK => ?_) AllReadyH.nil)
      · go_simp
        refine (CR.out _ hHeld.2.2.2).mono ?_
        rintro e5 w5 ⟨rfl, k5⟩
        have s5 := kc3 k5 hHeld
        have k01 : Kp wr w5 := (Kp.refl wr).drew.trans k5
        obtain ⟨g', eg, a1⟩ := (hOC.out.keep k01).cellAt' HAT.out
        obtain rfl : G = g' := by simpa using eg
        clear eg
        go_wp2_with fail
        refine hK.out _ _ ?_ (fun hHeld => ?_)
        · (try dsimp only); (first | assumption | exact s5 | exact hHeld)
        clear hK K
        try simp only [Act.put, List.setIfInBounds_toArray, List.set_cons_zero, List.set_cons_succ]
        refine wpAnyH_take (i := 5) (oi := ⟨some 22, _, _, _, _, _⟩) (v := ?_) rfl (by kernel_rfl) (by kernel_rfl) (by kernel_rfl) (fun _ _ _ h => h) (Or.inl ⟨by rfl, ?_⟩) (by assumption) ?_
        rotate_left
        · intro w hSw; (try dsimp only at hSw); go_simp; (all_goals with_reducible rfl)
        simp only [Act.put, List.setIfInBounds_toArray, List.set_cons_zero, List.set_cons_succ]
        refine wpAnyH_ready (rs := [6, 10]) (by kernel_rfl) (by simp) ?_
        refine (AllReadyH.cons (o := ⟨some 23, _, _, _, _, _⟩) rfl (fun K hK => ?_) (AllReadyH.cons (o := ⟨some 27, _, _, _, _, _⟩) rfl (fun K hK => ?_) AllReadyH.nil))
        · go_simp
          go_wp2_with fail
          refine hK.out _ _ ?_ (fun hHeld => ?_)
          · (try dsimp only); (first | assumption | exact s5 | exact hHeld)
          clear hK K
          try simp only [Act.put, List.setIfInBounds_toArray, List.set_cons_zero, List.set_cons_succ]
          refine wpAnyH_ready (rs := [10]) (by kernel_rfl) (by simp) ?_
          refine (AllReadyH.cons (o := ⟨some 27, _, _, _, _, _⟩) rfl (fun K hK => ?_) AllReadyH.nil)
          · go_simp
            refine (kWays_any _ _ _ hd1 hd2 hr1 hr2).mono ?_
            rintro e6 w6 ⟨rfl, rfl⟩
            go_wp2_with fail
            refine hK.out _ _ ?_ (fun hHeld => ?_)
            · (try dsimp only); (first | assumption | exact s5 | exact hHeld)
            clear hK K
            try simp only [Act.put, List.setIfInBounds_toArray, List.set_cons_zero, List.set_cons_succ]
            refine wpAnyH_take (i := 11) (oi := ⟨some 28, _, _, _, _, _⟩) (v := ?_) rfl (by kernel_rfl) (by kernel_rfl) (by kernel_rfl) (fun _ _ _ h => h) (Or.inl ⟨by rfl, ?_⟩) (by assumption) ?_
            rotate_left
            · intro w hSw; (try dsimp only at hSw); go_simp; (all_goals with_reducible rfl)
            simp only [Act.put, List.setIfInBounds_toArray, List.set_cons_zero, List.set_cons_succ]
            refine wpAnyH_take (i := 12) (oi := ⟨some 29, _, _, _, _, _⟩) (v := ?_) rfl (by kernel_rfl) (by kernel_rfl) (by kernel_rfl) (fun _ _ _ h => h) (Or.inl ⟨by rfl, ?_⟩) (by assumption) ?_
            rotate_left
            · intro w hSw; (try dsimp only at hSw); go_simp; (all_goals with_reducible rfl)
            simp only [Act.put, List.setIfInBounds_toArray, List.set_cons_zero, List.set_cons_succ]
            obtain ⟨_, hf, hput⟩ := (hOC.out.keep k01).put (cntW_len _ _) hy8 (C + wayI d ρ)
            have O1 : Hid (OwnI (w5.setCell ⟨G, y, none⟩ (.int .i64 (C + wayI d ρ))) G (.slice (some ⟨G, 0, none⟩) 8 8) (cntW F ((pS D).take (q + 1)))) := Lib.hid (by rw [HS.out]; exact hput)
            have s6 := kf3 (j := y) (u := .int .i64 (C + wayI d ρ)) hne hgw s5
            clear hput
            refine wpAnyH_ready (rs := [13]) (by kernel_rfl) (by simp) ?_
            refine AllReadyH.cons (o := ⟨none, _, _, _, _, _⟩) rfl (fun K hK => ?_) AllReadyH.nil
            go_simp
            go_wp2_with fail
            try rw [ew]
            refine hK.out _ _ s6 (fun hHeld => ?_)
            clear hK K
            try simp only [Act.put, List.setIfInBounds_toArray, List.set_cons_zero, List.set_cons_succ]
            refine wpAnyH_done (by kernel_rfl) ?_ _
            clear s5 hHeld ew
            go_wp2_with fail
            go_roundw
            case rel => exact ⟨q + 1, by omega, by rw [← hr4.out], O1, s6⟩
            case measure => simp [intOf]; omega
        · go_simp
          refine (kWays_any _ _ _ hd1 hd2 hr1 hr2).mono ?_
          rintro e6 w6 ⟨rfl, rfl⟩
          go_wp2_with fail
          refine hK.out _ _ ?_ (fun hHeld => ?_)
          · (try dsimp only); (first | assumption | exact s5 | exact hHeld)
          clear hK K
          try simp only [Act.put, List.setIfInBounds_toArray, List.set_cons_zero, List.set_cons_succ]
          refine wpAnyH_ready (rs := [6]) (by kernel_rfl) (by simp) ?_
          refine (AllReadyH.cons (o := ⟨some 23, _, _, _, _, _⟩) rfl (fun K hK => ?_) AllReadyH.nil)
          · go_simp
            go_wp2_with fail
            refine hK.out _ _ ?_ (fun hHeld => ?_)
            · (try dsimp only); (first | assumption | exact s5 | exact hHeld)
            clear hK K
            try simp only [Act.put, List.setIfInBounds_toArray, List.set_cons_zero, List.set_cons_succ]
            refine wpAnyH_take (i := 11) (oi := ⟨some 28, _, _, _, _, _⟩) (v := ?_) rfl (by kernel_rfl) (by kernel_rfl) (by kernel_rfl) (fun _ _ _ h => h) (Or.inl ⟨by rfl, ?_⟩) (by assumption) ?_
            rotate_left
            · intro w hSw; (try dsimp only at hSw); go_simp; (all_goals with_reducible rfl)
            simp only [Act.put, List.setIfInBounds_toArray, List.set_cons_zero, List.set_cons_succ]
            refine wpAnyH_take (i := 12) (oi := ⟨some 29, _, _, _, _, _⟩) (v := ?_) rfl (by kernel_rfl) (by kernel_rfl) (by kernel_rfl) (fun _ _ _ h => h) (Or.inl ⟨by rfl, ?_⟩) (by assumption) ?_
            rotate_left
            · intro w hSw; (try dsimp only at hSw); go_simp; (all_goals with_reducible rfl)
            simp only [Act.put, List.setIfInBounds_toArray, List.set_cons_zero, List.set_cons_succ]
            obtain ⟨_, hf, hput⟩ := (hOC.out.keep k01).put (cntW_len _ _) hy8 (C + wayI d ρ)
            have O1 : Hid (OwnI (w5.setCell ⟨G, y, none⟩ (.int .i64 (C + wayI d ρ))) G (.slice (some ⟨G, 0, none⟩) 8 8) (cntW F ((pS D).take (q + 1)))) := Lib.hid (by rw [HS.out]; exact hput)
            have s6 := kf3 (j := y) (u := .int .i64 (C + wayI d ρ)) hne hgw s5
            clear hput
            refine wpAnyH_ready (rs := [13]) (by kernel_rfl) (by simp) ?_
            refine AllReadyH.cons (o := ⟨none, _, _, _, _, _⟩) rfl (fun K hK => ?_) AllReadyH.nil
            go_simp
            go_wp2_with fail
            try rw [ew]
            refine hK.out _ _ s6 (fun hHeld => ?_)
            clear hK K
            try simp only [Act.put, List.setIfInBounds_toArray, List.set_cons_zero, List.set_cons_succ]
            refine wpAnyH_done (by kernel_rfl) ?_ _
            clear s5 hHeld ew
            go_wp2_with fail
            go_roundw
            case rel => exact ⟨q + 1, by omega, by rw [← hr4.out], O1, s6⟩
            case measure => simp [intOf]; omega
    · have hq5 : q = 5 * D + 1 := by omega
      have hgt : ¬ d + (q : Int) ≤ 6 * d := by omega
      have o := hOC.out
      rw [hq5, List.take_of_length_le (by rw [pS_len]; exact Nat.le_refl _), HLI.out] at o
      have OO := Lib.hid o
      clear o hOC hq5 hdD
      go_wp2_with fail
      go_ret
      exact ⟨_, rfl, OO.out.base (b := w.heap.size) (by omega), sr.2.2.2⟩

end Go.Proofs.YtjpfmckoodalnaaDoor
