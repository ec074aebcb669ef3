/-
  Texts of this seat in one module: ImR, BfT, RuS.
-/
import Derived.Test.YtpdcmpojjchobaaDoorBuc
import Derived.Test.YtpdcmpojjchobaaDoorBud

/-
  RulesText of the program. The named variables hold what the program's text lays.
-/
namespace Go.Proofs.YtpdcmpojjchobaaDoor
open Go.RowKit

/-- The names of the limits, as the program's text lays them. -/
def LimAt (w : World) : Prop := ∀ (j : Nat) nm, limW[j]? = some nm → w.cell? ⟨0, j, none⟩ = some (.string (txt nm))
theorem LimAt.keep {w w' : World} (h : LimAt w) (k : Kp w w') : LimAt w' := fun j nm hj => k.cell (h j nm hj)
structure SpL (w : World) : Prop where
  sp : SpP w
  lim : LimAt w
theorem SpL.keep {w w' : World} (h : SpL w) (k : Kp w w') : SpL w' := ⟨h.sp.keep k, h.lim.keep k⟩

theorem isBuilder_keep {T e : TypeId} {B b : Nat} {bs : List Value} {w w' : World} (h : Lib.IsBuilder T e B b bs w) (k : Kp w w') : Lib.IsBuilder T e B b bs w' := by
  have one : ∀ p, Lib.BuilderAt T e B b p bs w → Lib.BuilderAt T e B b p bs w' := fun p ⟨hB, v, hb, ho, hn⟩ =>
    ⟨hB, v, (k.block b (by
      rcases Nat.lt_or_ge b w.heap.size with h' | h'
      · exact h'
      · simp [Array.getElem?_eq_none h'] at hb)).trans hb, ownsRow_keep ho k, hn⟩
  rcases h with h | h
  · exact .inl (one _ h)
  · exact .inr (one _ h)
set_option maxRecDepth 100000 in
theorem idx5 (b q : Nat) (w : World) (h : q < 5) : Sem.run Tryd.prog (Instr.index 77 (.agg #[.pointer (some ⟨b, 2, none⟩), .pointer (some ⟨b, 3, none⟩), .pointer (some ⟨b, 4, none⟩), .pointer (some ⟨b, 5, none⟩), .pointer (some ⟨b, 6, none⟩)]) (.int .i64 (q : Int))) w = .ok (.pointer (some ⟨b, 2 + q, none⟩)) w := by
  have hq5 : q = 0 ∨ q = 1 ∨ q = 2 ∨ q = 3 ∨ q = 4 := by omega
  rcases hq5 with rfl | rfl | rfl | rfl | rfl <;> rfl
theorem strCells_txt (l : List UInt8) : Lib.strCells (txt l) = Lib.byteCells l := rfl
theorem limLine_nums {nm : List UInt8} {x : Int} (h : 0 ≤ x) : nm ++ numsT [x] ++ [10] = limLine (nm, x) := by
  simp [numsT, limLine, itoa_pos h]

set_option maxRecDepth 100000 in
set_option maxHeartbeats 16000000 in
theorem implRulesText_yes (At Ak : Option Addr) (nt nk ct ck : Nat) (l : List Ter) (m : List Knd) (a b c d e : Int) (w : World) (hs : SpL w) (h : RulAt w At Ak nt nk l m) (hok : rulOk ⟨l, m, a, b, c, d, e⟩ = true) :
    Calls Tryd.prog 16 #[rv (.slice At nt ct) (.slice Ak nk ck) a b c d e] w fun e' w' => e' = .returned (.tuple #[.string (txt (rulTx ⟨l, m, a, b, c, d, e⟩)), .bool true]) ∧ Kp w w' := by
  have KA : Kp w (w.alloc (.cells #[.slice At nt ct, .slice Ak nk ck, .int .i64 a, .int .i64 b, .int .i64 c, .int .i64 d, .int .i64 e] 32)) := (Kp.refl w).alloc _
  have s0 : (w.alloc (.cells #[.slice At nt ct, .slice Ak nk ck, .int .i64 a, .int .i64 b, .int .i64 c, .int .i64 d, .int .i64 e] 32)).cell? ⟨w.heap.size, 0, none⟩ = some (.slice At nt ct) ∧ (w.alloc (.cells #[.slice At nt ct, .slice Ak nk ck, .int .i64 a, .int .i64 b, .int .i64 c, .int .i64 d, .int .i64 e] 32)).cell? ⟨w.heap.size, 1, none⟩ = some (.slice Ak nk ck) ∧ (w.alloc (.cells #[.slice At nt ct, .slice Ak nk ck, .int .i64 a, .int .i64 b, .int .i64 c, .int .i64 d, .int .i64 e] 32)).cell? ⟨w.heap.size, 2, none⟩ = some (.int .i64 a) ∧ (w.alloc (.cells #[.slice At nt ct, .slice Ak nk ck, .int .i64 a, .int .i64 b, .int .i64 c, .int .i64 d, .int .i64 e] 32)).cell? ⟨w.heap.size, 3, none⟩ = some (.int .i64 b) ∧ (w.alloc (.cells #[.slice At nt ct, .slice Ak nk ck, .int .i64 a, .int .i64 b, .int .i64 c, .int .i64 d, .int .i64 e] 32)).cell? ⟨w.heap.size, 4, none⟩ = some (.int .i64 c) ∧ (w.alloc (.cells #[.slice At nt ct, .slice Ak nk ck, .int .i64 a, .int .i64 b, .int .i64 c, .int .i64 d, .int .i64 e] 32)).cell? ⟨w.heap.size, 5, none⟩ = some (.int .i64 d) ∧ (w.alloc (.cells #[.slice At nt ct, .slice Ak nk ck, .int .i64 a, .int .i64 b, .int .i64 c, .int .i64 d, .int .i64 e] 32)).cell? ⟨w.heap.size, 6, none⟩ = some (.int .i64 e) := ⟨by simp [go_sem], by simp [go_sem], by simp [go_sem], by simp [go_sem], by simp [go_sem], by simp [go_sem], by simp [go_sem]⟩
  have HL := Lib.hid (h.keep KA)
  have HS := Lib.hid hs
  have CG : Hid (∀ w, Spans w → RulAt w At Ak nt nk l m → Calls Tryd.prog 34 #[rv (.slice At nt ct) (.slice Ak nk ck) a b c d e] w fun e' w' => e' = .returned (.bool true) ∧ Kp w w') := Lib.hid (fun w hs h => by
    have := isRules_any At Ak nt nk ct ck l m a b c d e w hs h
    rw [hok] at this
    exact this)
  have HT := Lib.hid h.rt.2
  have HKK := Lib.hid h.rk.2
  have hlt : l.length = nt := h.rt.1
  have hlk : m.length = nk := h.rk.1
  have hb := rulOk_len hok
  have hn1 : nt ≤ 6 := by omega
  have hn2 : nk ≤ 4 := by omega
  have hn3 : 1 ≤ nk := by omega
  have HKS := Lib.hid (rulOk_knds hok)
  have HTS := Lib.hid (rulOk_ters hok)
  have hlim := rulOk_lim hok
  have HV : Hid (∀ x ∈ [a, b, c, d, e], 0 ≤ x ∧ x < 100) := Lib.hid (fun x hx => by
    simp only [List.mem_cons, List.not_mem_nil, or_false] at hx
    rcases hx with rfl | rfl | rfl | rfl | rfl <;> omega)
  have HVL := Lib.hid (limsT_len [a, b, c, d, e] (fun x hx => (HV.out x hx).2) rfl)
  have HKL := Lib.hid (fun (q : Nat) => kndsT_len (m.take q) (fun x hx => HKS.out x (List.mem_of_mem_take hx)))
  have HTL := Lib.hid (fun (q : Nat) => tersT_len m.length (by omega) (l.take q) (fun x hx => HTS.out x (List.mem_of_mem_take hx)))
  have HLT := Lib.hid hlt
  have HLK := Lib.hid hlk
  obtain ⟨vs, hvs⟩ : ∃ vs, vs = [a, b, c, d, e] := ⟨_, rfl⟩
  have hvl : vs.length = 5 := by rw [hvs]; rfl
  have HVLEN := Lib.hid hvl
  have HVS := Lib.hid hvs
  rw [← hvs] at HV HVL
  have HR : Hid (rulTx ⟨l, m, a, b, c, d, e⟩ = limsT vs 5 ++ kndsT m ++ tersT l) := Lib.hid (by rw [hvs]; rfl)
  clear h hs hok hlt hlk hb hlim hvs hvl
  go_enter Tryd.func16, Tryd.ntmps16
  go_wp2_with fail
  refine (CG.out _ (HS.out.sp.sp.keep KA) HL.out).mono ?_
  rintro e1 w1 ⟨rfl, k1⟩
  have s1 := keepc7 k1 s0
  have K1 := KA.trans k1
  have hz1 : w.heap.size < w1.heap.size := by have := k1.size; simp at this; omega
  have kb1 : Kp w1 (w1.alloc (.cells #[.pointer none, .slice none 0 0] 75)) := (Kp.refl w1).alloc _
  have s2 := keepc7 kb1 s1
  have F0 := Lib.hid (Lib.fresh_isBuilder 75 5 w1)
  have KB := K1.trans kb1
  clear s0 k1 s1 KA
  go_wp2_with fail
  generalize hWB : w1.alloc (.cells #[.pointer none, .slice none 0 0] 75) = WB at *
  have hzB : w1.heap.size < WB.heap.size := by rw [← hWB]; simp
  clear hWB
  obtain ⟨t0, t1, t2, t3, t4, t5, t6⟩ := s2
  refine (limitsOf_any w.heap.size WB _ _ _ _ _ t2 t3 t4 t5 t6).mono ?_
  rintro e2 w2 ⟨rfl, k2⟩
  have F2 : Hid (Lib.IsBuilder 75 5 w1.heap.size w1.heap.size (Lib.byteCells (limsT vs 0)) w2) := Lib.hid (by
    have := isBuilder_keep F0.out k2
    simpa [limsT, Lib.byteCells] using this)
  have HS2 := Lib.hid (And.intro t0 (And.intro t1 (And.intro t2 (And.intro t3 (And.intro t4 (And.intro t5 t6))))))
  have KBL : Below w1.heap.size WB w2 := Below.mono k2 (by omega)
  have hz2 : w1.heap.size < w2.heap.size := by have := k2.size; omega
  clear F0 k2 t0 t1 t2 t3 t4 t5 t6
  go_wp2_with fail
  go_loopw [5, 6, 15] (fun _ _ i wr => ∃ q : Nat, q ≤ 5 ∧ i = .int .i64 q ∧ Hid (Lib.IsBuilder 75 5 w1.heap.size w1.heap.size (Lib.byteCells (limsT vs q)) wr) ∧ w1.heap.size < wr.heap.size ∧ Below w1.heap.size WB wr) (fun _ _ i _ => 5 - (intOf i).toNat)
  case atStart => exact ⟨0, by omega, rfl, F2, hz2, KBL⟩
  case round =>
    clear F2 KBL hz2
    obtain ⟨q, hq, rfl, HBu, hzr, kbl⟩ := hrel
    have kr : Kp w wr := Below.trans KB (Below.mono kbl (Nat.le_of_lt hz1))
    have s3 : wr.cell? ⟨w.heap.size, 0, none⟩ = some (.slice At nt ct) ∧ wr.cell? ⟨w.heap.size, 1, none⟩ = some (.slice Ak nk ck) ∧ wr.cell? ⟨w.heap.size, 2, none⟩ = some (.int .i64 a) ∧ wr.cell? ⟨w.heap.size, 3, none⟩ = some (.int .i64 b) ∧ wr.cell? ⟨w.heap.size, 4, none⟩ = some (.int .i64 c) ∧ wr.cell? ⟨w.heap.size, 5, none⟩ = some (.int .i64 d) ∧ wr.cell? ⟨w.heap.size, 6, none⟩ = some (.int .i64 e) := ⟨(kbl.cell (show w.heap.size < w1.heap.size from hz1)).trans HS2.out.1, (kbl.cell (show w.heap.size < w1.heap.size from hz1)).trans HS2.out.2.1, (kbl.cell (show w.heap.size < w1.heap.size from hz1)).trans HS2.out.2.2.1, (kbl.cell (show w.heap.size < w1.heap.size from hz1)).trans HS2.out.2.2.2.1, (kbl.cell (show w.heap.size < w1.heap.size from hz1)).trans HS2.out.2.2.2.2.1, (kbl.cell (show w.heap.size < w1.heap.size from hz1)).trans HS2.out.2.2.2.2.2.1, (kbl.cell (show w.heap.size < w1.heap.size from hz1)).trans HS2.out.2.2.2.2.2.2⟩
    by_cases hlt : q < 5
    · have hlt' : (q : Int) < 5 := by omega
      obtain ⟨nm, hnm, hnl⟩ := limW_at hlt
      obtain ⟨x, hx⟩ : ∃ x, vs[q]? = some x := ⟨vs[q]'(by have := HVLEN.out; omega), List.getElem?_eq_getElem _⟩
      have a0 := kr.cell (HS.out.lim q nm hnm)
      have hx1 := HV.out x (List.mem_of_getElem? hx)
      have hp1 : wr.cell? ⟨w.heap.size, 2 + q, none⟩ = some (.int .i64 x) := by
        rw [HVS.out] at hx
        obtain ⟨t0, t1, t2, t3, t4, t5, t6⟩ := s3
        match q, hlt, hx with
        | 0, _, hx => simp at hx; subst hx; exact t2
        | 1, _, hx => simp at hx; subst hx; exact t3
        | 2, _, hx => simp at hx; subst hx; exact t4
        | 3, _, hx => simp at hx; subst hx; exact t5
        | 4, _, hx => simp at hx; subst hx; exact t6
      have hix := idx5 w.heap.size q wr hlt
      have kx : Kp wr ((wr.alloc (.cells #[.int .i64 x] 3)).drew) := ((Kp.refl wr).alloc _).drew
      have hgl : 0 < w.heap.size := cell_lt (HS.out.lim q nm hnm)
      obtain ⟨sn, hsn⟩ : ∃ y, txt nm = y := ⟨_, rfl⟩
      have hld : sn.data.toList = nm := by rw [← hsn]; simp [txt]
      have CN : Hid (∀ W g, W.cell? ⟨g, 0, none⟩ = some (.int .i64 x) → Calls Tryd.prog 44 #[.string sn, .slice (some ⟨g, 0, none⟩) 1 1] W fun e w' => e = .returned (.string (txt (limLine (nm, x)))) ∧ Kp W w') := Lib.hid (fun W g hg => by
        have := numbersLine_any sn (.slice (some ⟨g, 0, none⟩) 1 1) [x] W ⟨_, _, rfl, fun _ => ⟨_, _, rfl, fun i y hy => by
          match i, hy with
          | 0, hy => simp only [List.getElem?_cons_zero, Option.some.injEq] at hy; subst hy; exact hg
          | i + 1, hy => simp at hy⟩⟩ (by simp) (fun y hy w' _ => itoa_small y w' (by simp only [List.mem_cons, List.not_mem_nil, or_false] at hy; subst hy; exact hx1.1) (by simp only [List.mem_cons, List.not_mem_nil, or_false] at hy; subst hy; exact hx1.2)) (by
          rw [hld, List.length_append]
          have h1 := itoa_len2 (n := x) (by omega) hx1.2
          simp only [numsT, List.flatMap_cons, List.flatMap_nil, List.append_nil, List.length_cons]
          omega)
        rw [hld, limLine_nums hx1.1] at this
        exact this)
      have HLL : Hid ((txt (limLine (nm, x))).size ≤ 10) := Lib.hid (by rw [txt_size]; exact limLine_len hnl hx1.2)
      have HM := Lib.hid (limsT_more hnm hx)
      have HVQ := Lib.hid (HVL.out q (by omega))
      rw [hsn] at a0
      obtain ⟨sl, hsl⟩ : ∃ y, txt (limLine (nm, x)) = y := ⟨_, rfl⟩
      have HSL : Hid (Lib.strCells sl = Lib.byteCells (limLine (nm, x))) := Lib.hid (by rw [← hsl]; exact strCells_txt _)
      rw [hsl] at CN HLL
      have s1 : wr.drew.cell? ⟨0, q, none⟩ = some (.string sn) ∧ wr.drew.cell? ⟨w.heap.size, 2 + q, none⟩ = some (.int .i64 x) ∧ Below w1.heap.size wr wr.drew := ⟨a0, hp1, (Below.refl _ _).drew⟩
      clear hnm hx hx1 hsn hld hsl s3
      go_wp2_with fail
      refine wp_region_held_drew (S := (fun w' => w'.cell? ⟨0, q, none⟩ = some (.string sn) ∧ w'.cell? ⟨w.heap.size, 2 + q, none⟩ = some (.int .i64 x) ∧ Below w1.heap.size wr w')) (by kernel_rfl) ?_ (fun hHeld => ?_)
      · exact s1
      refine wpAnyH_take (i := 0) (oi := ⟨some 19, _, _, _, _, _⟩) (v := ?_) rfl (by kernel_rfl) (by kernel_rfl) (by kernel_rfl) (fun _ _ _ h => h) (Or.inl ⟨by rfl, ?_⟩) (by assumption) ?_
      rotate_left
      · intro w hSw; (try dsimp only at hSw); go_simp; (all_goals with_reducible rfl)
      simp only [Act.put, List.setIfInBounds_toArray, List.set_cons_zero, List.set_cons_succ]
      refine wpAnyH_take (i := 1) (oi := ⟨some 20, _, _, _, _, _⟩) (v := ?_) rfl (by kernel_rfl) (by kernel_rfl) (by kernel_rfl) (fun _ _ _ h => h) (Or.inl ⟨by rfl, ?_⟩) (by assumption) ?_
      rotate_left
      · intro w hSw; (try dsimp only at hSw); go_simp; (all_goals with_reducible rfl)
      simp only [Act.put, List.setIfInBounds_toArray, List.set_cons_zero, List.set_cons_succ]
      refine wpAnyH_take (i := 2) (oi := ⟨some 21, _, _, _, _, _⟩) (v := ?_) rfl (by kernel_rfl) (by kernel_rfl) (by kernel_rfl) (fun _ _ _ h => h) (Or.inl ⟨by rfl, ?_⟩) (by assumption) ?_
      rotate_left
      · intro w hSw; (try dsimp only at hSw); go_simp; (all_goals with_reducible rfl)
      simp only [Act.put, List.setIfInBounds_toArray, List.set_cons_zero, List.set_cons_succ]
      refine wpAnyH_take (i := 3) (oi := ⟨some 22, _, _, _, _, _⟩) (v := ?_) rfl (by kernel_rfl) (by kernel_rfl) (by kernel_rfl) (fun _ _ _ h => h) (Or.inl ⟨by rfl, ?_⟩) (by assumption) ?_
      rotate_left
      · intro w hSw; (try dsimp only at hSw); go_simp; (all_goals with_reducible rfl)
      simp only [Act.put, List.setIfInBounds_toArray, List.set_cons_zero, List.set_cons_succ]
      refine wpAnyH_take (i := 4) (oi := ⟨some 23, _, _, _, _, _⟩) (v := ?_) rfl (by kernel_rfl) (by kernel_rfl) (by kernel_rfl) (fun _ _ _ h => h) (Or.inl ⟨by rfl, ?_⟩) (by assumption) ?_
      rotate_left
      · intro w hSw; (try dsimp only at hSw); go_simp; (all_goals with_reducible rfl)
      simp only [Act.put, List.setIfInBounds_toArray, List.set_cons_zero, List.set_cons_succ]
      refine wpAnyH_take (i := 5) (oi := ⟨some 24, _, _, _, _, _⟩) (v := ?_) rfl (by kernel_rfl) (by kernel_rfl) (by kernel_rfl) (fun _ _ _ h => h) (Or.inl ⟨by rfl, ?_⟩) (by assumption) ?_
      rotate_left
      · intro w hSw; (try dsimp only at hSw); go_simp; (all_goals with_reducible rfl)
      simp only [Act.put, List.setIfInBounds_toArray, List.set_cons_zero, List.set_cons_succ]
      refine wpAnyH_ready (rs := [6]) (by kernel_rfl) (by simp) ?_
      refine AllReadyH.cons (o := ⟨some 25, _, _, _, _, _⟩) rfl (fun K hK => ?_) AllReadyH.nil
      go_simp
      skip
      go_wp2_with fail
      refine hK.out _ _ ?_ (fun hHeld => ?_)
      · (try dsimp only); (first | assumption | exact s4 | exact s3 | exact s1 | exact ⟨kx.cell a0, kx.cell hp1, Below.mono kx (by omega)⟩)
      clear hK K
      try simp only [Act.put, List.setIfInBounds_toArray, List.set_cons_zero, List.set_cons_succ]
      refine wpAnyH_ready (rs := [7]) (by kernel_rfl) (by simp) ?_
      refine AllReadyH.cons (o := ⟨some 26, _, _, _, _, _⟩) rfl (fun K hK => ?_) AllReadyH.nil
      go_simp
      refine (CN.out _ _ (by simp [go_sem])).mono ?_; rintro e3 w3 ⟨rfl, k3⟩; have k03 : Kp wr w3 := kx.trans k3; have s3 : w3.cell? ⟨0, q, none⟩ = some (.string sn) ∧ w3.cell? ⟨w.heap.size, 2 + q, none⟩ = some (.int .i64 x) ∧ Below w1.heap.size wr w3 := ⟨k03.cell a0, k03.cell hp1, Below.mono k03 (by omega)⟩; have HB3 := Lib.hid (isBuilder_keep HBu.out k03); have hz3 : w1.heap.size < w3.heap.size := (by have := k03.size; omega)
      go_wp2_with fail
      refine hK.out _ _ ?_ (fun hHeld => ?_)
      · (try dsimp only); (first | assumption | exact s4 | exact s3 | exact s1 | exact ⟨kx.cell a0, kx.cell hp1, Below.mono kx (by omega)⟩)
      clear hK K
      try simp only [Act.put, List.setIfInBounds_toArray, List.set_cons_zero, List.set_cons_succ]
      refine wpAnyH_ready (rs := [8]) (by kernel_rfl) (by simp) ?_
      refine AllReadyH.cons (o := ⟨some 27, _, _, _, _, _⟩) rfl (fun K hK => ?_) AllReadyH.nil
      go_simp
      refine (writeString_any w1.heap.size w1.heap.size _ _ _ HB3.out (by rw [Lib.byteCells_length]; have := HVQ.out; have := HLL.out; omega) (by omega)).mono ?_; rintro e4 w4 ⟨⟨r4, rfl⟩, hb4, kb4'⟩; have HB4 : Hid (Lib.IsBuilder 75 5 w1.heap.size w1.heap.size (Lib.byteCells (limsT vs (q + 1))) w4) := Lib.hid (by rw [HM.out, Lib.byteCells_append, ← HSL.out]; exact .inr hb4); have kb4 : Below w1.heap.size WB w4 := Below.trans (Below.trans kbl s3.2.2) kb4'; have hz4 : w1.heap.size < w4.heap.size := (by have := kb4'.size; omega); have s4 : w4.cell? ⟨0, q, none⟩ = some (.string sn) ∧ w4.cell? ⟨w.heap.size, 2 + q, none⟩ = some (.int .i64 x) ∧ Below w1.heap.size wr w4 := ⟨(kb4'.cell (show 0 < w1.heap.size by omega)).trans s3.1, (kb4'.cell (show w.heap.size < w1.heap.size from hz1)).trans s3.2.1, Below.trans s3.2.2 kb4'⟩; clear kb4'
      go_wp2_with fail
      refine hK.out _ _ ?_ (fun hHeld => ?_)
      · (try dsimp only); (first | assumption | exact s4 | exact s3 | exact s1 | exact ⟨kx.cell a0, kx.cell hp1, Below.mono kx (by omega)⟩)
      clear hK K
      try simp only [Act.put, List.setIfInBounds_toArray, List.set_cons_zero, List.set_cons_succ]
      refine wpAnyH_done (by kernel_rfl) ?_ _
      go_wp2_with fail
      go_roundw
      case rel => exact ⟨q + 1, by omega, by go_num, HB4, hz4, kb4⟩
      case measure => simp [intOf]; omega
    · have HQ5 := Lib.hid (show q = 5 by omega)
      have hge : ¬ (q : Int) < 5 := by omega
      have HB0 : Hid (Lib.IsBuilder 75 5 w1.heap.size w1.heap.size (Lib.byteCells (limsT vs 5 ++ kndsT (m.take 0))) wr) := Lib.hid (by have h1 := HBu.out; rw [HQ5.out] at h1; simpa [kndsT] using h1)
      have HL5 : Hid ((limsT vs 5).length ≤ 50) := Lib.hid (HVL.out 5 (by omega))
      obtain ⟨H1, hH1⟩ : ∃ y, y = limsT vs 5 := ⟨_, rfl⟩
      rw [← hH1] at HB0 HL5 HR
      obtain ⟨t0, t1, t2, t3, t4, t5, t6⟩ := s3
      clear hH1 HBu
      go_wp2_with fail
      go_loopw [8, 32] (fun _ i wr => ∃ p : Nat, p ≤ nk ∧ i = .int .i64 p ∧ Hid (Lib.IsBuilder 75 5 w1.heap.size w1.heap.size (Lib.byteCells (H1 ++ kndsT (m.take p))) wr) ∧ w1.heap.size < wr.heap.size ∧ Below w1.heap.size WB wr) (fun _ i _ => nk - (intOf i).toNat)
      case atStart => exact ⟨0, by omega, rfl, HB0, hzr, kbl⟩
      case round =>
        clear HB0 hzr kbl kr t0 t1 t2 t3 t4 t5 t6 hge
        obtain ⟨p, hp, rfl, HBu, hzr, kbl⟩ := hrel
        have kr : Kp w wr := Below.trans KB (Below.mono kbl (Nat.le_of_lt hz1))
        have t0 : wr.cell? ⟨w.heap.size, 0, none⟩ = some (.slice At nt ct) := (kbl.cell (show w.heap.size < w1.heap.size from hz1)).trans HS2.out.1
        by_cases hlt : p < nk
        · have hlt' : (p : Int) < nk := by omega
          obtain ⟨x, hx⟩ : ∃ x, m[p]? = some x := ⟨m[p]'(by have := HLK.out; omega), List.getElem?_eq_getElem _⟩
          obtain ⟨g, off, rfl, hc⟩ := HKK.out (by omega)
          have hX := (hc p x hx).keep kr
          have hsm := HKS.out x (List.mem_of_getElem? hx)
          have hkl := kndSm_len hsm
          have HM := Lib.hid (kndsT_more hx)
          have HBL : Hid ((H1 ++ kndsT (m.take p)).length ≤ 310) := Lib.hid (by
            have h2 := HKL.out p
            have h3 := HL5.out
            rw [List.length_append]
            rw [List.length_take] at h2
            omega)
          obtain ⟨nm, ka, kb, kc, kz, kv'⟩ := x
          obtain ⟨m1, m2, m3, m4, m5⟩ := hsm
          simp only at m1 m2 m3 m4 m5 hX
          obtain ⟨na, rfl⟩ : ∃ k : Nat, ka = k := ⟨ka.toNat, by omega⟩
          obtain ⟨nb, rfl⟩ : ∃ k : Nat, kb = k := ⟨kb.toNat, by omega⟩
          obtain ⟨nc, rfl⟩ : ∃ k : Nat, kc = k := ⟨kc.toNat, by omega⟩
          obtain ⟨nv, rfl⟩ : ∃ k : Nat, kv' = k := ⟨kv'.toNat, by omega⟩
          have CX := Lib.hid (fun w => kindLine_any nm na nb nc nv kz w m1 (by omega) (by omega) (by omega) (by omega))
          obtain ⟨X, hX2⟩ : ∃ X, kindTx ⟨nm, na, nb, nc, kz, nv⟩ = X := ⟨_, rfl⟩
          rw [hX2] at CX HM hkl
          have hsx : (txt X).size ≤ 64 := by rw [txt_size]; exact hkl
          have y1 : ¬ 9223372036854775807 < (txt X).size + 1 := by omega
          have HAD : Hid (Lib.strCells (txt X ++ ByteArray.mk #[10]) = Lib.byteCells (X ++ [10]) ∧ (txt X ++ ByteArray.mk #[10]).size ≤ 65) := Lib.hid (by
            rw [show ByteArray.mk #[10] = txt [10] from rfl, txt_app]
            exact ⟨strCells_txt _, by rw [txt_size, List.length_append, List.length_cons, List.length_nil]; omega⟩)
          obtain ⟨a0, a1, a2, a3, a4, a5⟩ := hX
          have kb1 : Kp wr (wr.alloc (.cells #[.string nm, .int .i64 (na : Int), .int .i64 (nb : Int), .int .i64 (nc : Int), .bool kz, .int .i64 (nv : Int)] 62)) := (Kp.refl wr).alloc _
          clear hc hx hkl m1 m2 m3 m4 m5 hX2
          go_wp2_with fail
          refine (CX.out _).mono ?_
          rintro e3 w3 ⟨rfl, k3⟩
          have k03 := kb1.trans k3
          have HB3 := Lib.hid (isBuilder_keep HBu.out k03)
          have hz3 : w1.heap.size < w3.heap.size := by have := k03.size; omega
          clear k3 kb1
          go_wp2_with fail
          refine (writeString_any w1.heap.size w1.heap.size _ _ _ HB3.out (by rw [Lib.byteCells_length]; have := HBL.out; have := HAD.out.2; omega) (by omega)).mono ?_
          rintro e4 w4 ⟨⟨r4, rfl⟩, hb4, kb4⟩
          have HB4 : Hid (Lib.IsBuilder 75 5 w1.heap.size w1.heap.size (Lib.byteCells (H1 ++ kndsT (m.take (p + 1)))) w4) := Lib.hid (by rw [HM.out, ← List.append_assoc, Lib.byteCells_append, ← HAD.out.1]; exact .inr hb4)
          have kb5 : Below w1.heap.size WB w4 := Below.trans (Below.trans kbl (Below.mono k03 (by omega))) kb4
          have hz4 : w1.heap.size < w4.heap.size := by have := kb4.size; omega
          clear hb4 kb4
          go_wp2_with fail
          go_roundw
          case rel => exact ⟨p + 1, by omega, by go_num, HB4, hz4, kb5⟩
          case measure => simp [intOf]; omega
        · have HPK := Lib.hid (show p = nk by omega)
          have hge2 : ¬ (p : Int) < nk := by omega
          have HB0 : Hid (Lib.IsBuilder 75 5 w1.heap.size w1.heap.size (Lib.byteCells ((H1 ++ kndsT m) ++ tersT (l.take 0))) wr) := Lib.hid (by
            have h1 := HBu.out
            rw [List.take_of_length_le (by rw [HLK.out, HPK.out]; exact Nat.le_refl _)] at h1
            simpa [tersT] using h1)
          have HL6 : Hid ((H1 ++ kndsT m).length ≤ 310) := Lib.hid (by
            have h2 := HKL.out m.length
            have h3 := HL5.out
            rw [List.take_length] at h2
            rw [List.length_append]
            have := HLK.out
            omega)
          obtain ⟨H2, hH2⟩ : ∃ y, y = H1 ++ kndsT m := ⟨_, rfl⟩
          rw [← hH2] at HB0 HL6 HR
          clear hH2 HBu
          go_wp2_with fail
          go_loopw [10, 44] (fun _ i wr => ∃ u : Nat, u ≤ nt ∧ i = .int .i64 u ∧ Hid (Lib.IsBuilder 75 5 w1.heap.size w1.heap.size (Lib.byteCells (H2 ++ tersT (l.take u))) wr) ∧ w1.heap.size < wr.heap.size ∧ Below w1.heap.size WB wr) (fun _ i _ => nt - (intOf i).toNat)
          case atStart => exact ⟨0, by omega, rfl, HB0, hzr, kbl⟩
          case round =>
            clear HB0 hzr kbl kr t0 hge2
            obtain ⟨u, hu, rfl, HBu, hzr, kbl⟩ := hrel
            have kr : Kp w wr := Below.trans KB (Below.mono kbl (Nat.le_of_lt hz1))
            have HP := Lib.hid (HS.out.sp.pow.keep kr)
            have HBL : Hid ((H2 ++ tersT (l.take u)).length ≤ 780) := Lib.hid (by
              have h2 := HTL.out u
              have h3 := HL6.out
              rw [List.length_append]
              rw [List.length_take] at h2
              omega)
            by_cases hlt : u < nt
            · have hlt' : (u : Int) < nt := by omega
              obtain ⟨x, hx⟩ : ∃ x, l[u]? = some x := ⟨l[u]'(by have := HLT.out; omega), List.getElem?_eq_getElem _⟩
              obtain ⟨g, off, rfl, hc⟩ := HT.out (by omega)
              have hX := (hc u x hx).keep kr
              have hsm := HTS.out x (List.mem_of_getElem? hx)
              rw [HLK.out] at hsm
              have hkl := terSm_len hsm
              have HM := Lib.hid (tersT_more hx)
              obtain ⟨nm, cs, sh, hg, bl⟩ := x
              have hln := hsm.len
              simp only at hln hX
              obtain ⟨Ac, cc, ⟨a0, a1, a2, a3, a4⟩, hrd⟩ := hX
              simp only at a0 a1 a2 a3 a4 hrd
              rw [hln] at a1 hrd
              have CX := Lib.hid (fun w hr hp => terrainLine_any nm Ac nk cc cs sh hg bl w hr hsm (by omega) (by omega) hp)
              obtain ⟨X, hX2⟩ : ∃ X, terTx ⟨nm, cs, sh, hg, bl⟩ = X := ⟨_, rfl⟩
              rw [hX2] at CX HM hkl
              have hsx : (txt X).size ≤ 76 := by rw [txt_size]; omega
              have y1 : ¬ 9223372036854775807 < (txt X).size + 1 := by omega
              have HAD : Hid (Lib.strCells (txt X ++ ByteArray.mk #[10]) = Lib.byteCells (X ++ [10]) ∧ (txt X ++ ByteArray.mk #[10]).size ≤ 77) := Lib.hid (by
                rw [show ByteArray.mk #[10] = txt [10] from rfl, txt_app]
                exact ⟨strCells_txt _, by rw [txt_size, List.length_append, List.length_cons, List.length_nil]; omega⟩)
              have kb1 : Kp wr (wr.alloc (.cells #[.string nm, .slice Ac nk cc, .int .i64 sh, .int .i64 hg, .bool bl] 70)) := (Kp.refl wr).alloc _
              have HRD := Lib.hid (hrd.keep kb1)
              have HP1 := Lib.hid (HP.out.keep kb1)
              clear hc hx hkl hsm hln hrd hX2
              go_wp2_with fail
              refine (CX.out _ HRD.out HP1.out).mono ?_
              rintro e3 w3 ⟨rfl, k3⟩
              have k03 := kb1.trans k3
              have HB3 := Lib.hid (isBuilder_keep HBu.out k03)
              have hz3 : w1.heap.size < w3.heap.size := by have := k03.size; omega
              clear k3 kb1
              go_wp2_with fail
              refine (writeString_any w1.heap.size w1.heap.size _ _ _ HB3.out (by rw [Lib.byteCells_length]; have := HBL.out; have := HAD.out.2; omega) (by omega)).mono ?_
              rintro e4 w4 ⟨⟨r4, rfl⟩, hb4, kb4⟩
              have HB4 : Hid (Lib.IsBuilder 75 5 w1.heap.size w1.heap.size (Lib.byteCells (H2 ++ tersT (l.take (u + 1)))) w4) := Lib.hid (by rw [HM.out, ← List.append_assoc, Lib.byteCells_append, ← HAD.out.1]; exact .inr hb4)
              have kb5 : Below w1.heap.size WB w4 := Below.trans (Below.trans kbl (Below.mono k03 (by omega))) kb4
              have hz4 : w1.heap.size < w4.heap.size := by have := kb4.size; omega
              clear hb4 kb4
              go_wp2_with fail
              go_roundw
              case rel => exact ⟨u + 1, by omega, by go_num, HB4, hz4, kb5⟩
              case measure => simp [intOf]; omega
            · have hge3 : ¬ (u : Int) < nt := by omega
              have HBE : Hid (Lib.IsBuilder 75 5 w1.heap.size w1.heap.size (Lib.byteCells (rulTx ⟨l, m, a, b, c, d, e⟩)) wr) := Lib.hid (by
                have h1 := HBu.out
                rw [List.take_of_length_le (by rw [HLT.out]; omega)] at h1
                rw [HR.out]
                exact h1)
              clear HBu
              go_wp2_with fail
              refine (Tryd.Builder_String_any w1.heap.size w1.heap.size _ _ HBE.out (by omega)).mono ?_
              rintro e3 w3 ⟨rfl, k3⟩
              go_wp2_with fail
              go_ret2
              exact ⟨rfl, Below.trans kr (Below.mono k3 (by omega))⟩

set_option maxRecDepth 100000 in
theorem implRulesText_no (At Ak : Option Addr) (nt nk ct ck : Nat) (l : List Ter) (m : List Knd) (a b c d e : Int) (w : World) (hs : SpL w) (h : RulAt w At Ak nt nk l m) (hok : rulOk ⟨l, m, a, b, c, d, e⟩ = false) :
    Calls Tryd.prog 16 #[rv (.slice At nt ct) (.slice Ak nk ck) a b c d e] w fun e' w' => e' = .returned (.tuple #[.string ⟨#[]⟩, .bool false]) ∧ Kp w w' := by
  have KA : Kp w (w.alloc (.cells #[.slice At nt ct, .slice Ak nk ck, .int .i64 a, .int .i64 b, .int .i64 c, .int .i64 d, .int .i64 e] 32)) := (Kp.refl w).alloc _
  have HL := Lib.hid (h.keep KA)
  have HS := Lib.hid (hs.sp.sp.keep KA)
  have CG : Hid (∀ w, Spans w → RulAt w At Ak nt nk l m → Calls Tryd.prog 34 #[rv (.slice At nt ct) (.slice Ak nk ck) a b c d e] w fun e' w' => e' = .returned (.bool false) ∧ Kp w w') := Lib.hid (fun w hs h => by
    have := isRules_any At Ak nt nk ct ck l m a b c d e w hs h
    rw [hok] at this
    exact this)
  clear h hs hok
  go_enter Tryd.func16, Tryd.ntmps16
  go_wp2_with fail
  refine (CG.out _ HS.out HL.out).mono ?_
  rintro e1 w1 ⟨rfl, k1⟩
  go_wp2_with fail
  go_ret2
  exact ⟨rfl, KA.trans k1⟩

end Go.Proofs.YtpdcmpojjchobaaDoor

/-
  The text of rules, as the reference writes it.
-/
namespace Go.Proofs.YtpdcmpojjchobaaDoor
open Go.RowKit

set_option maxRecDepth 100000 in
theorem bfLimits_any (w : World) : Calls Tryd.prog 86 #[] w fun e w' => ∃ g, e = .returned (.slice (some ⟨g, 0, none⟩) 5 5) ∧ (∀ (j : Nat) nm, limW[j]? = some nm → w'.cell? ⟨g, j, none⟩ = some (.string (txt nm))) ∧ Kp w w' := by
  go_enter Tryd.func86, Tryd.ntmps86
  go_wp2_with fail
  go_ret
  refine ⟨_, rfl, fun j nm hj => ?_, (Kp.refl w).alloc _⟩
  unfold limW at hj
  match j, hj with
  | 0, hj => simp only [List.getElem?_cons_zero, Option.some.injEq] at hj; subst hj; simp [go_sem, txt]
  | 1, hj => simp only [List.getElem?_cons_zero, List.getElem?_cons_succ, Option.some.injEq] at hj; subst hj; simp [go_sem, txt]
  | 2, hj => simp only [List.getElem?_cons_zero, List.getElem?_cons_succ, Option.some.injEq] at hj; subst hj; simp [go_sem, txt]
  | 3, hj => simp only [List.getElem?_cons_zero, List.getElem?_cons_succ, Option.some.injEq] at hj; subst hj; simp [go_sem, txt]
  | 4, hj => simp only [List.getElem?_cons_zero, List.getElem?_cons_succ, Option.some.injEq] at hj; subst hj; simp [go_sem, txt]
  | j + 5, hj => simp at hj

set_option maxRecDepth 100000 in
theorem bfValues_any (x y : Value) (a b c d e : Int) (w : World) : Calls Tryd.prog 87 #[rv x y a b c d e] w fun e' w' => ∃ g, e' = .returned (.slice (some ⟨g, 0, none⟩) 5 5) ∧ (∀ (j : Nat) z, [a, b, c, d, e][j]? = some z → w'.cell? ⟨g, j, none⟩ = some (.int .i64 z)) ∧ Kp w w' := by
  go_enter Tryd.func87, Tryd.ntmps87
  go_wp2_with fail
  go_ret
  refine ⟨_, rfl, fun j nm hj => ?_, ((Kp.refl w).alloc _).alloc _⟩
  match j, hj with
  | 0, hj => simp only [List.getElem?_cons_zero, Option.some.injEq] at hj; subst hj; simp [go_sem]
  | 1, hj => simp only [List.getElem?_cons_zero, List.getElem?_cons_succ, Option.some.injEq] at hj; subst hj; simp [go_sem]
  | 2, hj => simp only [List.getElem?_cons_zero, List.getElem?_cons_succ, Option.some.injEq] at hj; subst hj; simp [go_sem]
  | 3, hj => simp only [List.getElem?_cons_zero, List.getElem?_cons_succ, Option.some.injEq] at hj; subst hj; simp [go_sem]
  | 4, hj => simp only [List.getElem?_cons_zero, List.getElem?_cons_succ, Option.some.injEq] at hj; subst hj; simp [go_sem]
  | j + 5, hj => simp at hj

set_option maxRecDepth 100000 in
set_option maxHeartbeats 16000000 in
theorem bfText_any (At Ak : Option Addr) (nt nk ct ck : Nat) (l : List Ter) (m : List Knd) (a b c d e : Int) (w : World) (h : RulAt w At Ak nt nk l m) (hok : rulOk ⟨l, m, a, b, c, d, e⟩ = true) :
    Calls Tryd.prog 41 #[rv (.slice At nt ct) (.slice Ak nk ck) a b c d e] w fun e' w' => e' = .returned (.string (txt (rulTx ⟨l, m, a, b, c, d, e⟩))) ∧ Kp w w' := by
  have KA : Kp w (w.alloc (.cells #[.slice At nt ct, .slice Ak nk ck, .int .i64 a, .int .i64 b, .int .i64 c, .int .i64 d, .int .i64 e] 32)) := (Kp.refl w).alloc _
  have s0 : (w.alloc (.cells #[.slice At nt ct, .slice Ak nk ck, .int .i64 a, .int .i64 b, .int .i64 c, .int .i64 d, .int .i64 e] 32)).cell? ⟨w.heap.size, 0, none⟩ = some (.slice At nt ct) ∧ (w.alloc (.cells #[.slice At nt ct, .slice Ak nk ck, .int .i64 a, .int .i64 b, .int .i64 c, .int .i64 d, .int .i64 e] 32)).cell? ⟨w.heap.size, 1, none⟩ = some (.slice Ak nk ck) ∧ (w.alloc (.cells #[.slice At nt ct, .slice Ak nk ck, .int .i64 a, .int .i64 b, .int .i64 c, .int .i64 d, .int .i64 e] 32)).cell? ⟨w.heap.size, 2, none⟩ = some (.int .i64 a) ∧ (w.alloc (.cells #[.slice At nt ct, .slice Ak nk ck, .int .i64 a, .int .i64 b, .int .i64 c, .int .i64 d, .int .i64 e] 32)).cell? ⟨w.heap.size, 3, none⟩ = some (.int .i64 b) ∧ (w.alloc (.cells #[.slice At nt ct, .slice Ak nk ck, .int .i64 a, .int .i64 b, .int .i64 c, .int .i64 d, .int .i64 e] 32)).cell? ⟨w.heap.size, 4, none⟩ = some (.int .i64 c) ∧ (w.alloc (.cells #[.slice At nt ct, .slice Ak nk ck, .int .i64 a, .int .i64 b, .int .i64 c, .int .i64 d, .int .i64 e] 32)).cell? ⟨w.heap.size, 5, none⟩ = some (.int .i64 d) ∧ (w.alloc (.cells #[.slice At nt ct, .slice Ak nk ck, .int .i64 a, .int .i64 b, .int .i64 c, .int .i64 d, .int .i64 e] 32)).cell? ⟨w.heap.size, 6, none⟩ = some (.int .i64 e) := ⟨by simp [go_sem], by simp [go_sem], by simp [go_sem], by simp [go_sem], by simp [go_sem], by simp [go_sem], by simp [go_sem]⟩
  have HT := Lib.hid h.rt.2
  have HKK := Lib.hid h.rk.2
  have hlt : l.length = nt := h.rt.1
  have hlk : m.length = nk := h.rk.1
  have hb := rulOk_len hok
  have hn1 : nt ≤ 6 := by omega
  have hn2 : nk ≤ 4 := by omega
  have HKS := Lib.hid (rulOk_knds hok)
  have HTS := Lib.hid (rulOk_ters hok)
  have hlim := rulOk_lim hok
  have HV : Hid (∀ x ∈ [a, b, c, d, e], 0 ≤ x ∧ x < 100) := Lib.hid (fun x hx => by
    simp only [List.mem_cons, List.not_mem_nil, or_false] at hx
    rcases hx with rfl | rfl | rfl | rfl | rfl <;> omega)
  have HVL := Lib.hid (limsT_len [a, b, c, d, e] (fun x hx => (HV.out x hx).2) rfl)
  have HKL := Lib.hid (fun (q : Nat) => kndsT_len (m.take q) (fun x hx => HKS.out x (List.mem_of_mem_take hx)))
  have HTL := Lib.hid (fun (q : Nat) => tersT_len m.length (by omega) (l.take q) (fun x hx => HTS.out x (List.mem_of_mem_take hx)))
  have HLT := Lib.hid hlt
  have HLK := Lib.hid hlk
  have CB := Lib.hid (fun w => bfValues_any (.slice At nt ct) (.slice Ak nk ck) a b c d e w)
  obtain ⟨vs, hvs⟩ : ∃ vs, vs = [a, b, c, d, e] := ⟨_, rfl⟩
  have hvl : vs.length = 5 := by rw [hvs]; rfl
  have HVLEN := Lib.hid hvl
  rw [← hvs] at HV HVL CB
  have HR : Hid (rulTx ⟨l, m, a, b, c, d, e⟩ = limsT vs 5 ++ kndsT m ++ tersT l) := Lib.hid (by rw [hvs]; rfl)
  clear h hok hlt hlk hb hlim hvs hvl
  go_enter Tryd.func41, Tryd.ntmps41
  go_wp2_with fail
  refine (bfLimits_any _).mono ?_
  rintro e1 w1 ⟨g1, rfl, hg1, k1⟩
  obtain ⟨t0, t1, t2, t3, t4, t5, t6⟩ := keepc7 k1 s0
  have HG1 := Lib.hid hg1
  have K1 := KA.trans k1
  clear s0 hg1 k1 KA
  go_wp2_with fail
  go_loopw [3, 4, 5, 12] (fun s _ _ i wr => ∃ (q : Nat) (z : ByteArray), q ≤ 5 ∧ i = .int .i64 q ∧ s = .string z ∧ Hid (z = txt (limsT vs q)) ∧ (wr.cell? ⟨w.heap.size, 0, none⟩ = some (.slice At nt ct) ∧ wr.cell? ⟨w.heap.size, 1, none⟩ = some (.slice Ak nk ck) ∧ wr.cell? ⟨w.heap.size, 2, none⟩ = some (.int .i64 a) ∧ wr.cell? ⟨w.heap.size, 3, none⟩ = some (.int .i64 b) ∧ wr.cell? ⟨w.heap.size, 4, none⟩ = some (.int .i64 c) ∧ wr.cell? ⟨w.heap.size, 5, none⟩ = some (.int .i64 d) ∧ wr.cell? ⟨w.heap.size, 6, none⟩ = some (.int .i64 e)) ∧ Kp w1 wr) (fun _ _ _ i _ => 5 - (intOf i).toNat)
  case atStart => exact ⟨0, _, by omega, rfl, rfl, Lib.hid (by simp [limsT, txt]), ⟨t0, t1, t2, t3, t4, t5, t6⟩, Kp.refl _⟩
  case round =>
    clear t0 t1 t2 t3 t4 t5 t6
    obtain ⟨q, z, hq, rfl, rfl, HZ, s1, kr⟩ := hrel
    have hz : z.size ≤ 50 := by
      have h1 := congrArg ByteArray.size HZ.out
      have h2 := HVL.out q hq
      rw [txt_size] at h1
      omega
    by_cases hlt : q < 5
    · have hlt' : (q : Int) < 5 := by omega
      obtain ⟨nm, hnm, hnl⟩ := limW_at hlt
      obtain ⟨x, hx⟩ : ∃ x, vs[q]? = some x := ⟨vs[q]'(by have := HVLEN.out; omega), List.getElem?_eq_getElem _⟩
      have a0 := kr.cell (HG1.out q nm hnm)
      have hx1 := HV.out x (List.mem_of_getElem? hx)
      obtain ⟨k, rfl⟩ : ∃ k : Nat, x = k := ⟨x.toNat, by omega⟩
      have HX := Lib.hid hx
      obtain ⟨sn, hsn⟩ : ∃ y, txt nm = y := ⟨_, rfl⟩
      have zsn : sn.size ≤ 6 := by rw [← hsn, txt_size]; exact hnl
      have CD := Lib.hid (fun w => l1Num_any k w (by omega))
      obtain ⟨sx, hsx⟩ : ∃ y, decT k = y := ⟨_, rfl⟩
      have zsx : sx.size ≤ 2 := by rw [← hsx, decT_txt, txt_size]; exact dec_len (by omega)
      rw [hsx] at CD
      rw [hsn] at a0
      obtain ⟨p1, hp1⟩ : ∃ y, sn ++ ByteArray.mk #[32] = y := ⟨_, rfl⟩
      have zp1 : p1.size ≤ 7 := by rw [← hp1, ByteArray.size_append]; have : (ByteArray.mk #[32]).size = 1 := rfl; omega
      obtain ⟨p2, hp2⟩ : ∃ y, p1 ++ sx = y := ⟨_, rfl⟩
      have zp2 : p2.size ≤ 9 := by rw [← hp2, ByteArray.size_append]; omega
      obtain ⟨p3, hp3⟩ : ∃ y, p2 ++ ByteArray.mk #[10] = y := ⟨_, rfl⟩
      have zp3 : p3.size ≤ 10 := by rw [← hp3, ByteArray.size_append]; have : (ByteArray.mk #[10]).size = 1 := rfl; omega
      have y1 : ¬ 9223372036854775807 < sn.size + 1 := by omega
      have y2 : ¬ 9223372036854775807 < p1.size + sx.size := by omega
      have y3 : ¬ 9223372036854775807 < p2.size + 1 := by omega
      have y4 : ¬ 9223372036854775807 < z.size + p3.size := by omega
      have HN2 : Hid (z ++ p3 = txt (limsT vs (q + 1))) := Lib.hid (by
        rw [limsT_more hnm hx, HZ.out, ← hp3, ← hp2, ← hp1, ← hsn, ← hsx, decT_txt, show ByteArray.mk #[32] = txt [32] from rfl, show ByteArray.mk #[10] = txt [10] from rfl, txt_app, txt_app, txt_app, txt_app]
        simp [limLine])
      obtain ⟨t0, t1, t2, t3, t4, t5, t6⟩ := s1
      clear hnm hx hx1 hsn hsx HZ hnl
      go_wp2_with fail
      refine (CB.out _).mono ?_
      rintro e2 w2 ⟨g2, rfl, hg2, k2⟩
      have b0 := hg2 q _ HX.out
      obtain ⟨u0, u1, u2, u3, u4, u5, u6⟩ := keepc7 k2 ⟨t0, t1, t2, t3, t4, t5, t6⟩
      have kr2 := kr.trans k2
      clear t0 t1 t2 t3 t4 t5 t6 hg2 k2 kr
      go_wp2_with fail
      refine (CD.out _).mono ?_
      rintro e3 w3 ⟨rfl, k3⟩
      have s3 := keepc7 k3 ⟨u0, u1, u2, u3, u4, u5, u6⟩
      have kr3 := kr2.trans k3
      clear u0 u1 u2 u3 u4 u5 u6 k3 kr2
      go_wp2_with fail
      go_roundw
      case rel => exact ⟨q + 1, _, by omega, by go_num, rfl, HN2, s3, kr3⟩
      case measure => simp [intOf]; omega
    · have HQ5 := Lib.hid (show q = 5 by omega)
      have hge : ¬ (q : Int) < 5 := by omega
      obtain ⟨t0, t1, t2, t3, t4, t5, t6⟩ := s1
      have K2 := K1.trans kr
      have Z0 : Hid (z = txt (limsT vs 5 ++ kndsT (m.take 0))) := Lib.hid (by rw [HZ.out, HQ5.out]; simp [kndsT])
      have HL5 : Hid ((limsT vs 5).length ≤ 50) := Lib.hid (HVL.out 5 (by omega))
      obtain ⟨H1, hH1⟩ : ∃ y, y = limsT vs 5 := ⟨_, rfl⟩
      rw [← hH1] at Z0 HL5 HR
      clear hH1 HZ hz K1 kr
      go_wp2_with fail
      go_loopw [3, 7, 33] (fun s _ i wr => ∃ (q : Nat) (z : ByteArray), q ≤ nk ∧ i = .int .i64 q ∧ s = .string z ∧ Hid (z = txt (H1 ++ kndsT (m.take q))) ∧ wr.cell? ⟨w.heap.size, 0, none⟩ = some (.slice At nt ct) ∧ Kp w wr) (fun _ _ i _ => nk - (intOf i).toNat)
      case atStart => exact ⟨0, _, by omega, rfl, rfl, Z0, t0, K2⟩
      case round =>
        clear Z0 t0 t1 t2 t3 t4 t5 t6 K2
        obtain ⟨q, z, hq, rfl, rfl, HZ, t0, kr⟩ := hrel
        have hz : z.size ≤ 310 := by
          have h1 := congrArg ByteArray.size HZ.out
          have h2 := HKL.out q
          have h3 := HL5.out
          rw [txt_size, List.length_append] at h1
          rw [List.length_take] at h2
          omega
        by_cases hlt : q < nk
        · have hlt' : (q : Int) < nk := by omega
          obtain ⟨x, hx⟩ : ∃ x, m[q]? = some x := ⟨m[q]'(by have := HLK.out; omega), List.getElem?_eq_getElem _⟩
          obtain ⟨g, off, rfl, hc⟩ := HKK.out (by omega)
          have hX := (hc q x hx).keep kr
          have hsm := HKS.out x (List.mem_of_getElem? hx)
          have hkl := kndSm_len hsm
          have HM := Lib.hid (kndsT_more hx)
          obtain ⟨nm, ka, kb, kc, kz, kv'⟩ := x
          obtain ⟨m1, m2, m3, m4, m5⟩ := hsm
          simp only at m1 m2 m3 m4 m5 hX
          obtain ⟨na, rfl⟩ : ∃ k : Nat, ka = k := ⟨ka.toNat, by omega⟩
          obtain ⟨nb, rfl⟩ : ∃ k : Nat, kb = k := ⟨kb.toNat, by omega⟩
          obtain ⟨nc, rfl⟩ : ∃ k : Nat, kc = k := ⟨kc.toNat, by omega⟩
          obtain ⟨nv, rfl⟩ : ∃ k : Nat, kv' = k := ⟨kv'.toNat, by omega⟩
          have CX := Lib.hid (fun w => bfKind_any nm na nb nc nv kz w m1 (by omega) (by omega) (by omega) (by omega))
          obtain ⟨sx, hsx⟩ : ∃ y, txt (kindTx ⟨nm, na, nb, nc, kz, nv⟩) = y := ⟨_, rfl⟩
          have zsx : sx.size ≤ 64 := by rw [← hsx, txt_size]; exact hkl
          rw [hsx] at CX
          obtain ⟨p1, hp1⟩ : ∃ y, sx ++ ByteArray.mk #[10] = y := ⟨_, rfl⟩
          have zp1 : p1.size ≤ 65 := by rw [← hp1, ByteArray.size_append]; have : (ByteArray.mk #[10]).size = 1 := rfl; omega
          have y1 : ¬ 9223372036854775807 < sx.size + 1 := by omega
          have y2 : ¬ 9223372036854775807 < z.size + p1.size := by omega
          have HN2 : Hid (z ++ p1 = txt (H1 ++ kndsT (m.take (q + 1)))) := Lib.hid (by
            rw [HM.out, HZ.out, ← hp1, ← hsx, show ByteArray.mk #[10] = txt [10] from rfl, txt_app, txt_app]
            simp)
          obtain ⟨a0, a1, a2, a3, a4, a5⟩ := hX
          clear hc hx hsx HZ hkl m1 m2 m3 m4 m5
          have kb1 : Kp wr (wr.alloc (.cells #[.string nm, .int .i64 (na : Int), .int .i64 (nb : Int), .int .i64 (nc : Int), .bool kz, .int .i64 (nv : Int)] 62)) := (Kp.refl wr).alloc _
          have t0b := kb1.cell t0
          have krb := kr.trans kb1
          go_wp2_with fail
          refine (CX.out _).mono ?_
          rintro e3 w3 ⟨rfl, k3⟩
          have t02 := k3.cell t0b
          have kr3 := krb.trans k3
          clear k3 kr t0 t0b krb kb1
          go_wp2_with fail
          go_roundw
          case rel => exact ⟨q + 1, _, by omega, by go_num, rfl, HN2, t02, kr3⟩
          case measure => simp [intOf]; omega
        · obtain rfl : q = nk := by omega
          have Z1 : Hid (z = txt ((H1 ++ kndsT m) ++ tersT (l.take 0))) := Lib.hid (by
            have h1 := HZ.out
            rw [List.take_of_length_le (by rw [HLK.out]; omega)] at h1
            rw [h1]
            simp [tersT])
          have HL6 : Hid ((H1 ++ kndsT m).length ≤ 310) := Lib.hid (by
            have h1 := congrArg ByteArray.size Z1.out
            rw [txt_size] at h1
            simp only [List.take_zero, tersT, List.flatMap_nil, List.append_nil] at h1
            omega)
          obtain ⟨H2, hH2⟩ : ∃ y, y = H1 ++ kndsT m := ⟨_, rfl⟩
          rw [← hH2] at Z1 HL6 HR
          clear hH2 HZ hz
          go_wp2_with fail
          go_loopw [3, 9, 46] (fun s _ i wr => ∃ (p : Nat) (z : ByteArray), p ≤ nt ∧ i = .int .i64 p ∧ s = .string z ∧ Hid (z = txt (H2 ++ tersT (l.take p))) ∧ Kp w wr) (fun _ _ i _ => nt - (intOf i).toNat)
          case atStart => exact ⟨0, _, by omega, rfl, rfl, Z1, kr⟩
          case round =>
            clear Z1 t0 kr
            obtain ⟨p, z, hp, rfl, rfl, HZ, kr⟩ := hrel
            have hz : z.size ≤ 780 := by
              have h1 := congrArg ByteArray.size HZ.out
              have h2 := HTL.out p
              have h3 := HL6.out
              rw [txt_size, List.length_append] at h1
              rw [List.length_take] at h2
              omega
            by_cases hlt : p < nt
            · have hlt' : (p : Int) < nt := by omega
              obtain ⟨x, hx⟩ : ∃ x, l[p]? = some x := ⟨l[p]'(by have := HLT.out; omega), List.getElem?_eq_getElem _⟩
              obtain ⟨g, off, rfl, hc⟩ := HT.out (by omega)
              have hX := (hc p x hx).keep kr
              have hsm := HTS.out x (List.mem_of_getElem? hx)
              rw [HLK.out] at hsm
              have hkl := terSm_len hsm
              have HM := Lib.hid (tersT_more hx)
              obtain ⟨nm, cs, sh, hg, bl⟩ := x
              have hln := hsm.len
              have hh := hsm.height
              simp only at hh hln hX
              obtain ⟨nh, rfl⟩ : ∃ k : Nat, hg = k := ⟨hg.toNat, by omega⟩
              obtain ⟨Ac, cc, ⟨a0, a1, a2, a3, a4⟩, hrd⟩ := hX
              simp only at a0 a1 a2 a3 a4 hrd
              rw [hln] at a1 hrd
              have CX := Lib.hid (fun w hr => bfTerrain_any nm Ac q cc cs sh nh bl w hr hsm (by omega))
              obtain ⟨sx, hsx⟩ : ∃ y, txt (terTx ⟨nm, cs, sh, nh, bl⟩) = y := ⟨_, rfl⟩
              have zsx : sx.size ≤ 76 := by rw [← hsx, txt_size]; omega
              rw [hsx] at CX
              obtain ⟨p1, hp1⟩ : ∃ y, sx ++ ByteArray.mk #[10] = y := ⟨_, rfl⟩
              have zp1 : p1.size ≤ 77 := by rw [← hp1, ByteArray.size_append]; have : (ByteArray.mk #[10]).size = 1 := rfl; omega
              have y1 : ¬ 9223372036854775807 < sx.size + 1 := by omega
              have y2 : ¬ 9223372036854775807 < z.size + p1.size := by omega
              have HN2 : Hid (z ++ p1 = txt (H2 ++ tersT (l.take (p + 1)))) := Lib.hid (by
                rw [HM.out, HZ.out, ← hp1, ← hsx, show ByteArray.mk #[10] = txt [10] from rfl, txt_app, txt_app]
                simp)
              have kb1 : Kp wr (wr.alloc (.cells #[.string nm, .slice Ac q cc, .int .i64 sh, .int .i64 (nh : Int), .bool bl] 70)) := (Kp.refl wr).alloc _
              have HRD := Lib.hid (hrd.keep kb1)
              have krb := kr.trans kb1
              clear hc hx hsx HZ hkl hsm hln hh hrd
              go_wp2_with fail
              refine (CX.out _ HRD.out).mono ?_
              rintro e3 w3 ⟨rfl, k3⟩
              have kr3 := krb.trans k3
              clear k3 kr krb kb1
              go_wp2_with fail
              go_roundw
              case rel => exact ⟨p + 1, _, by omega, by go_num, rfl, HN2, kr3⟩
              case measure => simp [intOf]; omega
            · obtain rfl : p = nt := by omega
              have HE : Hid (z = txt (rulTx ⟨l, m, a, b, c, d, e⟩)) := Lib.hid (by
                have h1 := HZ.out
                rw [List.take_of_length_le (by rw [HLT.out]; omega)] at h1
                rw [HR.out, h1])
              clear HZ
              go_wp2_with fail
              go_ret
              exact ⟨ret_str HE.out, kr⟩

end Go.Proofs.YtpdcmpojjchobaaDoor

/-
  RulesText of both sides; what a row's list says of the names of the limits.
-/
namespace Go.Proofs.YtpdcmpojjchobaaDoor
open Go.ChangeShapes Go.WideShapes Go.ChangeAt Go.RowKit Go.Joins

def rtT (ok : Bool) (r : Rul) : ByteArray := if ok = true then txt (rulTx r) else ⟨#[]⟩
set_option maxRecDepth 100000 in
theorem specRulesText_any (At Ak : Option Addr) (nt nk ct ck : Nat) (l : List Ter) (m : List Knd) (a b c d e : Int) (w : World) (h : RulAt w At Ak nt nk l m) :
    Calls Tryd.prog 15 #[rv (.slice At nt ct) (.slice Ak nk ck) a b c d e] w fun e' w' => e' = .returned (.tuple #[.string (rtT (rulOk ⟨l, m, a, b, c, d, e⟩) ⟨l, m, a, b, c, d, e⟩), .bool (rulOk ⟨l, m, a, b, c, d, e⟩)]) ∧ Kp w w' := by
  have KA : Kp w (w.alloc (.cells #[.slice At nt ct, .slice Ak nk ck, .int .i64 a, .int .i64 b, .int .i64 c, .int .i64 d, .int .i64 e] 32)) := (Kp.refl w).alloc _
  have s0 : (w.alloc (.cells #[.slice At nt ct, .slice Ak nk ck, .int .i64 a, .int .i64 b, .int .i64 c, .int .i64 d, .int .i64 e] 32)).cell? ⟨w.heap.size, 0, none⟩ = some (.slice At nt ct) ∧ (w.alloc (.cells #[.slice At nt ct, .slice Ak nk ck, .int .i64 a, .int .i64 b, .int .i64 c, .int .i64 d, .int .i64 e] 32)).cell? ⟨w.heap.size, 1, none⟩ = some (.slice Ak nk ck) ∧ (w.alloc (.cells #[.slice At nt ct, .slice Ak nk ck, .int .i64 a, .int .i64 b, .int .i64 c, .int .i64 d, .int .i64 e] 32)).cell? ⟨w.heap.size, 2, none⟩ = some (.int .i64 a) ∧ (w.alloc (.cells #[.slice At nt ct, .slice Ak nk ck, .int .i64 a, .int .i64 b, .int .i64 c, .int .i64 d, .int .i64 e] 32)).cell? ⟨w.heap.size, 3, none⟩ = some (.int .i64 b) ∧ (w.alloc (.cells #[.slice At nt ct, .slice Ak nk ck, .int .i64 a, .int .i64 b, .int .i64 c, .int .i64 d, .int .i64 e] 32)).cell? ⟨w.heap.size, 4, none⟩ = some (.int .i64 c) ∧ (w.alloc (.cells #[.slice At nt ct, .slice Ak nk ck, .int .i64 a, .int .i64 b, .int .i64 c, .int .i64 d, .int .i64 e] 32)).cell? ⟨w.heap.size, 5, none⟩ = some (.int .i64 d) ∧ (w.alloc (.cells #[.slice At nt ct, .slice Ak nk ck, .int .i64 a, .int .i64 b, .int .i64 c, .int .i64 d, .int .i64 e] 32)).cell? ⟨w.heap.size, 6, none⟩ = some (.int .i64 e) := ⟨by simp [go_sem], by simp [go_sem], by simp [go_sem], by simp [go_sem], by simp [go_sem], by simp [go_sem], by simp [go_sem]⟩
  have HL := Lib.hid (h.keep KA)
  have CG := Lib.hid (fun w h => rGood_any At Ak nt nk ct ck l m a b c d e w h)
  have HB := Lib.hid (fun hok w h => bfText_any At Ak nt nk ct ck l m a b c d e w h hok)
  obtain ⟨R, hR⟩ : ∃ R, R = rulOk ⟨l, m, a, b, c, d, e⟩ := ⟨_, rfl⟩
  rw [← hR] at CG ⊢
  cases R
  · clear h hR
    go_enter Tryd.func15, Tryd.ntmps15
    go_wp2_with fail
    refine (CG.out _ HL.out).mono ?_
    rintro e1 w1 ⟨rfl, k1⟩
    go_wp2_with fail
    go_ret2
    exact ⟨rfl, KA.trans k1⟩
  · have CB := Lib.hid (HB.out hR.symm)
    obtain ⟨X, hX⟩ : ∃ X, txt (rulTx ⟨l, m, a, b, c, d, e⟩) = X := ⟨_, rfl⟩
    have HT : Hid (rtT true ⟨l, m, a, b, c, d, e⟩ = X) := Lib.hid (by rw [← hX]; rfl)
    rw [hX] at CB
    clear h hR hX HB
    go_enter Tryd.func15, Tryd.ntmps15
    go_wp2_with fail
    refine (CG.out _ HL.out).mono ?_
    rintro e1 w1 ⟨rfl, k1⟩
    obtain ⟨t0, t1, t2, t3, t4, t5, t6⟩ := keepc7 k1 s0
    have HL1 := Lib.hid (HL.out.keep k1)
    clear s0
    go_wp2_with fail
    refine (CB.out _ HL1.out).mono ?_
    rintro e3 w3 ⟨rfl, k3⟩
    go_wp2_with fail
    go_ret2
    exact ⟨ret_sb HT.out.symm rfl, (KA.trans k1).trans k3⟩

theorem implRulesText_any (At Ak : Option Addr) (nt nk ct ck : Nat) (l : List Ter) (m : List Knd) (a b c d e : Int) (w : World) (hs : SpL w) (h : RulAt w At Ak nt nk l m) :
    Calls Tryd.prog 16 #[rv (.slice At nt ct) (.slice Ak nk ck) a b c d e] w fun e' w' => e' = .returned (.tuple #[.string (rtT (rulOk ⟨l, m, a, b, c, d, e⟩) ⟨l, m, a, b, c, d, e⟩), .bool (rulOk ⟨l, m, a, b, c, d, e⟩)]) ∧ Kp w w' := by
  cases hok : rulOk ⟨l, m, a, b, c, d, e⟩
  · exact implRulesText_no At Ak nt nk ct ck l m a b c d e w hs h hok
  · exact implRulesText_yes At Ak nt nk ct ck l m a b c d e w hs h hok

theorem cellsString : Tryd.prog.cellsOf 9 = 1 := by kernel_rfl
theorem limG : Tryd.prog.globalNamed "loop.example/g00886/impl.limitNames" = some 0 := by kernel_rfl
theorem limTy : (Tryd.prog.globals[0]?).map (·.type) = some 85 := by kernel_rfl
theorem strs_of {W : World} {n : Nat} {t : TypeId} {g : Nat} {nm : String} {l : List (List UInt8)} (hG : Tryd.prog.globalNamed nm = some g) (hT : (Tryd.prog.globals[g]?).map (·.type) = some t) (hU : Tryd.prog.underlying t = some (.array n 9)) (hn : l.length = n)
    (h : ∃ g t cs fuel p, Tryd.prog.globalNamed nm = some g ∧ (Tryd.prog.globals[g]?).map (·.type) = some t ∧ W.var? Tryd.prog nm = some cs ∧ DataW.trod (fun _ => ()) Tryd.prog W 0 (fun _ => true) false fuel t cs.toList = some (.agg (l.map fun b => .lit (.string b)), p)) :
    ∀ (j : Nat) x, l[j]? = some x → W.cell? ⟨g, j, none⟩ = some (.string (txt x)) := by
  obtain ⟨g', t', cs, fuel, p, hg', ht', hvar, hd⟩ := h
  obtain rfl := Option.some.inj (hG.symm.trans hg')
  obtain rfl := Option.some.inj (hT.symm.trans ht')
  obtain ⟨xs, m, _, hx, hl, hnn, hi⟩ := DataW.trod_array hU hd
  have hxs : xs.map (·.1) = l.map fun b => .lit (.string b) := by
    have := congrArg Prod.fst hx
    simp only [DataW.agg.injEq] at this
    exact this.symm
  intro j x hj
  have hj5 : j < n := by rw [← hn]; exact (List.getElem?_eq_some_iff.1 hj).1
  have h1 := hi j hj5
  rw [cellsString] at h1
  have h2 : (xs.map (·.1))[j]? = some (.lit (.string x)) := by rw [hxs, List.getElem?_map, hj]; rfl
  rw [List.getElem?_map, Option.map_eq_some_iff] at h2
  obtain ⟨y, hy, hy1⟩ := h2
  obtain ⟨s, c0, rfl, _⟩ := DataW.trod_string Tryd.underlying9 (h1.trans hy)
  simp only [DataW.lit.injEq, Lit.string.injEq] at hy1
  subst hy1
  have g0 : cs[j]? = some (.string s) := by
    have := congrArg (·[0]?) c0
    simpa [List.getElem?_take, List.getElem?_drop] using this
  rw [txt_of]
  exact (World.var?_cell hG hvar _).trans g0

theorem rulesText_of {W : World} (h : laidMetH Tryd.prog [("math/bits.deBruijn32tab", Rows.laid_math_bits_deBruijn32tab), ("math/bits.deBruijn64tab", Rows.laid_math_bits_deBruijn64tab), ("internal/strconv.uint64pow10", Rows.laid_internal_strconv_uint64pow10), ("unicode/utf8.acceptRanges", Rows.laid_unicode_utf8_acceptRanges), ("loop.example/g00886/impl.terrainsSpan", Rows.laid_loop_example_g00886_impl_terrainsSpan), ("loop.example/g00886/impl.costSpan", Rows.laid_loop_example_g00886_impl_costSpan), ("loop.example/g00886/impl.shiftSpan", Rows.laid_loop_example_g00886_impl_shiftSpan), ("loop.example/g00886/impl.heightSpan", Rows.laid_loop_example_g00886_impl_heightSpan), ("loop.example/g00886/impl.kindsSpan", Rows.laid_loop_example_g00886_impl_kindsSpan), ("loop.example/g00886/impl.strengthSpan", Rows.laid_loop_example_g00886_impl_strengthSpan), ("loop.example/g00886/impl.movesSpan", Rows.laid_loop_example_g00886_impl_movesSpan), ("loop.example/g00886/impl.stepsSpan", Rows.laid_loop_example_g00886_impl_stepsSpan), ("loop.example/g00886/impl.viewSpan", Rows.laid_loop_example_g00886_impl_viewSpan), ("loop.example/g00886/impl.stackSpan", Rows.laid_loop_example_g00886_impl_stackSpan), ("loop.example/g00886/impl.riverSpan", Rows.laid_loop_example_g00886_impl_riverSpan), ("loop.example/g00886/impl.roadSpan", Rows.laid_loop_example_g00886_impl_roadSpan), ("loop.example/g00886/impl.supplySpan", Rows.laid_loop_example_g00886_impl_supplySpan), ("loop.example/g00886/impl.turnsSpan", Rows.laid_loop_example_g00886_impl_turnsSpan), ("loop.example/g00886/impl.limitNames", Rows.laid_loop_example_g00886_impl_limitNames), ("unicode/utf8.first", Rows.laid_unicode_utf8_first)] W) : SpL W := by
  refine ⟨⟨rulesText_sp h, rulesText_pow h⟩, ?_⟩
  have h' : laidMet Tryd.prog [("math/bits.deBruijn32tab", Rows.laid_math_bits_deBruijn32tab), ("math/bits.deBruijn64tab", Rows.laid_math_bits_deBruijn64tab), ("internal/strconv.uint64pow10", Rows.laid_internal_strconv_uint64pow10), ("unicode/utf8.acceptRanges", Rows.laid_unicode_utf8_acceptRanges), ("loop.example/g00886/impl.terrainsSpan", Rows.laid_loop_example_g00886_impl_terrainsSpan), ("loop.example/g00886/impl.costSpan", Rows.laid_loop_example_g00886_impl_costSpan), ("loop.example/g00886/impl.shiftSpan", Rows.laid_loop_example_g00886_impl_shiftSpan), ("loop.example/g00886/impl.heightSpan", Rows.laid_loop_example_g00886_impl_heightSpan), ("loop.example/g00886/impl.kindsSpan", Rows.laid_loop_example_g00886_impl_kindsSpan), ("loop.example/g00886/impl.strengthSpan", Rows.laid_loop_example_g00886_impl_strengthSpan), ("loop.example/g00886/impl.movesSpan", Rows.laid_loop_example_g00886_impl_movesSpan), ("loop.example/g00886/impl.stepsSpan", Rows.laid_loop_example_g00886_impl_stepsSpan), ("loop.example/g00886/impl.viewSpan", Rows.laid_loop_example_g00886_impl_viewSpan), ("loop.example/g00886/impl.stackSpan", Rows.laid_loop_example_g00886_impl_stackSpan), ("loop.example/g00886/impl.riverSpan", Rows.laid_loop_example_g00886_impl_riverSpan), ("loop.example/g00886/impl.roadSpan", Rows.laid_loop_example_g00886_impl_roadSpan), ("loop.example/g00886/impl.supplySpan", Rows.laid_loop_example_g00886_impl_supplySpan), ("loop.example/g00886/impl.turnsSpan", Rows.laid_loop_example_g00886_impl_turnsSpan), ("loop.example/g00886/impl.limitNames", Rows.laid_loop_example_g00886_impl_limitNames), ("unicode/utf8.first", Rows.laid_unicode_utf8_first)] W := h
  obtain ⟨ps, hl, _⟩ := h'
  exact strs_of limG limTy Tryd.underlying85 rfl (laid_one hl (.tail _ (.tail _ (.tail _ (.tail _ (.tail _ (.tail _ (.tail _ (.tail _ (.tail _ (.tail _ (.tail _ (.tail _ (.tail _ (.tail _ (.tail _ (.tail _ (.tail _ (.tail _ (.head _))))))))))))))))))))

end Go.Proofs.YtpdcmpojjchobaaDoor
