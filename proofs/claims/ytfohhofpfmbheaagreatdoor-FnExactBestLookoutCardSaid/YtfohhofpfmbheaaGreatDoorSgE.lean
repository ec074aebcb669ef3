/-
  The code of a cell and the worst of a sight's cells, as the program tells them by its closures; the place of a number in a list. Nothing that was there is changed.
-/
import Derived.Test.YtfohhofpfmbheaaGreatDoorSgC
import Derived.Test.YtfohhofpfmbheaaGreatDoorSgF
namespace Go.Proofs.YtfohhofpfmbheaaGreatDoor
open Go.RowKit

theorem sgtL_in {W H i k : Int} (a : 1 ≤ W) (b : W ≤ 10) (hi : onI W H i = true) (hk : onI W H k = true) : ∀ c ∈ sgtL W i k, (1 ≤ c.length ∧ c.length ≤ 2) ∧ ∀ x ∈ c, 0 ≤ x ∧ x < W * H := by
  obtain ⟨i1, i2, i3, i4⟩ := hex_bd a b (onI_true hi).1 (onI_true hi).2
  obtain ⟨k1, k2, k3, k4⟩ := hex_bd a b (onI_true hk).1 (onI_true hk).2
  intro cl hc
  unfold sgtL at hc
  refine ⟨sgF_in _ _ _ _ _ _ _ cl hc, ?_⟩
  have b1 := absI_bd (k % W - i % W)
  have b2 := absI_bd (k / W - i / W)
  have b3 := absI_bd (k % W - i % W + (k / W - i / W))
  by_cases hN : 1 ≤ dstW W i k
  · exact sgF_on hN rfl i1 i2 i3 i4 k1 k2 k3 k4 _ (by omega) cl hc
  · rw [show (dstW W i k).toNat - 1 = 0 by omega] at hc
    cases hc
theorem sgtL_nat {W H i k : Int} {lt : List Int} (a : 1 ≤ W) (b : W ≤ 10) (hlen : (lt.length : Int) = W * H) (hi : onI W H i = true) (hk : onI W H k = true) : ∀ c ∈ sgtL W i k, (1 ≤ c.length ∧ c.length ≤ 2) ∧ ∀ x ∈ c, ∃ z : Nat, z < lt.length ∧ x = z := fun c hc => by
  obtain ⟨h1, h2⟩ := sgtL_in a b hi hk c hc
  exact ⟨h1, fun x hx => ⟨x.toNat, by have := h2 x hx; omega, by have := h2 x hx; omega⟩⟩

set_option maxRecDepth 100000 in
theorem cellNot_any (B1 : Nat) (lb : Array Value) (x : Int) (p : Bool) (w : World) (hb : w.cell? ⟨B1, 0, none⟩ = some (.func (.func 115) #[] lb))
    (HP : Calls Tryz.prog 115 (#[.int .i64 x] ++ lb) w fun e w' => e = .returned (.bool p) ∧ Kp w w') :
    Calls Tryz.prog 118 #[.int .i64 x, .pointer (some ⟨B1, 0, none⟩)] w fun e w' => e = .returned (.bool (!p)) ∧ Kp w w' := by
  have HC := Lib.hid HP
  clear HP
  go_enter Tryz.func118, Tryz.ntmps118
  go_wp2_with (go_at_call 115; refine HC.out.mono ?_; rintro e1 w1 ⟨rfl, k1⟩)
  go_ret
  exact ⟨rfl, k1⟩

set_option maxRecDepth 100000 in
set_option maxHeartbeats 4000000 in
theorem cellCode_any (lb : Array Value) (p : Int → Bool) (S : Int → Prop) (W0 : World) (v : Value) (c : List Int) (w : World) (hP : PredI 115 lb p S W0) (hS : ∀ x ∈ c, S x) (hk : Kp W0 w) (hr : RdI w v c) (hl : c.length ≤ 2) :
    Calls Tryz.prog 88 #[v, .func (.func 115) #[] lb] w fun e w' => e = .returned (.int .i64 (codC p c)) ∧ Kp w w' := by
  have kA : Kp w (w.alloc (.cells #[.func (.func 115) #[] lb] 75)) := (Kp.refl w).alloc _
  have C1 := Lib.hid (containsFunc_B lb p c v W0 _ (fun x hx w' hw => hP x w' (hS x hx) hw) (hk.trans kA) (hr.keep kA) (by omega))
  have bx : (w.alloc (.cells #[.func (.func 115) #[] lb] 75)).cell? ⟨w.heap.size, 0, none⟩ = some (.func (.func 115) #[] lb) := by simp [go_sem]
  have C2 : Hid (∀ w2, Kp (w.alloc (.cells #[.func (.func 115) #[] lb] 75)) w2 → Calls Tryz.prog 117 #[v, .func (.func 118) #[] #[.pointer (some ⟨w.heap.size, 0, none⟩)]] w2 fun e w' => e = .returned (.bool (c.any fun x => !p x)) ∧ Kp w2 w') := Lib.hid fun w2 k2 =>
    containsFunc_C #[.pointer (some ⟨w.heap.size, 0, none⟩)] (fun x => !p x) c v w2 w2 (fun x hx w3 k3 => cellNot_any w.heap.size lb x (p x) w3 ((k2.trans k3).cell bx) (hP x w3 (hS x hx) ((hk.trans kA).trans (k2.trans k3)))) (Kp.refl _) ((hr.keep kA).keep k2) (by omega)
  have HE : Hid (codC p c = if c.any p = true then (if c.any (fun x => !p x) = true then 1 else 2) else 0) := Lib.hid rfl
  rw [HE.out]
  have BX := Lib.hid bx
  generalize c.any p = b1 at C1 ⊢
  generalize c.any (fun x => !p x) = b2 at C2 ⊢
  clear hP hS hk hr hl HE
  cases b1
  · go_enter Tryz.func88, Tryz.ntmps88
    go_wp2_with fail
    refine C1.out.mono ?_
    rintro e1 w1 ⟨rfl, k1⟩
    go_wp2_with fail
    go_ret
    exact ⟨ret_int (by simp), kA.trans k1⟩
  · cases b2
    · go_enter Tryz.func88, Tryz.ntmps88
      go_wp2_with fail
      refine C1.out.mono ?_
      rintro e1 w1 ⟨rfl, k1⟩
      have b3 := k1.cell BX.out
      go_wp2_with fail
      refine (C2.out _ k1).mono ?_
      rintro e2 w2 ⟨rfl, k2⟩
      go_wp2_with fail
      go_ret
      exact ⟨ret_int (by simp), kA.trans (k1.trans k2)⟩
    · go_enter Tryz.func88, Tryz.ntmps88
      go_wp2_with fail
      refine C1.out.mono ?_
      rintro e1 w1 ⟨rfl, k1⟩
      have b3 := k1.cell BX.out
      go_wp2_with fail
      refine (C2.out _ k1).mono ?_
      rintro e2 w2 ⟨rfl, k2⟩
      go_wp2_with fail
      go_ret
      exact ⟨ret_int (by simp), kA.trans (k1.trans k2)⟩

theorem codsC_take {f : Int → Bool} {C : List (List Int)} {q : Nat} {c : List Int} (h : C[q]? = some c) : codsC f (C.take (q + 1)) = codsC f (C.take q) ++ [codC f c] := by
  unfold codsC
  rw [List.take_add_one, h]
  simp
set_option maxRecDepth 100000 in
set_option maxHeartbeats 4000000 in
theorem cellCodes_any (At Ak : Option Addr) (nt nk ct ck : Nat) (l : List Ter) (m : List Knd) (a b c d e W H : Int) (x r y : Value) (lt lr ld : List Int) (i k : Int) (w : World) (hB : BrdAt w At Ak nt nk l m x r y lt lr ld) (hok : brdOk ⟨l, m, a, b, c, d, e⟩ W H lt lr ld = true) (hi : onI W H i = true) (hk : onI W H k = true) :
    Calls Tryz.prog 53 #[bv (.slice At nt ct) (.slice Ak nk ck) a b c d e W H x r y, .int .i64 i, .int .i64 k] w fun e' w' => ∃ v, e' = .returned v ∧ OwnI w' w.heap.size v (codsC (blkI l lt i k) (sgtL W i k)) ∧ Kp w w' := by
  obtain ⟨b1, b2, b3, b4⟩ := mapOk_side (brdOk_map hok)
  have s0 : (w.alloc (.cells #[.slice At nt ct, .slice Ak nk ck, .int .i64 a, .int .i64 b, .int .i64 c, .int .i64 d, .int .i64 e, .int .i64 W, .int .i64 H, x, r, y] 41)).cell? ⟨w.heap.size, 0, none⟩ = some (.slice At nt ct) ∧ (w.alloc (.cells #[.slice At nt ct, .slice Ak nk ck, .int .i64 a, .int .i64 b, .int .i64 c, .int .i64 d, .int .i64 e, .int .i64 W, .int .i64 H, x, r, y] 41)).cell? ⟨w.heap.size, 1, none⟩ = some (.slice Ak nk ck) ∧ (w.alloc (.cells #[.slice At nt ct, .slice Ak nk ck, .int .i64 a, .int .i64 b, .int .i64 c, .int .i64 d, .int .i64 e, .int .i64 W, .int .i64 H, x, r, y] 41)).cell? ⟨w.heap.size, 2, none⟩ = some (.int .i64 a) ∧ (w.alloc (.cells #[.slice At nt ct, .slice Ak nk ck, .int .i64 a, .int .i64 b, .int .i64 c, .int .i64 d, .int .i64 e, .int .i64 W, .int .i64 H, x, r, y] 41)).cell? ⟨w.heap.size, 3, none⟩ = some (.int .i64 b) ∧ (w.alloc (.cells #[.slice At nt ct, .slice Ak nk ck, .int .i64 a, .int .i64 b, .int .i64 c, .int .i64 d, .int .i64 e, .int .i64 W, .int .i64 H, x, r, y] 41)).cell? ⟨w.heap.size, 4, none⟩ = some (.int .i64 c) ∧ (w.alloc (.cells #[.slice At nt ct, .slice Ak nk ck, .int .i64 a, .int .i64 b, .int .i64 c, .int .i64 d, .int .i64 e, .int .i64 W, .int .i64 H, x, r, y] 41)).cell? ⟨w.heap.size, 5, none⟩ = some (.int .i64 d) ∧ (w.alloc (.cells #[.slice At nt ct, .slice Ak nk ck, .int .i64 a, .int .i64 b, .int .i64 c, .int .i64 d, .int .i64 e, .int .i64 W, .int .i64 H, x, r, y] 41)).cell? ⟨w.heap.size, 6, none⟩ = some (.int .i64 e) ∧ (w.alloc (.cells #[.slice At nt ct, .slice Ak nk ck, .int .i64 a, .int .i64 b, .int .i64 c, .int .i64 d, .int .i64 e, .int .i64 W, .int .i64 H, x, r, y] 41)).cell? ⟨w.heap.size, 7, none⟩ = some (.int .i64 W) ∧ (w.alloc (.cells #[.slice At nt ct, .slice Ak nk ck, .int .i64 a, .int .i64 b, .int .i64 c, .int .i64 d, .int .i64 e, .int .i64 W, .int .i64 H, x, r, y] 41)).cell? ⟨w.heap.size, 8, none⟩ = some (.int .i64 H) ∧ (w.alloc (.cells #[.slice At nt ct, .slice Ak nk ck, .int .i64 a, .int .i64 b, .int .i64 c, .int .i64 d, .int .i64 e, .int .i64 W, .int .i64 H, x, r, y] 41)).cell? ⟨w.heap.size, 9, none⟩ = some (x) ∧ (w.alloc (.cells #[.slice At nt ct, .slice Ak nk ck, .int .i64 a, .int .i64 b, .int .i64 c, .int .i64 d, .int .i64 e, .int .i64 W, .int .i64 H, x, r, y] 41)).cell? ⟨w.heap.size, 10, none⟩ = some (r) ∧ (w.alloc (.cells #[.slice At nt ct, .slice Ak nk ck, .int .i64 a, .int .i64 b, .int .i64 c, .int .i64 d, .int .i64 e, .int .i64 W, .int .i64 H, x, r, y] 41)).cell? ⟨w.heap.size, 11, none⟩ = some (y) ∧ Kp w (w.alloc (.cells #[.slice At nt ct, .slice Ak nk ck, .int .i64 a, .int .i64 b, .int .i64 c, .int .i64 d, .int .i64 e, .int .i64 W, .int .i64 H, x, r, y] 41)) := ⟨by simp [go_sem], by simp [go_sem], by simp [go_sem], by simp [go_sem], by simp [go_sem], by simp [go_sem], by simp [go_sem], by simp [go_sem], by simp [go_sem], by simp [go_sem], by simp [go_sem], by simp [go_sem], (Kp.refl w).alloc _⟩
  have HB := Lib.hid hB
  have HIN := Lib.hid (sgtL_nat (lt := lt) b1 b2 (mapOk_len (brdOk_map hok)) hi hk)
  have hbd := sgtL_bd b1 b2 b3 b4 hi hk
  have CB : Hid (∀ w, BrdAt w At Ak nt nk l m x r y lt lr ld → Calls Tryz.prog 87 #[bv (.slice At nt ct) (.slice Ak nk ck) a b c d e W H x r y, .int .i64 i, .int .i64 k] w fun e' w' => ∃ lb, e' = .returned (.func (.func 115) #[] lb) ∧ PredI 115 lb (blkI l lt i k) (fun x => ∃ z : Nat, z < lt.length ∧ x = z) w' ∧ Kp w w') := Lib.hid fun w hB => by
    obtain ⟨i', rfl, hi'⟩ := onI_nat hok hi
    obtain ⟨k', rfl, hk'⟩ := onI_nat hok hk
    exact blockerBetween_any At Ak nt nk ct ck l m a b c d e W H x r y lt lr ld i' k' w hB hok (brd_m hok) hi' hk'
  have CS : Hid (∀ w, Calls Tryz.prog 44 #[mp W H x r y, .int .i64 i, .int .i64 k] w fun e' w' => ∃ v vs, e' = .returned v ∧ OwnII w' w.heap.size v (sgtL W i k) vs ∧ Kp w w') := Lib.hid fun w => sightCells_any W H x r y i k w b1 b2 b3 b4 hi hk
  generalize blkI l lt i k = p at CB ⊢
  generalize sgtL W i k = C at CS HIN hbd ⊢
  obtain ⟨n, hn⟩ : ∃ n, n = C.length := ⟨_, rfl⟩
  have HN := Lib.hid hn
  rw [← hn] at hbd
  obtain ⟨j0, hj0, hz0, hs0, hb0⟩ := info_parts infoInt
  clear hB hok hi hk hn b1 b2 b3 b4
  go_enter Tryz.func53, Tryz.ntmps53
  go_wp2_with fail
  refine (CB.out _ (HB.out.keep s0.2.2.2.2.2.2.2.2.2.2.2.2)).mono ?_
  rintro e1 w1 ⟨lb, rfl, pB, k1⟩
  have PB := Lib.hid pB
  have s1 := keep12k k1 s0
  clear s0 k1 pB
  go_wp2_with fail
  refine (CS.out _).mono ?_
  rintro e2 w2 ⟨v, vs, rfl, o2, k2⟩
  have K02 := s1.2.2.2.2.2.2.2.2.2.2.2.2.trans k2
  have R2 := Lib.hid o2.rd
  have PB2 := Lib.hid (PB.out.keep k2)
  obtain ⟨A2, c2, vs2, e9, hvl, h0, h1⟩ := R2.out
  subst e9
  rw [← HN.out] at h0 hvl ⊢
  have HV := Lib.hid (And.intro hvl (And.intro h0 h1))
  clear s1 k2 o2 PB hvl h0 h1
  go_wp2_with fail
  go_loopw [8, 10, 21] (fun v8 _ s21 wr => ∃ q : Nat, q ≤ n ∧ s21 = .int .i64 q ∧ OwnI wr w2.heap.size v8 (codsC p (C.take q)) ∧ Kp w2 wr) (fun _ _ s21 _ => n - (intOf s21).toNat)
  case atStart => exact ⟨0, by omega, rfl, OwnI.nil _ _, Kp.refl w2⟩
  case round =>
    obtain ⟨q, hqn, rfl, hoR, kr⟩ := hrel
    by_cases hlt : q < n
    · have hlt' : (q : Int) < n := by omega
      obtain ⟨hvl, h0, h1⟩ := HV.out
      obtain ⟨g, off, rfl, hc⟩ := h0 (by omega)
      obtain ⟨xc, hxc⟩ : ∃ x, vs2[q]? = some x := ⟨vs2[q]'(by omega), List.getElem?_eq_getElem _⟩
      obtain ⟨c, hc0⟩ : ∃ c, C[q]? = some c := ⟨C[q]'(by have := HN.out; omega), List.getElem?_eq_getElem _⟩
      have cx := kr.cell (hc q xc hxc)
      have HX := Lib.hid ((h1 q xc c hxc hc0).keep kr)
      have HCI := Lib.hid (HIN.out c (List.mem_of_getElem? hc0))
      have HS := Lib.hid (codsC_take (f := p) hc0)
      have CX : Hid (Calls Tryz.prog 88 #[xc, .func (.func 115) #[] lb] wr fun e w' => e = .returned (.int .i64 (codC p c)) ∧ Kp wr w') := Lib.hid (cellCode_any lb p _ w2 xc c wr PB2.out HCI.out.2 kr HX.out (by have := HCI.out.1; omega))
      have hcb := codC_bd p c
      have HO := Lib.hid hoR
      have hln : Hid ((codsC p (C.take q)).length ≤ 100) := Lib.hid (by unfold codsC; rw [List.length_map, List.length_take]; omega)
      generalize codC p c = X at CX HS hcb
      obtain ⟨Ax, cx', ex, _⟩ := HX.out
      subst ex
      clear hvl h0 h1 hc hxc hc0 hoR HX
      go_wp2_with fail
      refine CX.out.mono ?_
      rintro e3 w4 ⟨rfl, k4⟩
      have O1 := Lib.hid (HO.out.keep k4)
      have kr4 := kr.trans k4
      have hz4 := kr4.size
      clear k4 kr HO cx
      go_wp2_with (at_builtin; refine wpList_append_own_at _ rfl (.tmp 25) (.tmp 29) 26 rfl (w2.heap.size) 3 j0 (.int .i64 0) 1 8 Tryz.underlying26 hj0 hz0 hs0 hb0 rfl (by decide) _ (codsC p (C.take q)).length (cellsI (codsC p (C.take q))) rfl (World.ownsRow.alloc O1.out _) ⟨w4.heap.size, 0, none⟩ 1 1 [.int .i64 X] rfl rfl (one_cell _ _ _) (by simp [Value.oneCell']) (by have := hln.out; simp only [maxLen]; omega) (by have := hln.out; omega) (by simp; omega) ?_; intro v' w3 hown2 hgrow2 hnil2 hat2; clear hnil2 hat2; have kr5 := (kr4.alloc (.cells #[.int .i64 X] 3)).grown hgrow2 (fun k e => (World.ownsRow.lt O1.out k e).1); have O3 := Lib.hid (OwnI.snoc (x := X) hown2); clear hown2 hgrow2)
      go_roundw
      case rel => exact ⟨q + 1, by omega, by go_num, by rw [HS.out]; exact O3.out, kr5⟩
      case measure => simp [intOf]; omega
    · obtain rfl : q = n := by omega
      have HE : Hid (codsC p (C.take q) = codsC p C) := Lib.hid (by rw [HN.out, List.take_length])
      rw [HE.out] at hoR
      go_wp2_with fail
      go_ret
      exact ⟨_, rfl, hoR.base K02.size, K02.trans kr⟩

set_option maxRecDepth 100000 in
set_option maxHeartbeats 4000000 in
theorem sightCode_any (At Ak : Option Addr) (nt nk ct ck : Nat) (l : List Ter) (m : List Knd) (a b c d e W H : Int) (x r y : Value) (lt lr ld : List Int) (i k : Int) (w : World) (hB : BrdAt w At Ak nt nk l m x r y lt lr ld) (hok : brdOk ⟨l, m, a, b, c, d, e⟩ W H lt lr ld = true) (hi : onI W H i = true) (hk : onI W H k = true) :
    Calls Tryz.prog 50 #[bv (.slice At nt ct) (.slice Ak nk ck) a b c d e W H x r y, .int .i64 i, .int .i64 k] w fun e' w' => e' = .returned (.int .i64 (codI l lt W i k)) ∧ Kp w w' := by
  have s0 : (w.alloc (.cells #[.slice At nt ct, .slice Ak nk ck, .int .i64 a, .int .i64 b, .int .i64 c, .int .i64 d, .int .i64 e, .int .i64 W, .int .i64 H, x, r, y] 41)).cell? ⟨w.heap.size, 0, none⟩ = some (.slice At nt ct) ∧ (w.alloc (.cells #[.slice At nt ct, .slice Ak nk ck, .int .i64 a, .int .i64 b, .int .i64 c, .int .i64 d, .int .i64 e, .int .i64 W, .int .i64 H, x, r, y] 41)).cell? ⟨w.heap.size, 1, none⟩ = some (.slice Ak nk ck) ∧ (w.alloc (.cells #[.slice At nt ct, .slice Ak nk ck, .int .i64 a, .int .i64 b, .int .i64 c, .int .i64 d, .int .i64 e, .int .i64 W, .int .i64 H, x, r, y] 41)).cell? ⟨w.heap.size, 2, none⟩ = some (.int .i64 a) ∧ (w.alloc (.cells #[.slice At nt ct, .slice Ak nk ck, .int .i64 a, .int .i64 b, .int .i64 c, .int .i64 d, .int .i64 e, .int .i64 W, .int .i64 H, x, r, y] 41)).cell? ⟨w.heap.size, 3, none⟩ = some (.int .i64 b) ∧ (w.alloc (.cells #[.slice At nt ct, .slice Ak nk ck, .int .i64 a, .int .i64 b, .int .i64 c, .int .i64 d, .int .i64 e, .int .i64 W, .int .i64 H, x, r, y] 41)).cell? ⟨w.heap.size, 4, none⟩ = some (.int .i64 c) ∧ (w.alloc (.cells #[.slice At nt ct, .slice Ak nk ck, .int .i64 a, .int .i64 b, .int .i64 c, .int .i64 d, .int .i64 e, .int .i64 W, .int .i64 H, x, r, y] 41)).cell? ⟨w.heap.size, 5, none⟩ = some (.int .i64 d) ∧ (w.alloc (.cells #[.slice At nt ct, .slice Ak nk ck, .int .i64 a, .int .i64 b, .int .i64 c, .int .i64 d, .int .i64 e, .int .i64 W, .int .i64 H, x, r, y] 41)).cell? ⟨w.heap.size, 6, none⟩ = some (.int .i64 e) ∧ (w.alloc (.cells #[.slice At nt ct, .slice Ak nk ck, .int .i64 a, .int .i64 b, .int .i64 c, .int .i64 d, .int .i64 e, .int .i64 W, .int .i64 H, x, r, y] 41)).cell? ⟨w.heap.size, 7, none⟩ = some (.int .i64 W) ∧ (w.alloc (.cells #[.slice At nt ct, .slice Ak nk ck, .int .i64 a, .int .i64 b, .int .i64 c, .int .i64 d, .int .i64 e, .int .i64 W, .int .i64 H, x, r, y] 41)).cell? ⟨w.heap.size, 8, none⟩ = some (.int .i64 H) ∧ (w.alloc (.cells #[.slice At nt ct, .slice Ak nk ck, .int .i64 a, .int .i64 b, .int .i64 c, .int .i64 d, .int .i64 e, .int .i64 W, .int .i64 H, x, r, y] 41)).cell? ⟨w.heap.size, 9, none⟩ = some (x) ∧ (w.alloc (.cells #[.slice At nt ct, .slice Ak nk ck, .int .i64 a, .int .i64 b, .int .i64 c, .int .i64 d, .int .i64 e, .int .i64 W, .int .i64 H, x, r, y] 41)).cell? ⟨w.heap.size, 10, none⟩ = some (r) ∧ (w.alloc (.cells #[.slice At nt ct, .slice Ak nk ck, .int .i64 a, .int .i64 b, .int .i64 c, .int .i64 d, .int .i64 e, .int .i64 W, .int .i64 H, x, r, y] 41)).cell? ⟨w.heap.size, 11, none⟩ = some (y) ∧ Kp w (w.alloc (.cells #[.slice At nt ct, .slice Ak nk ck, .int .i64 a, .int .i64 b, .int .i64 c, .int .i64 d, .int .i64 e, .int .i64 W, .int .i64 H, x, r, y] 41)) := ⟨by simp [go_sem], by simp [go_sem], by simp [go_sem], by simp [go_sem], by simp [go_sem], by simp [go_sem], by simp [go_sem], by simp [go_sem], by simp [go_sem], by simp [go_sem], by simp [go_sem], by simp [go_sem], (Kp.refl w).alloc _⟩
  have HB := Lib.hid hB
  have CC := Lib.hid (fun (w : World) hB => cellCodes_any At Ak nt nk ct ck l m a b c d e W H x r y lt lr ld i k w hB hok hi hk)
  obtain ⟨b1, b2, b3, b4⟩ := mapOk_side (brdOk_map hok)
  have hbd := sgtL_bd b1 b2 b3 b4 hi hk
  have hlen : (codsC (blkI l lt i k) (sgtL W i k)).length ≤ 100 := by unfold codsC; rw [List.length_map]; exact hbd
  have HBD : Hid (∀ x ∈ codsC (blkI l lt i k) (sgtL W i k), 0 ≤ x ∧ x ≤ 2) := Lib.hid fun x hx => by
    unfold codsC at hx
    rw [List.mem_map] at hx
    obtain ⟨c, _, rfl⟩ := hx
    rcases codC_bd (blkI l lt i k) c with h | h | h <;> omega
  have HE : Hid (codI l lt W i k = wrstC (codsC (blkI l lt i k) (sgtL W i k)) 0) := Lib.hid rfl
  rw [HE.out]
  generalize codsC (blkI l lt i k) (sgtL W i k) = L at CC hlen HBD ⊢
  obtain ⟨n, hn⟩ : ∃ n, n = L.length := ⟨_, rfl⟩
  have HN := Lib.hid hn
  rw [← hn] at hlen
  clear hB hok hi hk hn HE b1 b2 b3 b4 hbd
  go_enter Tryz.func50, Tryz.ntmps50
  go_wp2_with fail
  refine (CC.out _ (HB.out.keep s0.2.2.2.2.2.2.2.2.2.2.2.2)).mono ?_
  rintro e1 w1 ⟨v, rfl, o1, k1⟩
  have K1 := s0.2.2.2.2.2.2.2.2.2.2.2.2.trans k1
  obtain ⟨A1, c1, rfl, hv⟩ := o1.rd
  rw [← HN.out] at hv ⊢
  have HV := Lib.hid hv
  clear s0 k1 o1 hv
  go_wp2_with fail
  go_loopw [7, 9, 15] (fun s7 _ s15 wr => ∃ (q : Nat) (M : Int), q ≤ n ∧ s15 = .int .i64 q ∧ s7 = .int .i64 M ∧ (0 ≤ M ∧ M ≤ 2) ∧ Hid (wrstC (L.take q) 0 = M) ∧ Kp w1 wr) (fun _ _ s15 _ => n - (intOf s15).toNat)
  case atStart => exact ⟨0, 0, by omega, rfl, rfl, by omega, Lib.hid rfl, Kp.refl w1⟩
  case round =>
    obtain ⟨q, M, hqn, rfl, rfl, hM, HW, kr⟩ := hrel
    by_cases hlt : q < n
    · have hlt' : (q : Int) < n := by omega
      obtain ⟨g, off, rfl, hc⟩ := HV.out (by omega)
      obtain ⟨z, hz⟩ : ∃ z, L[q]? = some z := ⟨L[q]'(by have := HN.out; omega), List.getElem?_eq_getElem _⟩
      have a0 := kr.cell (hc q z hz)
      have hzb := HBD.out z (List.mem_of_getElem? hz)
      have HW2 : Hid (wrstC (L.take (q + 1)) 0 = max M z) := Lib.hid (by rw [wrstC_take hz, HW.out])
      clear hc hz
      by_cases hmz : M < z
      · rw [show max M z = z by omega] at HW2
        go_wp2_with fail
        go_roundw
        case rel => exact ⟨q + 1, z, by omega, by go_num, rfl, hzb, HW2, kr⟩
        case measure => simp [intOf]; omega
      · rw [show max M z = M by omega] at HW2
        go_wp2_with fail
        go_roundw
        case rel => exact ⟨q + 1, M, by omega, by go_num, rfl, hM, HW2, kr⟩
        case measure => simp [intOf]; omega
    · obtain rfl : q = n := by omega
      have HE : Hid (wrstC L 0 = M) := Lib.hid (by have := HW.out; rwa [HN.out, List.take_length] at this)
      go_wp2_with fail
      go_ret
      exact ⟨ret_int HE.out.symm, K1.trans kr⟩

set_option maxRecDepth 100000 in
theorem indexN_any (v : Value) (l : List Int) (m : Int) (w : World) (h : RdI w v l) (hl : l.length ≤ 1048576) :
    Calls Tryz.prog 52 #[v, .int .i64 m] w fun e w' => e = .returned (.int .i64 (fstN (fun x => x == m) l 0)) ∧ w = w' := by
  obtain ⟨A, cp, rfl, h⟩ := h
  have HA := Lib.hid h
  obtain ⟨R, hR⟩ : ∃ R, R = fstN (fun x => x == m) l 0 := ⟨_, rfl⟩
  rw [← hR]
  have HR := Lib.hid hR
  clear h hR
  generalize hn : l.length = n at *
  have HN := Lib.hid hn
  clear hn
  go_enter Tryz.func52, Tryz.ntmps52
  go_wp2_with fail
  go_loop [5, 8] (fun _ i => ∃ k : Nat, k ≤ n ∧ i = .int .i64 k ∧ Hid (fstN (fun x => x == m) (l.drop k) (k : Int) = R)) (fun _ i => n - (intOf i).toNat)
  case atStart => exact ⟨0, by omega, rfl, Lib.hid (by rw [List.drop_zero]; exact HR.out.symm)⟩
  case round =>
    obtain ⟨k, hk, rfl, hE⟩ := hrel
    by_cases hlt : k < n
    · obtain ⟨g, off, rfl, hc⟩ := HA.out (by omega)
      obtain ⟨x, hx⟩ : ∃ x, l[k]? = some x := ⟨l[k]'(by have := HN.out; omega), List.getElem?_eq_getElem _⟩
      have a0 := hc k x hx
      have HX := Lib.hid (dropN hx)
      clear hc hx
      have hlt' : (k : Int) < n := by omega
      by_cases hok : x = m
      · have HE2 : Hid ((k : Int) = R) := Lib.hid (by rw [← hE.out, HX.out, fstN]; simp [hok])
        have he : (m == x) = true := by simpa using hok.symm
        clear hok
        go_wp2_with fail
        go_ret
        exact ⟨ret_int HE2.out, rfl⟩
      · have HE2 : Hid (fstN (fun x => x == m) (l.drop (k + 1)) ((k + 1 : Nat) : Int) = R) := Lib.hid (by rw [← hE.out, HX.out, fstN]; simp [hok])
        have he : (m == x) = false := by simpa using fun e : m = x => hok e.symm
        clear hok
        go_wp2_with fail
        go_round
        case rel => exact ⟨k + 1, by omega, by go_num, HE2⟩
        case measure => simp [intOf]; omega
    · obtain rfl : k = n := by omega
      have HE2 : Hid ((-1 : Int) = R) := Lib.hid (by
        rw [← hE.out, List.drop_eq_nil_of_le (by have := HN.out; omega)]
        rfl)
      go_wp2_with fail
      go_ret
      exact ⟨ret_int HE2.out, rfl⟩

end Go.Proofs.YtfohhofpfmbheaaGreatDoor
