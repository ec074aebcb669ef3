/-
  ParseSealed of the program. Nothing that was there is changed. The named variables hold what the program's text lays.
-/
import Derived.Test.YtpenimbmonenpaaDoorPaR
import Derived.Laws.StructEq
namespace Go.Proofs.YtpenimbmonenpaaDoor
open Go.RowKit

def psC (s : ByteArray) (p : Int × Int × Int) : Option (Int × Int × Int) := if seaB ⟨p.1, p.2.1, p.2.2⟩ = true ∧ txt (sealTx ⟨p.1, p.2.1, p.2.2⟩) = s then some p else none
def psO (s : ByteArray) (o : Option (Int × Int × Int)) : Option (Int × Int × Int) := match o with
  | some p => psC s p
  | none => none
def psR (s : ByteArray) (ws : List (List UInt8)) : Option (Int × Int × Int) := match ws with
  | [_, a, b, c] => if c.length ≤ 19 then psC s (rdP a, rdP b, edv c) else none
  | _ => none
theorem psC_no {s : ByteArray} (h : ∀ e : Sea, seaB e = true → txt (sealTx e) ≠ s) (p : Int × Int × Int) : psC s p = none := by
  rw [psC, if_neg (fun c => h _ c.1 c.2)]
theorem ps_eq (s : ByteArray) (x : List UInt8) (r : List (List UInt8)) (he : spl 32 s.data.toList = x :: r) : psO s (three (numsO r)) = psR s (x :: r) := by
  by_cases h : ∃ e : Sea, seaB e = true ∧ txt (sealTx e) = s
  · obtain ⟨e, h1, h2⟩ := h
    have hw := sealTx_words h1
    have hd : s.data.toList = sealTx e := by rw [← h2]; simp [txt]
    rw [hd, hw] at he
    obtain ⟨rfl, rfl⟩ := List.cons.inj he
    obtain ⟨b1, b2, b3⟩ := seaB_bd h1
    have l3 := dec_short e.x.toNat (by omega)
    rw [sealTx_nums h1, psR, if_pos l3, rdP_dec _ (by omega), rdP_dec _ (by omega), edv_dec _ (by omega), Int.toNat_of_nonneg b1.1, Int.toNat_of_nonneg b2.1, Int.toNat_of_nonneg b3.1]
    rfl
  · have hn : ∀ e : Sea, seaB e = true → txt (sealTx e) ≠ s := fun e h1 h2 => h ⟨e, h1, h2⟩
    have e1 : psO s (three (numsO r)) = none := by
      cases three (numsO r) with
      | none => rfl
      | some p => exact psC_no hn p
    have e2 : psR s (x :: r) = none := by
      unfold psR
      split
      · split
        · exact psC_no hn _
        · rfl
      · rfl
    rw [e1, e2]
theorem txt_ne {a s : ByteArray} (h : a ≠ s) : (a.toList != s.toList) = true := by
  simp only [bne_iff_ne, ne_eq]
  intro e
  rw [ByteArray.toList_eq, ByteArray.toList_eq] at e
  exact h (by rw [← tx_of a, ← tx_of s, e])

set_option maxRecDepth 100000 in
set_option maxHeartbeats 4000000 in
theorem readBack_any (s : ByteArray) (x : List UInt8) (r : List (List UInt8)) (w : World) (hs : s.size ≤ 1048576) (he : spl 32 s.data.toList = x :: r) (hg0 : SpanAt w 0 0 30) (hg1 : SpanAt w 1 0 1) (hg2 : SpanAt w 2 0 4611686016279904236) (hp : PwAt w) (hE : ErAt w) :
    Calls Tryd.prog 18 #[.string s, .func (.func 19) #[] #[], .func (.func 7) #[] #[]] w fun e w' => e = .returned (prV (psO s (three (numsO r)))) ∧ Kp w w' := by
  have K0 : Kp w ((w.alloc (.cells #[.int .i64 0, .int .i64 0, .int .i64 0] 26)).alloc (.cells #[.int .i64 0, .int .i64 0, .int .i64 0] 26)) := ((Kp.refl w).alloc _).alloc _
  have T0 : Bx3 ((w.alloc (.cells #[.int .i64 0, .int .i64 0, .int .i64 0] 26)).alloc (.cells #[.int .i64 0, .int .i64 0, .int .i64 0] 26)) w.heap.size 0 0 0 := (Bx3.new w 0 0 0 26).keep ((Kp.refl _).alloc _)
  have U0 : Bx3 ((w.alloc (.cells #[.int .i64 0, .int .i64 0, .int .i64 0] 26)).alloc (.cells #[.int .i64 0, .int .i64 0, .int .i64 0] 26)) (w.heap.size + 1) 0 0 0 := by
    have := Bx3.new (w.alloc (.cells #[.int .i64 0, .int .i64 0, .int .i64 0] 26)) 0 0 0 26
    simpa using this
  have CR := Lib.hid (readSealed_any s x r ((w.alloc (.cells #[.int .i64 0, .int .i64 0, .int .i64 0] 26)).alloc (.cells #[.int .i64 0, .int .i64 0, .int .i64 0] 26)) hs he (hE.keep K0))
  have HG := Lib.hid (show SpanAt w 0 0 30 ∧ SpanAt w 1 0 1 ∧ SpanAt w 2 0 4611686016279904236 ∧ PwAt w from ⟨hg0, hg1, hg2, hp⟩)
  clear he hE hg0 hg1 hg2 hp
  cases ho : three (numsO r) with
  | none =>
    rw [ho] at CR
    clear ho
    unfold prV at CR
    go_enter Tryd.func18, Tryd.ntmps18
    go_wp2_with (first | (go_at_call 19; refine CR.out.mono ?_; rintro e1 w1 ⟨rfl, k1⟩; have kz : Kp w1 (w1.alloc (.cells #[.int .i64 0, .int .i64 0, .int .i64 0] 26)) := (Kp.refl w1).alloc _; obtain ⟨⟨c0, c1, c2⟩, f0, f1, f2⟩ := (T0.keep k1).keep kz; obtain ⟨⟨u0, u1, u2⟩, -⟩ := (U0.keep k1).keep kz; have K1 := (K0.trans k1).trans kz))
    exact bodyPost_ret (v := .tuple #[slx 0 0 0, .bool false]) (by simp [results, Tryd.results18, go_sem, *]) rfl ⟨rfl, ((K1.setCell (by simp) _).setCell (by simp) _).setCell (by simp) _⟩
  | some p =>
    obtain ⟨a, b, c⟩ := p
    rw [ho] at CR
    clear ho
    have CQ := Lib.hid (fun (w : World) (h : SpanAt w 0 0 30 ∧ SpanAt w 1 0 1 ∧ SpanAt w 2 0 4611686016279904236 ∧ PwAt w) => sealedTextP_any a b c w h.1 h.2.1 h.2.2.1 h.2.2.2)
    have hps : psO s (some (a, b, c)) = psC s (a, b, c) := rfl
    rw [hps]
    clear hps
    unfold prV at CR
    have PRE : ∀ w1 : World, Kp ((w.alloc (.cells #[.int .i64 0, .int .i64 0, .int .i64 0] 26)).alloc (.cells #[.int .i64 0, .int .i64 0, .int .i64 0] 26)) w1 → Kp w1 (w1.alloc (.cells #[.int .i64 a, .int .i64 b, .int .i64 c] 26)) := fun w1 _ => (Kp.refl w1).alloc _
    cases hB : seaB ⟨a, b, c⟩
    · have hq : psC s (a, b, c) = none := by rw [psC, if_neg (by simp [hB])]
      rw [hB] at CQ
      rw [hq]
      clear hB hq
      generalize stV false (sealTx ⟨a, b, c⟩) = X at CQ
      go_enter Tryd.func18, Tryd.ntmps18
      go_wp2_with (first | (go_at_call 19; refine CR.out.mono ?_; rintro e1 w1 ⟨rfl, k1⟩; have kz := PRE w1 k1; have T1 := (T0.keep k1).keep kz; have U1 := (U0.keep k1).keep kz; have K1 := (K0.trans k1).trans kz; have B1 : SeaAt (w1.alloc (.cells #[.int .i64 a, .int .i64 b, .int .i64 c] 26)) w1.heap.size 0 ⟨a, b, c⟩ := ⟨by simp [go_sem], by simp [go_sem], by simp [go_sem]⟩; obtain ⟨q0, q1, q2⟩ := id B1; simp only [Nat.zero_add] at q0 q1 q2) | (go_at_call 7; refine (CQ.out _ ⟨K1.two HG.out.1, K1.two HG.out.2.1, K1.two HG.out.2.2.1, HG.out.2.2.2.keep K1⟩).mono ?_; rintro e2 w2 ⟨rfl, k2⟩; obtain ⟨⟨c0, c1, c2⟩, f0, f1, f2⟩ := T1.keep k2; obtain ⟨⟨u0, u1, u2⟩, -⟩ := U1.keep k2; have K2 := K1.trans k2))
      exact bodyPost_ret (v := .tuple #[slx 0 0 0, .bool false]) (by simp [results, Tryd.results18, go_sem, *]) rfl ⟨rfl, ((K2.setCell (by simp) _).setCell (by simp) _).setCell (by simp) _⟩
    · have HQ := Lib.hid (show stV true (sealTx ⟨a, b, c⟩) = txt (sealTx ⟨a, b, c⟩) from rfl)
      rw [hB, HQ.out] at CQ
      by_cases hX : txt (sealTx ⟨a, b, c⟩) = s
      · have hq : psC s (a, b, c) = some (a, b, c) := by rw [psC, if_pos ⟨hB, hX⟩]
        rw [hq]
        rw [hX] at CQ
        have hX2 : (s.toList != s.toList) = false := by simp
        clear hB hq hX HQ
        go_enter Tryd.func18, Tryd.ntmps18
        go_wp2_with (first | (go_at_call 19; refine CR.out.mono ?_; rintro e1 w1 ⟨rfl, k1⟩; have kz := PRE w1 k1; have T1 := (T0.keep k1).keep kz; have U1 := (U0.keep k1).keep kz; have K1 := (K0.trans k1).trans kz; have B1 : SeaAt (w1.alloc (.cells #[.int .i64 a, .int .i64 b, .int .i64 c] 26)) w1.heap.size 0 ⟨a, b, c⟩ := ⟨by simp [go_sem], by simp [go_sem], by simp [go_sem]⟩; obtain ⟨q0, q1, q2⟩ := id B1; simp only [Nat.zero_add] at q0 q1 q2) | (go_at_call 7; refine (CQ.out _ ⟨K1.two HG.out.1, K1.two HG.out.2.1, K1.two HG.out.2.2.1, HG.out.2.2.2.keep K1⟩).mono ?_; rintro e2 w2 ⟨rfl, k2⟩; obtain ⟨⟨c0, c1, c2⟩, f0, f1, f2⟩ := T1.keep k2; obtain ⟨r0, r1, r2⟩ := B1.keep k2; simp only [Nat.zero_add] at r0 r1 r2; have K2 := K1.trans k2))
        exact bodyPost_ret (v := .tuple #[slx a b c, .bool true]) (by simp [results, Tryd.results18, go_sem, *]) rfl ⟨rfl, ((K2.setCell (by simp) _).setCell (by simp) _).setCell (by simp) _⟩
      · have hq : psC s (a, b, c) = none := by rw [psC, if_neg (fun h => hX h.2)]
        have hX2 := txt_ne hX
        have hX3 : (txt (sealTx ⟨a, b, c⟩)).toList ≠ s.toList := by simpa using hX2
        have hX4 : ((txt (sealTx ⟨a, b, c⟩)).toList == s.toList) = false := by simpa using hX3
        rw [hq]
        generalize txt (sealTx ⟨a, b, c⟩) = X at *
        clear hB hq hX HQ
        go_enter Tryd.func18, Tryd.ntmps18
        go_wp2_with (first | (go_at_call 19; refine CR.out.mono ?_; rintro e1 w1 ⟨rfl, k1⟩; have kz := PRE w1 k1; have T1 := (T0.keep k1).keep kz; have U1 := (U0.keep k1).keep kz; have K1 := (K0.trans k1).trans kz; have B1 : SeaAt (w1.alloc (.cells #[.int .i64 a, .int .i64 b, .int .i64 c] 26)) w1.heap.size 0 ⟨a, b, c⟩ := ⟨by simp [go_sem], by simp [go_sem], by simp [go_sem]⟩; obtain ⟨q0, q1, q2⟩ := id B1; simp only [Nat.zero_add] at q0 q1 q2) | (go_at_call 7; refine (CQ.out _ ⟨K1.two HG.out.1, K1.two HG.out.2.1, K1.two HG.out.2.2.1, HG.out.2.2.2.keep K1⟩).mono ?_; rintro e2 w2 ⟨rfl, k2⟩; obtain ⟨⟨c0, c1, c2⟩, f0, f1, f2⟩ := T1.keep k2; obtain ⟨⟨u0, u1, u2⟩, -⟩ := U1.keep k2; have K2 := K1.trans k2))
        exact bodyPost_ret (v := .tuple #[slx 0 0 0, .bool false]) (by simp [results, Tryd.results18, go_sem, *]) rfl ⟨rfl, ((K2.setCell (by simp) _).setCell (by simp) _).setCell (by simp) _⟩

set_option maxRecDepth 100000 in
set_option maxHeartbeats 4000000 in
theorem parseSealedP_any (s : ByteArray) (x : List UInt8) (r : List (List UInt8)) (w : World) (hs : s.size ≤ 1048576) (he : spl 32 s.data.toList = x :: r) (hg0 : SpanAt w 0 0 30) (hg1 : SpanAt w 1 0 1) (hg2 : SpanAt w 2 0 4611686016279904236) (hp : PwAt w) (hE : ErAt w) :
    Calls Tryd.prog 9 #[.string s] w fun e w' => e = .returned (prV (psO s (three (numsO r)))) ∧ Kp w w' := by
  have K0 : Kp w (w.alloc (.cells #[.int .i64 0, .int .i64 0, .int .i64 0] 26)) := (Kp.refl w).alloc _
  have T0 : Bx3 (w.alloc (.cells #[.int .i64 0, .int .i64 0, .int .i64 0] 26)) w.heap.size 0 0 0 := Bx3.new w 0 0 0 26
  have CR := Lib.hid (readBack_any s x r (w.alloc (.cells #[.int .i64 0, .int .i64 0, .int .i64 0] 26)) hs he (K0.two hg0) (K0.two hg1) (K0.two hg2) (hp.keep K0) (hE.keep K0))
  clear he hE hg0 hg1 hg2 hp
  generalize psO s (three (numsO r)) = o at *
  unfold prV at CR ⊢
  rcases o with _ | ⟨a, b, c⟩
  · simp only at CR ⊢
    go_enter Tryd.func9, Tryd.ntmps9
    go_wp2_with fail
    refine CR.out.mono ?_
    rintro e1 w1 ⟨rfl, k1⟩
    obtain ⟨⟨c0, c1, c2⟩, f0, f1, f2⟩ := T0.keep k1
    have K1 := K0.trans k1
    go_wp2_with fail
    exact bodyPost_ret (v := .tuple #[slx 0 0 0, .bool false]) (by simp [results, Tryd.results9, go_sem, *]) rfl ⟨rfl, ((K1.setCell (by simp) _).setCell (by simp) _).setCell (by simp) _⟩
  · simp only at CR ⊢
    go_enter Tryd.func9, Tryd.ntmps9
    go_wp2_with fail
    refine CR.out.mono ?_
    rintro e1 w1 ⟨rfl, k1⟩
    obtain ⟨⟨c0, c1, c2⟩, f0, f1, f2⟩ := T0.keep k1
    have K1 := K0.trans k1
    go_wp2_with fail
    exact bodyPost_ret (v := .tuple #[slx a b c, .bool true]) (by simp [results, Tryd.results9, go_sem, *]) rfl ⟨rfl, ((K1.setCell (by simp) _).setCell (by simp) _).setCell (by simp) _⟩


end Go.Proofs.YtpenimbmonenpaaDoor
