/-
  Texts of this seat in one module: PaR, PaT, FsM.
-/
import Derived.Deep.RegionHeld
import Derived.Laws.StructEq
import Derived.Test.YtbohefollbmhkaaGreatDoorQh
import Derived.Test.YtbohefollbmhkaaGreatDoorQj
import Derived.Test.YtbohefollbmhkaaGreatDoorQm
import Derived.Test.YtbohefollbmhkaaGreatDoorQp

/-
  Seals read from texts by the program. Nothing that was there is changed. The named variables hold what the program's text lays.
-/
namespace Go.Proofs.YtbohefollbmhkaaGreatDoor
open Go.RowKit

theorem numsO3 (a b c : Nat) (ha : a < 9223372036854775808) (hb : b < 9223372036854775808) (hc : c < 9223372036854775808) : numsO [Lib.decDigits a, Lib.decDigits b, Lib.decDigits c] = some [(a : Int), b, c] := by
  simp only [numsO, atoi_dec a ha, atoi_dec b hb, atoi_dec c hc, Option.map_some]
/-- The words of a seal's text. -/
theorem sealTx_words {e : Sea} (h : seaB e = true) : spl 32 (sealTx e) = [115, 101, 97, 108] :: [Lib.decDigits e.t.toNat, Lib.decDigits e.s.toNat, Lib.decDigits e.x.toNat] := by
  have hj : sealTx e = Lib.join ([115, 101, 97, 108] :: [Lib.decDigits e.t.toNat, Lib.decDigits e.s.toNat, Lib.decDigits e.x.toNat]) [32] := by
    rw [sealTx_dec h, Lib.join_cons]
    simp [Lib.joinTail]
  rw [hj]
  refine spl_join 32 _ _ fun y hy => ?_
  simp only [List.mem_cons, List.not_mem_nil, or_false] at hy
  rcases hy with rfl | rfl | rfl | rfl
  · decide
  all_goals exact dec_no _ 32 (by decide)
theorem sealTx_nums {e : Sea} (h : seaB e = true) : numsO [Lib.decDigits e.t.toNat, Lib.decDigits e.s.toNat, Lib.decDigits e.x.toNat] = some [e.t, e.s, e.x] := by
  obtain ⟨h1, h2, h3⟩ := seaB_bd h
  rw [numsO3 _ _ _ (by omega) (by omega) (by omega), Int.toNat_of_nonneg h1.1, Int.toNat_of_nonneg h2.1, Int.toNat_of_nonneg h3.1]
def three : Option (List Int) → Option (Int × Int × Int)
  | some [a, b, c] => some (a, b, c)
  | _ => none
theorem three_len {o : Option (List Int)} (h : three o = none) {l : List Int} (e : o = some l) : l.length ≠ 3 := by
  subst e
  match l, h with
  | [], _ => simp
  | [_], _ => simp
  | [_, _], _ => simp
  | [_, _, _], h => simp [three] at h
  | _ :: _ :: _ :: _ :: l, _ => simp
theorem three_eq {o : Option (List Int)} {a b c : Int} (h : three o = some (a, b, c)) : o = some [a, b, c] := by
  match o, h with
  | some [x, y, z], h => simp [three] at h; obtain ⟨rfl, rfl, rfl⟩ := h; rfl
  | none, h => simp [three] at h
  | some [], h => simp [three] at h
  | some [_], h => simp [three] at h
  | some [_, _], h => simp [three] at h
  | some (_ :: _ :: _ :: _ :: _), h => simp [three] at h
/-- What a seal read back is: the seal and true, or none and false. -/
def prV (o : Option (Int × Int × Int)) : Value := match o with
  | some (a, b, c) => .tuple #[slx a b c, .bool true]
  | none => .tuple #[slx 0 0 0, .bool false]

set_option maxRecDepth 100000 in
set_option maxHeartbeats 4000000 in
theorem readSealed_any (s : ByteArray) (x : List UInt8) (r : List (List UInt8)) (w : World) (hs : s.size ≤ 1048576) (he : spl 32 s.data.toList = x :: r) (hE : ErAt w) :
    Calls Tryz.prog 33 #[.string s] w fun e w' => e = .returned (prV (three (numsO r))) ∧ Kp w w' := by
  have K0 : Kp w (w.alloc (.cells #[.int .i64 0, .int .i64 0, .int .i64 0] 29)) := (Kp.refl w).alloc _
  have T0 : Bx3 (w.alloc (.cells #[.int .i64 0, .int .i64 0, .int .i64 0] 29)) w.heap.size 0 0 0 := Bx3.new w 0 0 0 29
  have CL := Lib.hid (lineNumbers_any s x r (w.alloc (.cells #[.int .i64 0, .int .i64 0, .int .i64 0] 29)) hs he (hE.keep K0))
  unfold ListPostI at CL
  clear he hE
  obtain ⟨o, ho⟩ : ∃ o, o = numsO r := ⟨_, rfl⟩
  rw [← ho] at CL ⊢
  clear ho
  cases o with
  | none =>
    go_enter Tryz.func33, Tryz.ntmps33
    go_wp2_with fail
    refine CL.out.mono ?_
    rintro e1 w1 ⟨v1, rfl, o1, k1⟩
    obtain ⟨⟨c0, c1, c2⟩, f0, f1, f2⟩ := T0.keep k1
    have K1 := K0.trans k1
    clear o1
    go_wp2_with fail
    exact bodyPost_ret (v := .tuple #[slx 0 0 0, .bool false]) (by simp [results, Tryz.results33, go_sem, *]) rfl ⟨rfl, ((K1.setCell (by simp) _).setCell (by simp) _).setCell (by simp) _⟩
  | some l =>
    have hl1 : (if (some l).isSome = true then (some l).getD [] else []) = l := rfl
    rw [hl1] at CL
    clear hl1
    cases h3 : three (some l) with
    | none =>
      have hl := three_len h3 rfl
      clear h3
      have hl2 : ((l.length : Int) != 3) = true := by simp; omega
      go_enter Tryz.func33, Tryz.ntmps33
      go_wp2_with fail
      refine CL.out.mono ?_
      rintro e1 w1 ⟨v1, rfl, o1, k1⟩
      obtain ⟨⟨c0, c1, c2⟩, f0, f1, f2⟩ := T0.keep k1
      have K1 := K0.trans k1
      obtain ⟨A, cc, hv, -⟩ := (show OwnI w1 _ v1 l from o1).rd
      subst hv
      clear o1
      generalize l.length = n at *
      go_wp2_with fail
      exact bodyPost_ret (v := .tuple #[slx 0 0 0, .bool false]) (by simp [results, Tryz.results33, go_sem, *]) rfl ⟨rfl, ((K1.setCell (by simp) _).setCell (by simp) _).setCell (by simp) _⟩
    | some p =>
      obtain ⟨a, b, c⟩ := p
      obtain rfl := Option.some.inj (three_eq h3)
      clear h3
      go_enter Tryz.func33, Tryz.ntmps33
      go_wp2_with fail
      refine CL.out.mono ?_
      rintro e1 w1 ⟨v1, rfl, o1, k1⟩
      have T1 := T0.keep k1
      have K1 := K0.trans k1
      have o2 : OwnI w1 (w.alloc (.cells #[.int .i64 0, .int .i64 0, .int .i64 0] 29)).heap.size v1 [a, b, c] := o1
      obtain ⟨A, cc, hv, hA⟩ := o2.rd
      obtain ⟨g, off, hg, hc⟩ := hA (by simp)
      have hgl : w.heap.size < g := by
        have h1 := World.ownsRow.lt o2 g (by rw [hv, hg]; rfl)
        simp at h1
        omega
      have hoff : off = 0 := by
        rcases o2.2 with ⟨h1, _⟩ | ⟨g', cap, cur, h1, _⟩
        · rw [h1] at hv
          simp at hv
        · rw [h1, hg] at hv
          simp at hv
          exact hv.1.2.symm
      subst hoff hg hv
      have a0 := hc 0 a rfl
      have a1 := hc 1 b rfl
      have a2 := hc 2 c rfl
      simp only [Nat.zero_add] at a0 a1 a2
      have hgn : ¬ g = w.heap.size := by omega
      have hgn2 : ¬ w.heap.size = g := by omega
      clear o1 o2 hc hA
      go_upto_region 4 with fail
      refine wp_region_held_drew (S := (fun w' => w'.cell? ⟨g, 0, none⟩ = some (.int .i64 a) ∧ w'.cell? ⟨g, 1, none⟩ = some (.int .i64 b) ∧ w'.cell? ⟨g, 2, none⟩ = some (.int .i64 c))) (by kernel_rfl) ?_ (fun hHeld => ?_)
      · exact ⟨a0, a1, a2⟩
      have TD := T1.drew
      have K2 := K1.drew
      have SD : w1.drew.cell? ⟨g, 0, none⟩ = some (.int .i64 a) ∧ w1.drew.cell? ⟨g, 1, none⟩ = some (.int .i64 b) ∧ w1.drew.cell? ⟨g, 2, none⟩ = some (.int .i64 c) := hHeld
      clear hHeld T1 K1 a0 a1 a2
      generalize w1.drew = WD at *
      have hHeld := SD
      obtain ⟨⟨c0, c1, c2⟩, f0, f1, f2⟩ := TD
      refine wpAnyH_take (i := 0) (oi := ⟨some 19, _, _, _, _, _⟩) (v := ?_) rfl (by kernel_rfl) (by kernel_rfl) (by kernel_rfl) (fun _ _ _ h => h) (Or.inl ⟨by rfl, ?_⟩) (by assumption) ?_
      rotate_left
      · intro w hSw; (try dsimp only at hSw); go_simp; (all_goals with_reducible rfl)
      simp only [Act.put, List.setIfInBounds_toArray, List.set_cons_zero, List.set_cons_succ]
      refine wpAnyH_take (i := 1) (oi := ⟨some 20, _, _, _, _, _⟩) (v := ?_) rfl (by kernel_rfl) (by kernel_rfl) (by kernel_rfl) (fun _ _ _ h => h) (Or.inl ⟨by rfl, ?_⟩) (by assumption) ?_
      rotate_left
      · intro w hSw; (try dsimp only at hSw); go_simp; (all_goals with_reducible rfl)
      simp only [Act.put, List.setIfInBounds_toArray, List.set_cons_zero, List.set_cons_succ]
      refine wpAnyH_take (i := 2) (oi := ⟨some 21, _, _, _, _, _⟩) (v := ?_) rfl (by kernel_rfl) (by kernel_rfl) (by kernel_rfl) (fun _ _ _ h => h) (Or.inl ⟨by rfl, ?_⟩) (by assumption) ?_
      rotate_left
      · intro w hSw; (try dsimp only at hSw); go_simp; (all_goals with_reducible rfl)
      simp only [Act.put, List.setIfInBounds_toArray, List.set_cons_zero, List.set_cons_succ]
      refine wpAnyH_take (i := 3) (oi := ⟨some 22, _, _, _, _, _⟩) (v := ?_) rfl (by kernel_rfl) (by kernel_rfl) (by kernel_rfl) (fun _ _ _ h => h) (Or.inl ⟨by rfl, ?_⟩) (by assumption) ?_
      rotate_left
      · intro w hSw; (try dsimp only at hSw); go_simp; (all_goals with_reducible rfl)
      simp only [Act.put, List.setIfInBounds_toArray, List.set_cons_zero, List.set_cons_succ]
      refine wpAnyH_take (i := 4) (oi := ⟨some 23, _, _, _, _, _⟩) (v := ?_) rfl (by kernel_rfl) (by kernel_rfl) (by kernel_rfl) (fun _ _ _ h => h) (Or.inl ⟨by rfl, ?_⟩) (by assumption) ?_
      rotate_left
      · intro w hSw; (try dsimp only at hSw); go_simp; (all_goals with_reducible rfl)
      simp only [Act.put, List.setIfInBounds_toArray, List.set_cons_zero, List.set_cons_succ]
      refine wpAnyH_take (i := 5) (oi := ⟨some 24, _, _, _, _, _⟩) (v := ?_) rfl (by kernel_rfl) (by kernel_rfl) (by kernel_rfl) (fun _ _ _ h => h) (Or.inl ⟨by rfl, ?_⟩) (by assumption) ?_
      rotate_left
      · intro w hSw; (try dsimp only at hSw); go_simp; (all_goals with_reducible rfl)
      simp only [Act.put, List.setIfInBounds_toArray, List.set_cons_zero, List.set_cons_succ]
      refine wpAnyH_take (i := 6) (oi := ⟨some 25, _, _, _, _, _⟩) (v := ?_) rfl (by kernel_rfl) (by kernel_rfl) (by kernel_rfl) (fun _ _ _ h => h) (Or.inl ⟨by rfl, ?_⟩) (by assumption) ?_
      rotate_left
      · intro w hSw; (try dsimp only at hSw); go_simp; (all_goals with_reducible rfl)
      simp only [Act.put, List.setIfInBounds_toArray, List.set_cons_zero, List.set_cons_succ]
      refine wpAnyH_take (i := 7) (oi := ⟨some 26, _, _, _, _, _⟩) (v := ?_) rfl (by kernel_rfl) (by kernel_rfl) (by kernel_rfl) (fun _ _ _ h => h) (Or.inl ⟨by rfl, ?_⟩) (by assumption) ?_
      rotate_left
      · intro w hSw; (try dsimp only at hSw); go_simp; (all_goals with_reducible rfl)
      simp only [Act.put, List.setIfInBounds_toArray, List.set_cons_zero, List.set_cons_succ]
      refine wpAnyH_take (i := 8) (oi := ⟨some 27, _, _, _, _, _⟩) (v := ?_) rfl (by kernel_rfl) (by kernel_rfl) (by kernel_rfl) (fun _ _ _ h => h) (Or.inl ⟨by rfl, ?_⟩) (by assumption) ?_
      rotate_left
      · intro w hSw; (try dsimp only at hSw); go_simp; (all_goals with_reducible rfl)
      simp only [Act.put, List.setIfInBounds_toArray, List.set_cons_zero, List.set_cons_succ]
      refine wpAnyH_take (i := 9) (oi := ⟨some 28, _, _, _, _, _⟩) (v := ?_) rfl (by kernel_rfl) (by kernel_rfl) (by kernel_rfl) (fun _ _ _ h => h) (Or.inl ⟨by rfl, ?_⟩) (by assumption) ?_
      rotate_left
      · intro w hSw; (try dsimp only at hSw); go_simp; (all_goals with_reducible rfl)
      simp only [Act.put, List.setIfInBounds_toArray, List.set_cons_zero, List.set_cons_succ]
      refine wpAnyH_ready (rs := [10]) (by kernel_rfl) (by simp) ?_
      refine (AllReadyH.cons (o := ⟨none, _, _, _, _, _⟩) rfl (fun K hK => ?_) AllReadyH.nil)
      go_simp
      go_wp2_with fail
      obtain ⟨s0, s1, s2⟩ := SD
      refine hK.out _ _ ?_ (fun hHeld => ?_)
      · (try dsimp only); (exact ⟨by simp [go_sem, *], by simp [go_sem, *], by simp [go_sem, *]⟩)
      clear hK K
      try simp only [Act.put, List.setIfInBounds_toArray, List.set_cons_zero, List.set_cons_succ]
      refine wpAnyH_take (i := 11) (oi := ⟨some 3, _, _, _, _, _⟩) (v := ?_) rfl (by kernel_rfl) (by kernel_rfl) (by kernel_rfl) (fun _ _ _ h => h) (Or.inl ⟨by rfl, ?_⟩) (by assumption) ?_
      rotate_left
      · intro w hSw; (try dsimp only at hSw); go_simp; (all_goals with_reducible rfl)
      simp only [Act.put, List.setIfInBounds_toArray, List.set_cons_zero, List.set_cons_succ]
      refine wpAnyH_done (by kernel_rfl) ?_ _
      go_wp2_with fail
      exact bodyPost_ret (v := .tuple #[slx a b c, .bool true]) (by simp [results, Tryz.results33, go_sem, *]) rfl ⟨rfl, ((K2.setCell (by simp) _).setCell (by simp) _).setCell (by simp) _⟩


end Go.Proofs.YtbohefollbmhkaaGreatDoor

/-
  ParseSealed of the program. Nothing that was there is changed. The named variables hold what the program's text lays.
-/
namespace Go.Proofs.YtbohefollbmhkaaGreatDoor
open Go.RowKit

def psC (s : ByteArray) (p : Int × Int × Int) : Option (Int × Int × Int) := if seaB ⟨p.1, p.2.1, p.2.2⟩ = true ∧ txt (sealTx ⟨p.1, p.2.1, p.2.2⟩) = s then some p else none
def psO (s : ByteArray) (o : Option (Int × Int × Int)) : Option (Int × Int × Int) := match o with
  | some p => psC s p
  | none => none
def psR (s : ByteArray) (ws : List (List UInt8)) : Option (Int × Int × Int) := match ws with
  | [_, a, b, c] => if c.length ≤ 19 then psC s (rdP a, rdP b, edv c) else none
  | _ => none
theorem psC_no {s : ByteArray} (h : ∀ e : Sea, seaB e = true → txt (sealTx e) ≠ s) (p : Int × Int × Int) : psC s p = none := by
  rw [psC, if_neg (fun c => h _ c.1 c.2)]
theorem ps_eq (s : ByteArray) (x : List UInt8) (r : List (List UInt8)) (he : spl 32 s.data.toList = x :: r) : psO s (three (numsO r)) = psR s (x :: r) := by
  by_cases h : ∃ e : Sea, seaB e = true ∧ txt (sealTx e) = s
  · obtain ⟨e, h1, h2⟩ := h
    have hw := sealTx_words h1
    have hd : s.data.toList = sealTx e := by rw [← h2]; simp [txt]
    rw [hd, hw] at he
    obtain ⟨rfl, rfl⟩ := List.cons.inj he
    obtain ⟨b1, b2, b3⟩ := seaB_bd h1
    have l3 := dec_short e.x.toNat (by omega)
    rw [sealTx_nums h1, psR, if_pos l3, rdP_dec _ (by omega), rdP_dec _ (by omega), edv_dec _ (by omega), Int.toNat_of_nonneg b1.1, Int.toNat_of_nonneg b2.1, Int.toNat_of_nonneg b3.1]
    rfl
  · have hn : ∀ e : Sea, seaB e = true → txt (sealTx e) ≠ s := fun e h1 h2 => h ⟨e, h1, h2⟩
    have e1 : psO s (three (numsO r)) = none := by
      cases three (numsO r) with
      | none => rfl
      | some p => exact psC_no hn p
    have e2 : psR s (x :: r) = none := by
      unfold psR
      split
      · split
        · exact psC_no hn _
        · rfl
      · rfl
    rw [e1, e2]
theorem txt_ne {a s : ByteArray} (h : a ≠ s) : (a.toList != s.toList) = true := by
  simp only [bne_iff_ne, ne_eq]
  intro e
  rw [ByteArray.toList_eq, ByteArray.toList_eq] at e
  exact h (by rw [← tx_of a, ← tx_of s, e])

set_option maxRecDepth 100000 in
set_option maxHeartbeats 4000000 in
theorem readBack_any (s : ByteArray) (x : List UInt8) (r : List (List UInt8)) (w : World) (hs : s.size ≤ 1048576) (he : spl 32 s.data.toList = x :: r) (hg0 : SpanAt w 0 0 30) (hg1 : SpanAt w 1 0 1) (hg2 : SpanAt w 2 0 4611686016279904236) (hp : PwAt w) (hE : ErAt w) :
    Calls Tryz.prog 32 #[.string s, .func (.func 33) #[] #[], .func (.func 9) #[] #[]] w fun e w' => e = .returned (prV (psO s (three (numsO r)))) ∧ Kp w w' := by
  have K0 : Kp w ((w.alloc (.cells #[.int .i64 0, .int .i64 0, .int .i64 0] 29)).alloc (.cells #[.int .i64 0, .int .i64 0, .int .i64 0] 29)) := ((Kp.refl w).alloc _).alloc _
  have T0 : Bx3 ((w.alloc (.cells #[.int .i64 0, .int .i64 0, .int .i64 0] 29)).alloc (.cells #[.int .i64 0, .int .i64 0, .int .i64 0] 29)) w.heap.size 0 0 0 := (Bx3.new w 0 0 0 29).keep ((Kp.refl _).alloc _)
  have U0 : Bx3 ((w.alloc (.cells #[.int .i64 0, .int .i64 0, .int .i64 0] 29)).alloc (.cells #[.int .i64 0, .int .i64 0, .int .i64 0] 29)) (w.heap.size + 1) 0 0 0 := by
    have := Bx3.new (w.alloc (.cells #[.int .i64 0, .int .i64 0, .int .i64 0] 29)) 0 0 0 29
    simpa using this
  have CR := Lib.hid (readSealed_any s x r ((w.alloc (.cells #[.int .i64 0, .int .i64 0, .int .i64 0] 29)).alloc (.cells #[.int .i64 0, .int .i64 0, .int .i64 0] 29)) hs he (hE.keep K0))
  have HG := Lib.hid (show SpanAt w 0 0 30 ∧ SpanAt w 1 0 1 ∧ SpanAt w 2 0 4611686016279904236 ∧ PwAt w from ⟨hg0, hg1, hg2, hp⟩)
  clear he hE hg0 hg1 hg2 hp
  cases ho : three (numsO r) with
  | none =>
    rw [ho] at CR
    clear ho
    unfold prV at CR
    go_enter Tryz.func32, Tryz.ntmps32
    go_wp2_with (first | (go_at_call 33; refine CR.out.mono ?_; rintro e1 w1 ⟨rfl, k1⟩; have kz : Kp w1 (w1.alloc (.cells #[.int .i64 0, .int .i64 0, .int .i64 0] 29)) := (Kp.refl w1).alloc _; obtain ⟨⟨c0, c1, c2⟩, f0, f1, f2⟩ := (T0.keep k1).keep kz; obtain ⟨⟨u0, u1, u2⟩, -⟩ := (U0.keep k1).keep kz; have K1 := (K0.trans k1).trans kz))
    exact bodyPost_ret (v := .tuple #[slx 0 0 0, .bool false]) (by simp [results, Tryz.results32, go_sem, *]) rfl ⟨rfl, ((K1.setCell (by simp) _).setCell (by simp) _).setCell (by simp) _⟩
  | some p =>
    obtain ⟨a, b, c⟩ := p
    rw [ho] at CR
    clear ho
    have CQ := Lib.hid (fun (w : World) (h : SpanAt w 0 0 30 ∧ SpanAt w 1 0 1 ∧ SpanAt w 2 0 4611686016279904236 ∧ PwAt w) => sealedTextP_any a b c w h.1 h.2.1 h.2.2.1 h.2.2.2)
    have hps : psO s (some (a, b, c)) = psC s (a, b, c) := rfl
    rw [hps]
    clear hps
    unfold prV at CR
    have PRE : ∀ w1 : World, Kp ((w.alloc (.cells #[.int .i64 0, .int .i64 0, .int .i64 0] 29)).alloc (.cells #[.int .i64 0, .int .i64 0, .int .i64 0] 29)) w1 → Kp w1 (w1.alloc (.cells #[.int .i64 a, .int .i64 b, .int .i64 c] 29)) := fun w1 _ => (Kp.refl w1).alloc _
    cases hB : seaB ⟨a, b, c⟩
    · have hq : psC s (a, b, c) = none := by rw [psC, if_neg (by simp [hB])]
      rw [hB] at CQ
      rw [hq]
      clear hB hq
      generalize stV false (sealTx ⟨a, b, c⟩) = X at CQ
      go_enter Tryz.func32, Tryz.ntmps32
      go_wp2_with (first | (go_at_call 33; refine CR.out.mono ?_; rintro e1 w1 ⟨rfl, k1⟩; have kz := PRE w1 k1; have T1 := (T0.keep k1).keep kz; have U1 := (U0.keep k1).keep kz; have K1 := (K0.trans k1).trans kz; have B1 : SeaAt (w1.alloc (.cells #[.int .i64 a, .int .i64 b, .int .i64 c] 29)) w1.heap.size 0 ⟨a, b, c⟩ := ⟨by simp [go_sem], by simp [go_sem], by simp [go_sem]⟩; obtain ⟨q0, q1, q2⟩ := id B1; simp only [Nat.zero_add] at q0 q1 q2) | (go_at_call 9; refine (CQ.out _ ⟨K1.two HG.out.1, K1.two HG.out.2.1, K1.two HG.out.2.2.1, HG.out.2.2.2.keep K1⟩).mono ?_; rintro e2 w2 ⟨rfl, k2⟩; obtain ⟨⟨c0, c1, c2⟩, f0, f1, f2⟩ := T1.keep k2; obtain ⟨⟨u0, u1, u2⟩, -⟩ := U1.keep k2; have K2 := K1.trans k2))
      exact bodyPost_ret (v := .tuple #[slx 0 0 0, .bool false]) (by simp [results, Tryz.results32, go_sem, *]) rfl ⟨rfl, ((K2.setCell (by simp) _).setCell (by simp) _).setCell (by simp) _⟩
    · have HQ := Lib.hid (show stV true (sealTx ⟨a, b, c⟩) = txt (sealTx ⟨a, b, c⟩) from rfl)
      rw [hB, HQ.out] at CQ
      by_cases hX : txt (sealTx ⟨a, b, c⟩) = s
      · have hq : psC s (a, b, c) = some (a, b, c) := by rw [psC, if_pos ⟨hB, hX⟩]
        rw [hq]
        rw [hX] at CQ
        have hX2 : (s.toList != s.toList) = false := by simp
        clear hB hq hX HQ
        go_enter Tryz.func32, Tryz.ntmps32
        go_wp2_with (first | (go_at_call 33; refine CR.out.mono ?_; rintro e1 w1 ⟨rfl, k1⟩; have kz := PRE w1 k1; have T1 := (T0.keep k1).keep kz; have U1 := (U0.keep k1).keep kz; have K1 := (K0.trans k1).trans kz; have B1 : SeaAt (w1.alloc (.cells #[.int .i64 a, .int .i64 b, .int .i64 c] 29)) w1.heap.size 0 ⟨a, b, c⟩ := ⟨by simp [go_sem], by simp [go_sem], by simp [go_sem]⟩; obtain ⟨q0, q1, q2⟩ := id B1; simp only [Nat.zero_add] at q0 q1 q2) | (go_at_call 9; refine (CQ.out _ ⟨K1.two HG.out.1, K1.two HG.out.2.1, K1.two HG.out.2.2.1, HG.out.2.2.2.keep K1⟩).mono ?_; rintro e2 w2 ⟨rfl, k2⟩; obtain ⟨⟨c0, c1, c2⟩, f0, f1, f2⟩ := T1.keep k2; obtain ⟨r0, r1, r2⟩ := B1.keep k2; simp only [Nat.zero_add] at r0 r1 r2; have K2 := K1.trans k2))
        exact bodyPost_ret (v := .tuple #[slx a b c, .bool true]) (by simp [results, Tryz.results32, go_sem, *]) rfl ⟨rfl, ((K2.setCell (by simp) _).setCell (by simp) _).setCell (by simp) _⟩
      · have hq : psC s (a, b, c) = none := by rw [psC, if_neg (fun h => hX h.2)]
        have hX2 := txt_ne hX
        have hX3 : (txt (sealTx ⟨a, b, c⟩)).toList ≠ s.toList := by simpa using hX2
        have hX4 : ((txt (sealTx ⟨a, b, c⟩)).toList == s.toList) = false := by simpa using hX3
        rw [hq]
        generalize txt (sealTx ⟨a, b, c⟩) = X at *
        clear hB hq hX HQ
        go_enter Tryz.func32, Tryz.ntmps32
        go_wp2_with (first | (go_at_call 33; refine CR.out.mono ?_; rintro e1 w1 ⟨rfl, k1⟩; have kz := PRE w1 k1; have T1 := (T0.keep k1).keep kz; have U1 := (U0.keep k1).keep kz; have K1 := (K0.trans k1).trans kz; have B1 : SeaAt (w1.alloc (.cells #[.int .i64 a, .int .i64 b, .int .i64 c] 29)) w1.heap.size 0 ⟨a, b, c⟩ := ⟨by simp [go_sem], by simp [go_sem], by simp [go_sem]⟩; obtain ⟨q0, q1, q2⟩ := id B1; simp only [Nat.zero_add] at q0 q1 q2) | (go_at_call 9; refine (CQ.out _ ⟨K1.two HG.out.1, K1.two HG.out.2.1, K1.two HG.out.2.2.1, HG.out.2.2.2.keep K1⟩).mono ?_; rintro e2 w2 ⟨rfl, k2⟩; obtain ⟨⟨c0, c1, c2⟩, f0, f1, f2⟩ := T1.keep k2; obtain ⟨⟨u0, u1, u2⟩, -⟩ := U1.keep k2; have K2 := K1.trans k2))
        exact bodyPost_ret (v := .tuple #[slx 0 0 0, .bool false]) (by simp [results, Tryz.results32, go_sem, *]) rfl ⟨rfl, ((K2.setCell (by simp) _).setCell (by simp) _).setCell (by simp) _⟩

set_option maxRecDepth 100000 in
set_option maxHeartbeats 4000000 in
theorem parseSealedP_any (s : ByteArray) (x : List UInt8) (r : List (List UInt8)) (w : World) (hs : s.size ≤ 1048576) (he : spl 32 s.data.toList = x :: r) (hg0 : SpanAt w 0 0 30) (hg1 : SpanAt w 1 0 1) (hg2 : SpanAt w 2 0 4611686016279904236) (hp : PwAt w) (hE : ErAt w) :
    Calls Tryz.prog 10 #[.string s] w fun e w' => e = .returned (prV (psO s (three (numsO r)))) ∧ Kp w w' := by
  have K0 : Kp w (w.alloc (.cells #[.int .i64 0, .int .i64 0, .int .i64 0] 29)) := (Kp.refl w).alloc _
  have T0 : Bx3 (w.alloc (.cells #[.int .i64 0, .int .i64 0, .int .i64 0] 29)) w.heap.size 0 0 0 := Bx3.new w 0 0 0 29
  have CR := Lib.hid (readBack_any s x r (w.alloc (.cells #[.int .i64 0, .int .i64 0, .int .i64 0] 29)) hs he (K0.two hg0) (K0.two hg1) (K0.two hg2) (hp.keep K0) (hE.keep K0))
  clear he hE hg0 hg1 hg2 hp
  generalize psO s (three (numsO r)) = o at *
  unfold prV at CR ⊢
  rcases o with _ | ⟨a, b, c⟩
  · simp only at CR ⊢
    go_enter Tryz.func10, Tryz.ntmps10
    go_wp2_with fail
    refine CR.out.mono ?_
    rintro e1 w1 ⟨rfl, k1⟩
    obtain ⟨⟨c0, c1, c2⟩, f0, f1, f2⟩ := T0.keep k1
    have K1 := K0.trans k1
    go_wp2_with fail
    exact bodyPost_ret (v := .tuple #[slx 0 0 0, .bool false]) (by simp [results, Tryz.results10, go_sem, *]) rfl ⟨rfl, ((K1.setCell (by simp) _).setCell (by simp) _).setCell (by simp) _⟩
  · simp only at CR ⊢
    go_enter Tryz.func10, Tryz.ntmps10
    go_wp2_with fail
    refine CR.out.mono ?_
    rintro e1 w1 ⟨rfl, k1⟩
    obtain ⟨⟨c0, c1, c2⟩, f0, f1, f2⟩ := T0.keep k1
    have K1 := K0.trans k1
    go_wp2_with fail
    exact bodyPost_ret (v := .tuple #[slx a b c, .bool true]) (by simp [results, Tryz.results10, go_sem, *]) rfl ⟨rfl, ((K1.setCell (by simp) _).setCell (by simp) _).setCell (by simp) _⟩


end Go.Proofs.YtbohefollbmhkaaGreatDoor

/-
  Plain facts of seals made of valid openings: the seal is valid, it opens, its text is read back; a chain is met all along.
-/
namespace Go.Proofs.YtbohefollbmhkaaGreatDoor
open Go.RowKit

theorem hash_seed (l : List Int) : seedB (hashN (mixL l)) = true := by
  have h := mixL_bd l
  rw [seedB_eq, show mixL l = ((mixL l).1, (mixL l).2) from rfl, hash_eq]
  simp [spB]
  omega
theorem seal_facts {t s n : Int} {x : ByteArray} (h : sorB t s ⟨n, x⟩ = true) : x.size ≤ 150 ∧ seaB ⟨t, s, selN t s n x⟩ = true ∧ otB ⟨t, s, selN t s n x⟩ ⟨n, x⟩ = true ∧ opnsB ⟨t, s, selN t s n x⟩ ⟨n, x⟩ = true := by
  simp only [sorB, Bool.and_eq_true] at h
  obtain ⟨h1, h2, h3⟩ := h
  have hh : seedB (selN t s n x) = true := hash_seed _
  have hs : seaB ⟨t, s, selN t s n x⟩ = true := by simp [seaB, h1, h2, hh]
  exact ⟨opnB_size h3, hs, by simp [otB, hs, h3], by simp [opnsB]⟩
theorem read_facts {e : Sea} (h : seaB e = true) : ∃ x r, spl 32 (txt (sealTx e)).data.toList = x :: r ∧ psO (txt (sealTx e)) (three (numsO r)) = some (e.t, e.s, e.x) := by
  refine ⟨_, _, (show spl 32 (txt (sealTx e)).data.toList = _ from sealTx_words h), ?_⟩
  rw [sealTx_nums h]
  show psC _ (e.t, e.s, e.x) = _
  rw [psC, if_pos ⟨h, rfl⟩]
theorem neP_self (c : List Int) (k : Nat) : neP c c k = false := by simp [neP]
theorem fst_self (c : List Int) : ∀ (m k : Nat), fstK (neP c c) k m = k + m
  | 0, k => rfl
  | m + 1, k => by
    rw [fstK, if_neg (by simp [neP_self]), fst_self c m (k + 1)]
    omega
theorem chain_facts {l : List Sea} (h : roundB seaB l = true) : fbB l (chnL l l.length) = true ∧ fstK (neP (chnL l l.length) (chnL l l.length)) 0 l.length = l.length :=
  ⟨by simp [fbB, h, chnL_len], by rw [fst_self]; omega⟩
theorem neqSl (t s x : Int) (w : World) : (binOp .neq 29 (slx t s x) (slx t s x)).run Tryz.prog w = .ok (.bool false) w := by
  have h2 : Tryz.prog.stoodInHeld 29 = false := by kernel_rfl
  simp [run_neq_struct, run_equalIn_agg, h2, Program.fieldsOf, Tryz.underlying29, Op.eqFields, run_equalIn_int, Tryz.underlying3, part, go_sem]
theorem guardNe (x y : Operand) (xs ys : Array Value) (w : World) : (eqGuard .neq 29 x y (.agg xs) (.agg ys)).run Tryz.prog w = .ok () w :=
  run_eqGuard_agg w .neq 29 x y xs ys (by kernel_rfl)
end Go.Proofs.YtbohefollbmhkaaGreatDoor
