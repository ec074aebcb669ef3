/-
  Seals read from texts by the program. Nothing that was there is changed. The named variables hold what the program's text lays.
-/
import Derived.Test.YtpenimbmonenpaaDoorPaQ
import Derived.Test.YtpenimbmonenpaaDoorBx3
import Derived.Deep.RegionHeld
namespace Go.Proofs.YtpenimbmonenpaaDoor
open Go.RowKit

theorem numsO3 (a b c : Nat) (ha : a < 9223372036854775808) (hb : b < 9223372036854775808) (hc : c < 9223372036854775808) : numsO [Lib.decDigits a, Lib.decDigits b, Lib.decDigits c] = some [(a : Int), b, c] := by
  simp only [numsO, atoi_dec a ha, atoi_dec b hb, atoi_dec c hc, Option.map_some]
/-- The words of a seal's text. -/
theorem sealTx_words {e : Sea} (h : seaB e = true) : spl 32 (sealTx e) = [115, 101, 97, 108] :: [Lib.decDigits e.t.toNat, Lib.decDigits e.s.toNat, Lib.decDigits e.x.toNat] := by
  have hj : sealTx e = Lib.join ([115, 101, 97, 108] :: [Lib.decDigits e.t.toNat, Lib.decDigits e.s.toNat, Lib.decDigits e.x.toNat]) [32] := by
    rw [sealTx_dec h, Lib.join_cons]
    simp [Lib.joinTail]
  rw [hj]
  refine spl_join 32 _ _ fun y hy => ?_
  simp only [List.mem_cons, List.not_mem_nil, or_false] at hy
  rcases hy with rfl | rfl | rfl | rfl
  · decide
  all_goals exact dec_no _ 32 (by decide)
theorem sealTx_nums {e : Sea} (h : seaB e = true) : numsO [Lib.decDigits e.t.toNat, Lib.decDigits e.s.toNat, Lib.decDigits e.x.toNat] = some [e.t, e.s, e.x] := by
  obtain ⟨h1, h2, h3⟩ := seaB_bd h
  rw [numsO3 _ _ _ (by omega) (by omega) (by omega), Int.toNat_of_nonneg h1.1, Int.toNat_of_nonneg h2.1, Int.toNat_of_nonneg h3.1]
def three : Option (List Int) → Option (Int × Int × Int)
  | some [a, b, c] => some (a, b, c)
  | _ => none
theorem three_len {o : Option (List Int)} (h : three o = none) {l : List Int} (e : o = some l) : l.length ≠ 3 := by
  subst e
  match l, h with
  | [], _ => simp
  | [_], _ => simp
  | [_, _], _ => simp
  | [_, _, _], h => simp [three] at h
  | _ :: _ :: _ :: _ :: l, _ => simp
theorem three_eq {o : Option (List Int)} {a b c : Int} (h : three o = some (a, b, c)) : o = some [a, b, c] := by
  match o, h with
  | some [x, y, z], h => simp [three] at h; obtain ⟨rfl, rfl, rfl⟩ := h; rfl
  | none, h => simp [three] at h
  | some [], h => simp [three] at h
  | some [_], h => simp [three] at h
  | some [_, _], h => simp [three] at h
  | some (_ :: _ :: _ :: _ :: _), h => simp [three] at h
/-- What a seal read back is: the seal and true, or none and false. -/
def prV (o : Option (Int × Int × Int)) : Value := match o with
  | some (a, b, c) => .tuple #[slx a b c, .bool true]
  | none => .tuple #[slx 0 0 0, .bool false]

set_option maxRecDepth 100000 in
set_option maxHeartbeats 4000000 in
theorem readSealed_any (s : ByteArray) (x : List UInt8) (r : List (List UInt8)) (w : World) (hs : s.size ≤ 1048576) (he : spl 32 s.data.toList = x :: r) (hE : ErAt w) :
    Calls Tryd.prog 19 #[.string s] w fun e w' => e = .returned (prV (three (numsO r))) ∧ Kp w w' := by
  have K0 : Kp w (w.alloc (.cells #[.int .i64 0, .int .i64 0, .int .i64 0] 26)) := (Kp.refl w).alloc _
  have T0 : Bx3 (w.alloc (.cells #[.int .i64 0, .int .i64 0, .int .i64 0] 26)) w.heap.size 0 0 0 := Bx3.new w 0 0 0 26
  have CL := Lib.hid (lineNumbers_any s x r (w.alloc (.cells #[.int .i64 0, .int .i64 0, .int .i64 0] 26)) hs he (hE.keep K0))
  unfold ListPostI at CL
  clear he hE
  obtain ⟨o, ho⟩ : ∃ o, o = numsO r := ⟨_, rfl⟩
  rw [← ho] at CL ⊢
  clear ho
  cases o with
  | none =>
    go_enter Tryd.func19, Tryd.ntmps19
    go_wp2_with fail
    refine CL.out.mono ?_
    rintro e1 w1 ⟨v1, rfl, o1, k1⟩
    obtain ⟨⟨c0, c1, c2⟩, f0, f1, f2⟩ := T0.keep k1
    have K1 := K0.trans k1
    clear o1
    go_wp2_with fail
    exact bodyPost_ret (v := .tuple #[slx 0 0 0, .bool false]) (by simp [results, Tryd.results19, go_sem, *]) rfl ⟨rfl, ((K1.setCell (by simp) _).setCell (by simp) _).setCell (by simp) _⟩
  | some l =>
    have hl1 : (if (some l).isSome = true then (some l).getD [] else []) = l := rfl
    rw [hl1] at CL
    clear hl1
    cases h3 : three (some l) with
    | none =>
      have hl := three_len h3 rfl
      clear h3
      have hl2 : ((l.length : Int) != 3) = true := by simp; omega
      go_enter Tryd.func19, Tryd.ntmps19
      go_wp2_with fail
      refine CL.out.mono ?_
      rintro e1 w1 ⟨v1, rfl, o1, k1⟩
      obtain ⟨⟨c0, c1, c2⟩, f0, f1, f2⟩ := T0.keep k1
      have K1 := K0.trans k1
      obtain ⟨A, cc, hv, -⟩ := (show OwnI w1 _ v1 l from o1).rd
      subst hv
      clear o1
      generalize l.length = n at *
      go_wp2_with fail
      exact bodyPost_ret (v := .tuple #[slx 0 0 0, .bool false]) (by simp [results, Tryd.results19, go_sem, *]) rfl ⟨rfl, ((K1.setCell (by simp) _).setCell (by simp) _).setCell (by simp) _⟩
    | some p =>
      obtain ⟨a, b, c⟩ := p
      obtain rfl := Option.some.inj (three_eq h3)
      clear h3
      go_enter Tryd.func19, Tryd.ntmps19
      go_wp2_with fail
      refine CL.out.mono ?_
      rintro e1 w1 ⟨v1, rfl, o1, k1⟩
      have T1 := T0.keep k1
      have K1 := K0.trans k1
      have o2 : OwnI w1 (w.alloc (.cells #[.int .i64 0, .int .i64 0, .int .i64 0] 26)).heap.size v1 [a, b, c] := o1
      obtain ⟨A, cc, hv, hA⟩ := o2.rd
      obtain ⟨g, off, hg, hc⟩ := hA (by simp)
      have hgl : w.heap.size < g := by
        have h1 := World.ownsRow.lt o2 g (by rw [hv, hg]; rfl)
        simp at h1
        omega
      have hoff : off = 0 := by
        rcases o2.2 with ⟨h1, _⟩ | ⟨g', cap, cur, h1, _⟩
        · rw [h1] at hv
          simp at hv
        · rw [h1, hg] at hv
          simp at hv
          exact hv.1.2.symm
      subst hoff hg hv
      have a0 := hc 0 a rfl
      have a1 := hc 1 b rfl
      have a2 := hc 2 c rfl
      simp only [Nat.zero_add] at a0 a1 a2
      have hgn : ¬ g = w.heap.size := by omega
      have hgn2 : ¬ w.heap.size = g := by omega
      clear o1 o2 hc hA
      go_upto_region 4 with fail
      refine wp_region_held_drew (S := (fun w' => w'.cell? ⟨g, 0, none⟩ = some (.int .i64 a) ∧ w'.cell? ⟨g, 1, none⟩ = some (.int .i64 b) ∧ w'.cell? ⟨g, 2, none⟩ = some (.int .i64 c))) (by kernel_rfl) ?_ (fun hHeld => ?_)
      · exact ⟨a0, a1, a2⟩
      have TD := T1.drew
      have K2 := K1.drew
      have SD : w1.drew.cell? ⟨g, 0, none⟩ = some (.int .i64 a) ∧ w1.drew.cell? ⟨g, 1, none⟩ = some (.int .i64 b) ∧ w1.drew.cell? ⟨g, 2, none⟩ = some (.int .i64 c) := hHeld
      clear hHeld T1 K1 a0 a1 a2
      generalize w1.drew = WD at *
      have hHeld := SD
      obtain ⟨⟨c0, c1, c2⟩, f0, f1, f2⟩ := TD
      refine wpAnyH_take (i := 0) (oi := ⟨some 19, _, _, _, _, _⟩) (v := ?_) rfl (by kernel_rfl) (by kernel_rfl) (by kernel_rfl) (fun _ _ _ h => h) (Or.inl ⟨by rfl, ?_⟩) (by assumption) ?_
      rotate_left
      · intro w hSw; (try dsimp only at hSw); go_simp; (all_goals with_reducible rfl)
      simp only [Act.put, List.setIfInBounds_toArray, List.set_cons_zero, List.set_cons_succ]
      refine wpAnyH_take (i := 1) (oi := ⟨some 20, _, _, _, _, _⟩) (v := ?_) rfl (by kernel_rfl) (by kernel_rfl) (by kernel_rfl) (fun _ _ _ h => h) (Or.inl ⟨by rfl, ?_⟩) (by assumption) ?_
      rotate_left
      · intro w hSw; (try dsimp only at hSw); go_simp; (all_goals with_reducible rfl)
      simp only [Act.put, List.setIfInBounds_toArray, List.set_cons_zero, List.set_cons_succ]
      refine wpAnyH_take (i := 2) (oi := ⟨some 21, _, _, _, _, _⟩) (v := ?_) rfl (by kernel_rfl) (by kernel_rfl) (by kernel_rfl) (fun _ _ _ h => h) (Or.inl ⟨by rfl, ?_⟩) (by assumption) ?_
      rotate_left
      · intro w hSw; (try dsimp only at hSw); go_simp; (all_goals with_reducible rfl)
      simp only [Act.put, List.setIfInBounds_toArray, List.set_cons_zero, List.set_cons_succ]
      refine wpAnyH_take (i := 3) (oi := ⟨some 22, _, _, _, _, _⟩) (v := ?_) rfl (by kernel_rfl) (by kernel_rfl) (by kernel_rfl) (fun _ _ _ h => h) (Or.inl ⟨by rfl, ?_⟩) (by assumption) ?_
      rotate_left
      · intro w hSw; (try dsimp only at hSw); go_simp; (all_goals with_reducible rfl)
      simp only [Act.put, List.setIfInBounds_toArray, List.set_cons_zero, List.set_cons_succ]
      refine wpAnyH_take (i := 4) (oi := ⟨some 23, _, _, _, _, _⟩) (v := ?_) rfl (by kernel_rfl) (by kernel_rfl) (by kernel_rfl) (fun _ _ _ h => h) (Or.inl ⟨by rfl, ?_⟩) (by assumption) ?_
      rotate_left
      · intro w hSw; (try dsimp only at hSw); go_simp; (all_goals with_reducible rfl)
      simp only [Act.put, List.setIfInBounds_toArray, List.set_cons_zero, List.set_cons_succ]
      refine wpAnyH_take (i := 5) (oi := ⟨some 24, _, _, _, _, _⟩) (v := ?_) rfl (by kernel_rfl) (by kernel_rfl) (by kernel_rfl) (fun _ _ _ h => h) (Or.inl ⟨by rfl, ?_⟩) (by assumption) ?_
      rotate_left
      · intro w hSw; (try dsimp only at hSw); go_simp; (all_goals with_reducible rfl)
      simp only [Act.put, List.setIfInBounds_toArray, List.set_cons_zero, List.set_cons_succ]
      refine wpAnyH_take (i := 6) (oi := ⟨some 25, _, _, _, _, _⟩) (v := ?_) rfl (by kernel_rfl) (by kernel_rfl) (by kernel_rfl) (fun _ _ _ h => h) (Or.inl ⟨by rfl, ?_⟩) (by assumption) ?_
      rotate_left
      · intro w hSw; (try dsimp only at hSw); go_simp; (all_goals with_reducible rfl)
      simp only [Act.put, List.setIfInBounds_toArray, List.set_cons_zero, List.set_cons_succ]
      refine wpAnyH_take (i := 7) (oi := ⟨some 26, _, _, _, _, _⟩) (v := ?_) rfl (by kernel_rfl) (by kernel_rfl) (by kernel_rfl) (fun _ _ _ h => h) (Or.inl ⟨by rfl, ?_⟩) (by assumption) ?_
      rotate_left
      · intro w hSw; (try dsimp only at hSw); go_simp; (all_goals with_reducible rfl)
      simp only [Act.put, List.setIfInBounds_toArray, List.set_cons_zero, List.set_cons_succ]
      refine wpAnyH_take (i := 8) (oi := ⟨some 27, _, _, _, _, _⟩) (v := ?_) rfl (by kernel_rfl) (by kernel_rfl) (by kernel_rfl) (fun _ _ _ h => h) (Or.inl ⟨by rfl, ?_⟩) (by assumption) ?_
      rotate_left
      · intro w hSw; (try dsimp only at hSw); go_simp; (all_goals with_reducible rfl)
      simp only [Act.put, List.setIfInBounds_toArray, List.set_cons_zero, List.set_cons_succ]
      refine wpAnyH_take (i := 9) (oi := ⟨some 28, _, _, _, _, _⟩) (v := ?_) rfl (by kernel_rfl) (by kernel_rfl) (by kernel_rfl) (fun _ _ _ h => h) (Or.inl ⟨by rfl, ?_⟩) (by assumption) ?_
      rotate_left
      · intro w hSw; (try dsimp only at hSw); go_simp; (all_goals with_reducible rfl)
      simp only [Act.put, List.setIfInBounds_toArray, List.set_cons_zero, List.set_cons_succ]
      refine wpAnyH_ready (rs := [10]) (by kernel_rfl) (by simp) ?_
      refine (AllReadyH.cons (o := ⟨none, _, _, _, _, _⟩) rfl (fun K hK => ?_) AllReadyH.nil)
      go_simp
      go_wp2_with fail
      obtain ⟨s0, s1, s2⟩ := SD
      refine hK.out _ _ ?_ (fun hHeld => ?_)
      · (try dsimp only); (exact ⟨by simp [go_sem, *], by simp [go_sem, *], by simp [go_sem, *]⟩)
      clear hK K
      try simp only [Act.put, List.setIfInBounds_toArray, List.set_cons_zero, List.set_cons_succ]
      refine wpAnyH_take (i := 11) (oi := ⟨some 3, _, _, _, _, _⟩) (v := ?_) rfl (by kernel_rfl) (by kernel_rfl) (by kernel_rfl) (fun _ _ _ h => h) (Or.inl ⟨by rfl, ?_⟩) (by assumption) ?_
      rotate_left
      · intro w hSw; (try dsimp only at hSw); go_simp; (all_goals with_reducible rfl)
      simp only [Act.put, List.setIfInBounds_toArray, List.set_cons_zero, List.set_cons_succ]
      refine wpAnyH_done (by kernel_rfl) ?_ _
      go_wp2_with fail
      exact bodyPost_ret (v := .tuple #[slx a b c, .bool true]) (by simp [results, Tryd.results19, go_sem, *]) rfl ⟨rfl, ((K2.setCell (by simp) _).setCell (by simp) _).setCell (by simp) _⟩


end Go.Proofs.YtpenimbmonenpaaDoor
