/-
  Reversed paths; ReversePath of the reference. In memory of its own; nothing that was there is changed.
-/
import Derived.Test.YtngifnnpimfimaaDoorCsU
import Derived.StillTailTactics
import Derived.Deep.Cut
import Derived.Maps.AppendAt
import Derived.Test.YtngifnnpimfimaaDoorQa
import Derived.Test.YtngifnnpimfimaaDoorQa
namespace Go.Proofs.YtngifnnpimfimaaDoor
open Go.RowKit

def oppI (x : Int) : Int := (x + 3) % 6
/-- The path back. -/
def revL (p : List Int) : List Int := (p.map oppI).reverse
theorem revL_len (p : List Int) : (revL p).length = p.length := by simp [revL]
theorem revL_step {p : List Int} {q : Nat} {z : Int} (h : p[q]? = some z) : revL (p.drop q) = revL (p.drop (q + 1)) ++ [oppI z] := by
  rw [drop_at h]
  simp [revL]
theorem opp_bd {z : Int} (_h : 0 ≤ z ∧ z ≤ 5) : 0 ≤ oppI z ∧ oppI z ≤ 5 := by
  unfold oppI
  omega
theorem opp_mod {z : Int} (h : 0 ≤ z ∧ z ≤ 5) : (z + 3).tmod 6 = oppI z := by
  unfold oppI
  exact Int.tmod_eq_emod_of_nonneg (by omega)
def RevPost (B : Bool) (X : Int) (L : List Int) (w : World) (e : Ending) (w' : World) : Prop :=
  ∃ v, e = .returned (.tuple #[.int .i64 (vI B X), v, .bool B]) ∧ OwnI w' w.heap.size v (if B = true then L else []) ∧ Kp w w'
theorem RevPost.no {X : Int} {L : List Int} {w w' : World} (hk : Kp w w') : RevPost false X L w (.returned (.tuple #[.int .i64 0, .slice none 0 0, .bool false])) w' := ⟨_, rfl, OwnI.nil _ _, hk⟩

set_option maxRecDepth 100000 in
set_option maxHeartbeats 4000000 in
theorem specReversePath_any (At Ak : Option Addr) (nt nk ct ck : Nat) (l : List Ter) (m : List Knd) (a b c d e W H : Int) (x r y : Value) (lt lr ld : List Int) (i : Int) (v : Value) (p : List Int) (w : World) (hB : BrdAt w At Ak nt nk l m x r y lt lr ld) (hp : RdI w v p) (hpl : p.length ≤ 1048576) :
    Calls Tryd.prog 25 #[bv (.slice At nt ct) (.slice Ak nk ck) a b c d e W H x r y, .int .i64 i, v] w (RevPost (((brdOk ⟨l, m, a, b, c, d, e⟩ W H lt lr ld && onI W H i) && pthB p) && onP W H i p) (endP W i p) (revL p) w) := by
  have KA : Kp w (w.alloc (.cells #[.slice At nt ct, .slice Ak nk ck, .int .i64 a, .int .i64 b, .int .i64 c, .int .i64 d, .int .i64 e, .int .i64 W, .int .i64 H, x, r, y] 42)) := (Kp.refl w).alloc _
  have s0 : cb12 (w.alloc (.cells #[.slice At nt ct, .slice Ak nk ck, .int .i64 a, .int .i64 b, .int .i64 c, .int .i64 d, .int .i64 e, .int .i64 W, .int .i64 H, x, r, y] 42)) (w.heap.size) (.slice At nt ct) (.slice Ak nk ck) (.int .i64 a) (.int .i64 b) (.int .i64 c) (.int .i64 d) (.int .i64 e) (.int .i64 W) (.int .i64 H) (x) (r) (y) (Kp w (w.alloc (.cells #[.slice At nt ct, .slice Ak nk ck, .int .i64 a, .int .i64 b, .int .i64 c, .int .i64 d, .int .i64 e, .int .i64 W, .int .i64 H, x, r, y] 42))) := ⟨by simp [go_sem], by simp [go_sem], by simp [go_sem], by simp [go_sem], by simp [go_sem], by simp [go_sem], by simp [go_sem], by simp [go_sem], by simp [go_sem], by simp [go_sem], by simp [go_sem], by simp [go_sem], KA⟩
  have HB := Lib.hid hB
  have HP := Lib.hid hp
  have HPL := Lib.hid hpl
  clear hB hp hpl
  have CA := Lib.hid (fun (w : World) hB => bAt0X_any At Ak nt nk ct ck l m a b c d e W H x r y lt lr ld i w hB)
  cases hg0 : (brdOk ⟨l, m, a, b, c, d, e⟩ W H lt lr ld && onI W H i)
  · rw [hg0] at CA
    clear hg0
    repeat (first | rw [Bool.true_and] | rw [Bool.and_true] | rw [Bool.false_and] | rw [Bool.and_false])
    go_enter Tryd.func25, Tryd.ntmps25
    go_wp2_with fail
    refine (CA.out _ (HB.out.keep s0.2.2.2.2.2.2.2.2.2.2.2.2)).mono ?_
    rintro e1 w1 ⟨rfl, k1⟩
    have s1 := keepq12 k1 s0
    clear s0 k1
    go_wp2_with fail
    go_ret3
    exact RevPost.no (s1.2.2.2.2.2.2.2.2.2.2.2.2)
  · rw [hg0] at CA
    have hok : brdOk ⟨l, m, a, b, c, d, e⟩ W H lt lr ld = true := by
      simp only [Bool.and_eq_true] at hg0
      exact hg0.1
    have hi : onI W H i = true := by
      simp only [Bool.and_eq_true] at hg0
      exact hg0.2
    obtain ⟨g1, g2, g3, g4⟩ := mapOk_side (brdOk_map hok)
    clear hg0
    have CP := Lib.hid (fun (w : World) h => csPath_any v p w h HPL.out)
    cases hg1 : pthB p
    · rw [hg1] at CP
      clear hg1 hok hi
      repeat (first | rw [Bool.true_and] | rw [Bool.and_true] | rw [Bool.false_and] | rw [Bool.and_false])
      go_enter Tryd.func25, Tryd.ntmps25
      go_wp2_with fail
      refine (CA.out _ (HB.out.keep s0.2.2.2.2.2.2.2.2.2.2.2.2)).mono ?_
      rintro e1 w1 ⟨rfl, k1⟩
      have s1 := keepq12 k1 s0
      clear s0 k1
      go_wp2_with fail
      refine (CP.out _ (HP.out.keep s1.2.2.2.2.2.2.2.2.2.2.2.2)).mono ?_
      rintro e2 w2 ⟨rfl, rfl⟩
      have s2 := s1
      clear s1
      go_wp2_with fail
      go_ret3
      exact RevPost.no (s2.2.2.2.2.2.2.2.2.2.2.2.2)
    · rw [hg1] at CP
      obtain ⟨hp9, hpd⟩ := pth_dir hg1
      clear hg1
      have CS := Lib.hid (fun (w : World) h => csHexes_any W H x r y i v p w g1 g2 g3 g4 hi hpd h hp9)
      have hlh := hexP_len W p i
      have HLAST : Hid (p ≠ [] → (hexP W i p)[p.length - 1]? = some (endP W i p)) := Lib.hid fun h => hexP_last h
      have HE0 : Hid (p = [] → endP W i p = i) := Lib.hid fun h => by rw [h]; rfl
      generalize onP W H i p = B at *
      generalize hexP W i p = L at *
      generalize endP W i p = X at *
      clear hok hi
      repeat (first | rw [Bool.true_and] | rw [Bool.and_true] | rw [Bool.false_and] | rw [Bool.and_false])
      obtain ⟨Av, cv, rfl, hcv⟩ := HP.out
      have HV := Lib.hid hcv
      clear hcv
      have HD := Lib.hid hpd
      clear hpd
      generalize hn : p.length = n at *
      have HN : Hid (n = p.length) := Lib.hid hn.symm
      clear hn
      obtain ⟨j0, hj0, hz0, hs0, hb0⟩ := info_parts infoInt
      cases B
      · clear HLAST HE0
        go_enter Tryd.func25, Tryd.ntmps25
        go_wp2_with fail
        refine (CA.out _ (HB.out.keep s0.2.2.2.2.2.2.2.2.2.2.2.2)).mono ?_
        rintro e1 w1 ⟨rfl, k1⟩
        have s1 := keepq12 k1 s0
        clear s0 k1
        go_wp2_with fail
        refine (CP.out _ (HP.out.keep s1.2.2.2.2.2.2.2.2.2.2.2.2)).mono ?_
        rintro e2 w2 ⟨rfl, rfl⟩
        have s2 := s1
        clear s1
        go_wp2_with fail
        refine (CS.out _ (HP.out.keep s2.2.2.2.2.2.2.2.2.2.2.2.2)).mono ?_
        rintro e9 w9 ⟨v9, rfl, o9, k9⟩
        clear o9
        go_wp2_with fail
        go_ret3
        exact RevPost.no (s2.2.2.2.2.2.2.2.2.2.2.2.2.trans k9)
      · go_enter Tryd.func25, Tryd.ntmps25
        go_wp2_with fail
        refine (CA.out _ (HB.out.keep s0.2.2.2.2.2.2.2.2.2.2.2.2)).mono ?_
        rintro e1 w1 ⟨rfl, k1⟩
        have s1 := keepq12 k1 s0
        clear s0 k1
        go_wp2_with fail
        refine (CP.out _ (HP.out.keep s1.2.2.2.2.2.2.2.2.2.2.2.2)).mono ?_
        rintro e2 w2 ⟨rfl, rfl⟩
        have s2 := s1
        clear s1
        go_wp2_with fail
        refine (CS.out _ (HP.out.keep s2.2.2.2.2.2.2.2.2.2.2.2.2)).mono ?_
        rintro e9 w9 ⟨v9, rfl, o9, k9⟩
        rw [if_pos rfl] at o9
        have R9 := Lib.hid o9.rd
        obtain ⟨A9, c9, rfl⟩ := o9.slice
        have K9 := s2.2.2.2.2.2.2.2.2.2.2.2.2.trans k9
        clear o9 k9 s2
        rw [hlh]
        have e0 : IntKind.i64.wrap ((n : Int) - 1) = (n : Int) - 1 := IntWalk.i64_in _ (by omega)
        go_wp2_with fail
        go_loopw [12, 13] (fun vv si wx => ∃ q : Nat, q ≤ n ∧ si = .int .i64 ((q : Int) - 1) ∧ Hid (OwnI wx w9.heap.size vv (revL (p.drop q))) ∧ Kp w9 wx) (fun _ si _ => (intOf si + 1).toNat)
        case atStart => exact ⟨n, by omega, rfl, Lib.hid (by rw [HN.out, List.drop_length]; exact OwnI.nil _ _), Kp.refl _⟩
        case round =>
          obtain ⟨q, hq, rfl, HO, kr⟩ := hrel
          by_cases hq0 : q = 0
          · subst hq0
            have HRV : Hid (OwnI wr w9.heap.size _ (revL p)) := Lib.hid (by have := HO.out; rw [List.drop_zero] at this; exact this)
            by_cases hn0 : n = 0
            · subst hn0
              have hX := HE0.out (List.eq_nil_of_length_eq_zero HN.out.symm)
              go_wp2_with fail
              go_ret3
              exact ⟨_, by rw [hX]; rfl, HRV.out.base (by have := K9.size; omega), K9.trans kr⟩
            · have hnp : (0 : Int) < n := by omega
              obtain ⟨g9, f9, rfl, h9⟩ : ∃ g off, A9 = some ⟨g, off, none⟩ ∧ ∀ i x, L[i]? = some x → w9.cell? ⟨g, off + i, none⟩ = some (.int .i64 x) := by
                obtain ⟨A', c', e', h'⟩ := R9.out
                obtain ⟨rfl, _⟩ : A9 = A' ∧ c9 = c' := by simpa using e'
                exact h' (by omega)
              have a9 := kr.cell (h9 (n - 1) X (HLAST.out (fun e => hn0 (by rw [HN.out, e]; rfl))))
              obtain ⟨z, hz⟩ : ∃ z, n = z + 1 := ⟨n - 1, by omega⟩
              have hz1 : n - 1 = z := by omega
              rw [hz1] at a9
              have e1 : IntKind.i64.wrap ((n : Int) - 1) = (z : Int) := by rw [e0]; omega
              have hzn : (z : Int) < n := by omega
              clear h9 e0
              go_wp2_with fail
              go_ret3
              exact ⟨_, rfl, HRV.out.base (by have := K9.size; omega), K9.trans kr⟩
          · obtain ⟨u, rfl⟩ : ∃ u, q = u + 1 := ⟨q - 1, by omega⟩
            have hu : ((u + 1 : Nat) : Int) - 1 = u := by omega
            rw [hu]
            obtain ⟨z, hz⟩ : ∃ z, p[u]? = some z := ⟨p[u]'(by have := HN.out; omega), List.getElem?_eq_getElem _⟩
            obtain ⟨g, off, rfl, hc⟩ := HV.out (by have := HN.out; omega)
            have a0 := (K9.trans kr).cell (hc u z hz)
            have hzd := HD.out z (List.mem_of_getElem? hz)
            have HST : Hid (revL (p.drop u) = revL (p.drop (u + 1)) ++ [oppI z]) := Lib.hid (revL_step hz)
            have hcq : Hid ((revL (p.drop (u + 1))).length ≤ 9) := Lib.hid (by rw [revL_len, List.length_drop]; have := HN.out; omega)
            have e1 : IntKind.i64.wrap (z + 3) = z + 3 := IntWalk.i64_in _ (by omega)
            have hob := opp_bd hzd
            have e2 : IntKind.i64.wrap (oppI z) = oppI z := IntWalk.i64_in _ (by omega)
            have e3 : (z + 3).tmod 6 = oppI z := opp_mod hzd
            have e4 : (z + 3) % 6 = oppI z := rfl
            have hun : (u : Int) < n := by omega
            generalize oppI z = Y at *
            have hsz := kr.size
            have HO3 := HO
            clear hc hz hu HO
            go_wp2_with (at_builtin; refine wpList_append_own_at _ rfl (.tmp 41) (.tmp 48) 29 rfl (w9.heap.size) 3 j0 (.int .i64 0) 1 8 Tryd.underlying29 hj0 hz0 hs0 hb0 rfl (by decide) _ (revL (p.drop (u + 1))).length (cellsI (revL (p.drop (u + 1)))) rfl (World.ownsRow.alloc HO3.out _) ⟨wr.heap.size, 0, none⟩ 1 1 [.int .i64 Y] rfl rfl (one_cell _ _ _) (by simp [Value.oneCell']) (by have := hcq.out; simp only [maxLen]; omega) (by have := hcq.out; omega) (by simp; omega) ?_; intro v' wz hown2 hgrow2 hnil2 hat2; clear hnil2 hat2; have K8 : Kp w9 wz := (kr.alloc _).grown hgrow2 (fun k e => by have := (World.ownsRow.lt HO3.out k e).1; omega); have O9 := Lib.hid (OwnI.snoc (x := Y) hown2); clear hown2 hgrow2)
            go_roundw
            case rel => exact ⟨u, by omega, by go_num, Lib.hid (by rw [HST.out]; exact O9.out), K8⟩
            case measure => simp [intOf]

end Go.Proofs.YtngifnnpimfimaaDoor
