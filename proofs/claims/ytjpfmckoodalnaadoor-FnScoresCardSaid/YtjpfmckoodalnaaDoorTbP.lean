/-
  The sums of all rolls of one die or two, as the program makes them; counts of results as plain lists. Nothing that was there is changed.
-/
import Derived.Test.YtjpfmckoodalnaaDoorTbL
namespace Go.Proofs.YtjpfmckoodalnaaDoor
open Go.RowKit

def facesL (s : Int) (z : Nat) : List Int := (List.range z).map fun i : Nat => s + ((i : Int) + 1)
theorem facesL_succ (s : Int) (z : Nat) : facesL s (z + 1) = facesL s z ++ [s + ((z : Int) + 1)] := by simp [facesL, List.range_succ]
theorem facesL_len (s : Int) (z : Nat) : (facesL s z).length = z := by simp [facesL]
def wideL : List Int → List Int
  | [] => []
  | s :: l => facesL s 6 ++ wideL l
theorem wideL_len : ∀ l, (wideL l).length = 6 * l.length
  | [] => rfl
  | s :: l => by simp only [wideL, List.length_append, facesL_len, wideL_len l, List.length_cons]; omega
theorem wideL_app : ∀ a b, wideL (a ++ b) = wideL a ++ wideL b
  | [], _ => rfl
  | s :: l, b => by simp only [List.cons_append, wideL, wideL_app l b, List.append_assoc]
theorem wideL_more {l : List Int} {q : Nat} {s : Int} (h : l[q]? = some s) : wideL (l.take (q + 1)) = wideL (l.take q) ++ facesL s 6 := by
  rw [List.take_add_one, h, wideL_app]
  simp [wideL]
def sumsL : Nat → List Int
  | 0 => [0]
  | k + 1 => wideL (sumsL k)
theorem sumsL_small {k : Nat} (h : k < 2) : (sumsL k).length ≤ 6 ∧ ∀ x ∈ sumsL k, 0 ≤ x ∧ x ≤ 6 := by
  match k, h with
  | 0, _ => decide
  | 1, _ => decide
theorem sumsL_len {k : Nat} (h : k ≤ 2) : (sumsL k).length ≤ 36 := by
  match k, h with
  | 0, _ => decide
  | 1, _ => decide
  | 2, _ => decide

set_option maxRecDepth 100000 in
set_option maxHeartbeats 4000000 in
theorem rollSums_any (d : Int) (w : World) (h1 : 1 ≤ d) (h2 : d ≤ 2) :
    Calls Tryd.prog 43 #[.int .i64 d] w fun e w' => ∃ v, e = .returned v ∧ OwnI w' w.heap.size v (sumsL d.toNat) ∧ Kp w w' := by
  obtain ⟨D, rfl⟩ : ∃ D : Nat, d = D := ⟨d.toNat, by omega⟩
  obtain ⟨j0, hj0, hz0, hs0, hb0⟩ := info_parts infoInt
  have own0 : Hid (OwnI (w.alloc (.cells #[.int .i64 0] 3)) w.heap.size (.slice (some ⟨w.heap.size, 0, none⟩) 1 1) (sumsL 0)) := Lib.hid (World.ownsRow_lit w #[.int .i64 0] 1 (Nat.le_refl _) (by simp [maxLen]) rfl)
  rw [Int.toNat_natCast]
  go_enter Tryd.func43, Tryd.ntmps43
  go_wp2_with fail
  go_loopw [3, 4, 6, 7, 10] (fun v _ _ _ i wx => ∃ k : Nat, k ≤ D ∧ i = .int .i64 k ∧ Hid (OwnI wx w.heap.size v (sumsL k)) ∧ Kp w wx) (fun _ _ _ _ i _ => D - (intOf i).toNat)
  case atStart => exact ⟨0, by omega, rfl, own0, (Kp.refl _).alloc _⟩
  case round =>
    clear own0
    obtain ⟨k, hk, rfl, hO, kr⟩ := hrel
    by_cases hlt : k < D
    · have hlt' : (k : Int) < D := by omega
      obtain ⟨A3, c3, ev, hA⟩ := hO.out.rd
      subst ev
      obtain ⟨hl6, hb6⟩ := sumsL_small (k := k) (by omega)
      have HSK : Hid (sumsL (k + 1) = wideL (sumsL k)) := Lib.hid rfl
      generalize sumsL k = S at hl6 hb6 HSK hA ⊢
      have HB6 := Lib.hid hb6
      obtain ⟨n, hn⟩ : ∃ n, S.length = n := ⟨_, rfl⟩
      have HN := Lib.hid hn
      rw [hn] at hl6 hA ⊢
      have RD := Lib.hid hA
      clear hn hb6 hO hA
      generalize wr = wB at *
      go_wp2_with fail
      go_loopw [4, 6, 7, 14] (fun v4 _ _ i wx => ∃ q : Nat, q ≤ n ∧ i = .int .i64 q ∧ Hid (OwnI wx wB.heap.size v4 (wideL (S.take q))) ∧ Kp wB wx) (fun _ _ _ i _ => n - (intOf i).toNat)
      case atStart => exact ⟨0, by omega, rfl, Lib.hid (OwnI.nil _ _), Kp.refl _⟩
      case round =>
        obtain ⟨q, hq, rfl, hO, kB⟩ := hrel
        by_cases hqn : q < n
        · have hqn' : (q : Int) < n := by omega
          obtain ⟨s, hs⟩ : ∃ s, S[q]? = some s := ⟨S[q]'(by have := HN.out; omega), List.getElem?_eq_getElem _⟩
          obtain ⟨g, off, rfl, hc⟩ := RD.out (by omega)
          have a0 := kB.cell (hc q s hs)
          obtain ⟨s1, s2⟩ := HB6.out s (List.mem_of_getElem? hs)
          have HW := Lib.hid (wideL_more hs)
          have hln := Lib.hid (show (wideL (S.take q)).length ≤ 36 by rw [wideL_len, List.length_take]; omega)
          generalize wideL (S.take q) = acc at hO HW hln
          clear hc hs
          go_wp2_with fail
          go_loopw [4, 7] (fun v4 f wx => ∃ z : Nat, z ≤ 6 ∧ f = .int .i64 ((z : Int) + 1) ∧ Hid (OwnI wx wB.heap.size v4 (acc ++ facesL s z)) ∧ Kp wB wx) (fun _ f _ => 7 - (intOf f).toNat)
          case atStart => exact ⟨0, by omega, rfl, Lib.hid (by simpa [facesL] using hO.out), kB⟩
          case round =>
            clear hO kB
            obtain ⟨z, hz, rfl, hO, kB⟩ := hrel
            by_cases hz6 : z < 6
            · have hz1 : (z : Int) + 1 ≤ 6 := by omega
              have HFS : Hid (acc ++ facesL s (z + 1) = (acc ++ facesL s z) ++ [s + ((z : Int) + 1)]) := Lib.hid (by rw [facesL_succ, List.append_assoc])
              have hlz := Lib.hid (show (acc ++ facesL s z).length ≤ 100 by rw [List.length_append, facesL_len]; have := hln.out; omega)
              have hbw : wB.heap.size ≤ wr.heap.size := kB.size
              go_wp2_with (at_builtin; refine wpList_append_own_at _ rfl (.tmp 22) (.tmp 26) 41 rfl wB.heap.size 3 j0 (.int .i64 0) 1 8 Tryd.underlying41 hj0 hz0 hs0 hb0 rfl (by decide) _ (acc ++ facesL s z).length (cellsI (acc ++ facesL s z)) rfl (World.ownsRow.alloc hO.out _) ⟨wr.heap.size, 0, none⟩ 1 1 [.int .i64 (s + ((z : Int) + 1))] rfl rfl (one_cell _ _ _) (by simp [Value.oneCell']) (by have := hlz.out; simp only [maxLen]; omega) (by have := hlz.out; omega) (by simp; omega) ?_; intro v' w3 hown2 hgrow2 hnil2 hat2; clear hnil2 hat2; have O3 : Hid (OwnI w3 wB.heap.size v' (acc ++ facesL s (z + 1))) := Lib.hid (by rw [HFS.out]; exact OwnI.snoc hown2); have K3 : Kp wB w3 := (kB.alloc _).grown hgrow2 (fun k e => (World.ownsRow.lt hO.out k e).1); clear hown2 hgrow2)
              go_roundw
              case rel => exact ⟨z + 1, by omega, by go_num, O3, K3⟩
              case measure => simp [intOf]; omega
            · obtain rfl : z = 6 := by omega
              have O4 : Hid (OwnI wr wB.heap.size _ (wideL (S.take (q + 1)))) := Lib.hid (by rw [HW.out]; exact hO.out)
              go_wp2_with fail
              go_roundw
              case rel => exact ⟨q + 1, by omega, by go_num, O4, kB⟩
              case measure => simp [intOf]; omega
        · obtain rfl : q = n := by omega
          have O5 : Hid (OwnI wr wB.heap.size _ (sumsL (k + 1))) := Lib.hid (by rw [HSK.out]; have := hO.out; rw [List.take_of_length_le (by rw [HN.out]; omega)] at this; exact this)
          go_wp2_with fail
          go_roundw
          case rel => exact ⟨k + 1, by omega, by go_num, Lib.hid (O5.out.base kr.size), kr.trans kB⟩
          case measure => simp [intOf]; omega
    · obtain rfl : k = D := by omega
      go_wp2_with fail
      go_ret
      exact ⟨_, rfl, hO.out, kr⟩

end Go.Proofs.YtjpfmckoodalnaaDoor
