/-
  The reference's putting of a number into a rising list: a list of the call's own. Nothing that was there is changed.
-/
import Derived.Test.YtcdfbcmfpeceeaaDoorMirM
import Derived.Test.YtcdfbcmfpeceeaaDoorRulM
import Derived.Test.YtcdfbcmfpeceeaaDoorListI
import Derived.Test.YtcdfbcmfpeceeaaDoorMapL
import Derived.Laws.AppendOwnNone
import Derived.Maps.AppendAt
namespace Go.Proofs.YtcdfbcmfpeceeaaDoor
open Go.RowKit

theorem putI_same : ∀ (l : List Int) (n : Int) (k : Nat), (∀ j x, j < k → l[j]? = some x → x < n) → l[k]? = some n → putI l n = l
  | [], _, _, _, h => by simp at h
  | x :: l, n, 0, _, h => by
    simp only [List.getElem?_cons_zero, Option.some.injEq] at h
    subst h
    simp [putI]
  | x :: l, n, k + 1, hl, h => by
    have hx : x < n := hl 0 x (by omega) rfl
    rw [putI, if_pos hx, putI_same l n k (fun j y hj hy => hl (j + 1) y (by omega) (by simpa using hy)) (by simpa using h)]
theorem putI_split : ∀ (l : List Int) (n : Int) (k : Nat), k ≤ l.length → (∀ j x, j < k → l[j]? = some x → x < n) → (∀ x, l[k]? = some x → n < x) → putI l n = l.take k ++ [n] ++ l.drop k
  | [], n, k, hk, _, _ => by
    have : k = 0 := by simpa using hk
    subst this
    simp [putI]
  | x :: l, n, 0, _, _, h => by
    have hx : n < x := h x rfl
    rw [putI, if_neg (by omega), if_neg (by omega)]
    simp
  | x :: l, n, k + 1, hk, hl, h => by
    have hx : x < n := hl 0 x (by omega) rfl
    rw [putI, if_pos hx, putI_split l n k (by simpa using hk) (fun j y hj hy => hl (j + 1) y (by omega) (by simpa using hy)) (fun y hy => h y (by simpa using hy))]
    simp
theorem putI_le (l : List Int) (n : Int) : (putI l n).length ≤ l.length + 1 := by
  induction l with
  | nil => simp [putI]
  | cons x l ih =>
    rw [putI]
    split
    · simp; omega
    · split <;> simp
theorem OwnI.of_row {w : World} {base n : Nat} {v : Value} {l : List Int} {xs : List Value} (h : w.ownsRow base 3 1 v n xs) (hn : l.length = n) (hx : cellsI l = xs) : OwnI w base v l := by
  unfold OwnI
  rw [hn, hx]
  exact h
theorem cellsI_app (a b : List Int) : cellsI (a ++ b) = cellsI a ++ cellsI b := by simp [cellsI]
theorem cellsI_one (a : List Int) : ∀ u ∈ cellsI a, u.oneCell' = true := fun u hu => by
  obtain ⟨x, _, rfl⟩ := List.mem_map.1 hu
  rfl
theorem cellsI_len (a : List Int) : (cellsI a).length = a.length := by simp [cellsI]
/-- The cells of a stretch of a slice that reads as a list. -/
theorem news_at {w : World} {g off : Nat} {l : List Int} {s k : Nat} (hc : ∀ i x, l[i]? = some x → w.cell? ⟨g, off + i, none⟩ = some (.int .i64 x)) :
    ∀ j u, (cellsI ((l.drop s).take k))[j]? = some u → w.cell? ((⟨g, off + s, none⟩ : Addr).add j) = some u := by
  intro j u hu
  simp only [cellsI, List.getElem?_map, Option.map_eq_some_iff] at hu
  obtain ⟨x, hx, rfl⟩ := hu
  rw [List.getElem?_take] at hx
  split at hx
  · rw [List.getElem?_drop] at hx
    have := hc _ x hx
    have e : (⟨g, off + s, none⟩ : Addr).add j = ⟨g, off + (s + j), none⟩ := by
      unfold Addr.add
      split
      · rename_i h; simp_all
      · simp [Nat.add_assoc]
    rw [e]
    exact this
  · cases hx

theorem one_newP (w : World) (x : Value) (t : TypeId) (b : Nat) (hb : b = w.heap.size) : ∀ j u, [x][j]? = some u → (w.alloc (.cells #[x] t)).cell? ((⟨b, 0, none⟩ : Addr).add j) = some u := by
  subst hb
  exact one_cell w x t

set_option maxRecDepth 100000 in
set_option maxHeartbeats 4000000 in
theorem l1Put_any (v : Value) (l : List Int) (n : Int) (base : Nat) (w : World) (h : OwnI w base v l) (hb : base ≤ w.heap.size) (hl : l.length ≤ 1048576) :
    Calls Tryd.prog 138 #[v, .int .i64 n] w fun e w' => ∃ v', e = .returned v' ∧ OwnI w' base v' (putI l n) ∧ Kp w w' := by
  have hr := h.rd
  have HO := Lib.hid h
  obtain ⟨R, hR⟩ : ∃ R, R = putI l n := ⟨_, rfl⟩
  rw [← hR]
  have HR := Lib.hid hR
  obtain ⟨j0, hj0, hz0, hs0, hb0⟩ := info_parts infoInt
  have HLit : Hid ((w.alloc (.cells #[] 3)).ownsRow w.heap.size 3 1 (.slice (some ⟨w.heap.size, 0, none⟩) 0 0) 0 []) := Lib.hid (World.ownsRow_lit w #[] 0 (Nat.le_refl _) (by simp [maxLen]) rfl)
  rcases h.2 with ⟨rfl, hln⟩ | ⟨g, cap, cur, hv, hg1, _, hcap, hmax, _, _⟩
  · have hl0 : l = [] := List.eq_nil_of_length_eq_zero hln
    subst hl0
    clear h hr hR HO hln hl
    go_enter Tryd.func138, Tryd.ntmps138
    go_wp2_with fail
    go_loop [5] (fun i => i = .int .i64 0) (fun _ => 0)
    case atStart => rfl
    case round =>
      obtain rfl := hrel
      go_wp2_with (first
        | (at_builtin; refine wpList_append_own_none rfl (.tmp 34) (.tmp 37) 40 rfl w.heap.size 3 j0 1 Tryd.underlying40 hj0 _ _ _ rfl HLit.out rfl ?_)
        | (at_builtin; refine wpList_append_own_at _ rfl (.tmp 39) (.tmp 41) 40 rfl w.heap.size 3 j0 (.int .i64 0) 1 8 Tryd.underlying40 hj0 hz0 hs0 hb0 rfl (by decide) _ 0 [] rfl (World.ownsRow.alloc HLit.out _) ⟨w.heap.size + 1, 0, none⟩ 1 1 [.int .i64 n] rfl rfl (one_newP _ _ _ _ (by simp)) (by simp [Value.oneCell']) (by simp [maxLen]) (by omega) (by simp <;> omega) ?_; intro v1 w3 hown2 hgrow2 hnil2 hat2; clear hnil2 hat2; have O3 := Lib.hid hown2; have K3 : Kp w w3 := (((Kp.refl w).alloc _).alloc _).grown hgrow2 (fun k e => (World.ownsRow.lt HLit.out k e).1); clear hown2 hgrow2)
        | (at_builtin; refine wpList_append_own_none rfl (.tmp 43) (.tmp 46) 40 rfl w.heap.size 3 j0 1 Tryd.underlying40 hj0 _ _ _ rfl O3.out rfl ?_))
      go_ret
      refine ⟨_, rfl, OwnI.base (base := w.heap.size) (OwnI.of_row (n := 1) O3.out ?_ ?_) hb, K3⟩
      · rw [HR.out]
        rfl
      · rw [HR.out]
        rfl
  · have hc : ∀ i x, l[i]? = some x → w.cell? ⟨g, 0 + i, none⟩ = some (.int .i64 x) := by
      intro i x hx
      have hi := lt_of_at hx
      rw [hv] at h
      rw [Nat.zero_add]
      exact (World.ownsRow.cellAt h i (by omega)).trans (by simp [cellsI, hx])
    have HC := Lib.hid hc
    have hgl : g < w.heap.size := (World.ownsRow.lt h g (by rw [hv]; rfl)).2
    subst hv
    generalize hn : l.length = len at *
    have HN := Lib.hid hn
    have hcc : cap ≤ 9223372036854775807 := by unfold maxLen at hmax; omega
    clear h hr hR hc hn hmax
    go_enter Tryd.func138, Tryd.ntmps138
    go_wp2_with fail
    go_loop [5] (fun i => ∃ k : Nat, k ≤ len ∧ i = .int .i64 k ∧ Hid (∀ j x, j < k → l[j]? = some x → x < n)) (fun i => len - (intOf i).toNat)
    case atStart => exact ⟨0, by omega, rfl, Lib.hid fun j x hj => absurd hj (by omega)⟩
    case round =>
      obtain ⟨k, hk, rfl, hE⟩ := hrel
      by_cases hlt : k < len
      · have hlt' : (k : Int) < len := by omega
        obtain ⟨x, hx⟩ : ∃ x, l[k]? = some x := ⟨l[k]'(by have := HN.out; omega), List.getElem?_eq_getElem _⟩
        have a0 := HC.out k x hx
        rw [Nat.zero_add] at a0
        have HX := Lib.hid hx
        clear hx
        by_cases hxn : x < n
        · have HE2 : Hid (∀ j y, j < k + 1 → l[j]? = some y → y < n) := Lib.hid fun j y hj hy => by
            rcases Nat.lt_or_ge j k with h1 | h1
            · exact hE.out j y h1 hy
            · obtain rfl : j = k := by omega
              rw [HX.out] at hy
              obtain rfl := Option.some.inj hy
              exact hxn
          go_wp2_with fail
          go_round
          case rel => exact ⟨k + 1, by omega, by go_num, HE2⟩
          case measure => simp [intOf]; omega
        · by_cases hxe : x = n
          · have hd : (x == n) = true := by simpa using hxe
            go_wp2_with fail
            go_ret
            refine ⟨_, rfl, ?_, Kp.refl _⟩
            rw [HR.out, putI_same l n k hE.out (by rw [← hxe]; exact HX.out)]
            exact HO.out
          · have hd : (x == n) = false := by simpa using hxe
            have HS : Hid (putI l n = l.take k ++ [n] ++ l.drop k) := Lib.hid (putI_split l n k (by have := HN.out; omega) hE.out (fun y hy => by
              rw [HX.out] at hy
              obtain rfl := Option.some.inj hy
              omega))
            have HT : Hid (((l.drop 0).take k).length = k) := Lib.hid (by have := HN.out; simp; omega)
            have HD : Hid (((l.drop k).take (len - k)).length = len - k) := Lib.hid (by have := HN.out; rw [List.length_take, List.length_drop]; omega)
            have HNA := Lib.hid (news_at (w := w) (g := g) (off := 0) (l := l) (s := 0) (k := k) HC.out)
            have HNB : Hid (∀ j u, (cellsI ((l.drop k).take (len - k)))[j]? = some u → w.cell? ((⟨g, k, none⟩ : Addr).add j) = some u) := Lib.hid (by
              have := news_at (w := w) (g := g) (off := 0) (l := l) (s := k) (k := len - k) HC.out
              rw [Nat.zero_add] at this
              exact this)
            go_wp2_with (first
              | (at_builtin; refine wpList_append_own_at _ rfl (.tmp 34) (.tmp 37) 40 rfl w.heap.size 3 j0 (.int .i64 0) 1 8 Tryd.underlying40 hj0 hz0 hs0 hb0 rfl (by decide) _ 0 [] rfl HLit.out ⟨g, 0, none⟩ k cap (cellsI ((l.drop 0).take k)) rfl (by rw [cellsI_len, HT.out, Nat.mul_one]) (fun j u hu => ((Kp.refl w).alloc _).cell (HNA.out j u hu)) (cellsI_one _) (by simp only [maxLen]; omega) (by omega) (by simp <;> omega) ?_; intro v1 w1 hown1 hgrow1 hnil1 hat1; clear hnil1 hat1; have O1 := Lib.hid hown1; have K1 : Kp w w1 := ((Kp.refl w).alloc _).grown hgrow1 (fun k e => (World.ownsRow.lt HLit.out k e).1); have hz1 : w.heap.size ≤ w1.heap.size := K1.size; clear hown1 hgrow1)
              | (at_builtin; refine wpList_append_own_at _ rfl (.tmp 39) (.tmp 41) 40 rfl w.heap.size 3 j0 (.int .i64 0) 1 8 Tryd.underlying40 hj0 hz0 hs0 hb0 rfl (by decide) _ (0 + k) ([] ++ cellsI ((l.drop 0).take k)) rfl (World.ownsRow.alloc O1.out _) ⟨w1.heap.size, 0, none⟩ 1 1 [.int .i64 n] rfl rfl (one_newP _ _ _ _ rfl) (by simp [Value.oneCell']) (by simp only [maxLen]; omega) (by omega) (by simp <;> omega) ?_; intro v2 w2 hown2 hgrow2 hnil2 hat2; clear hnil2 hat2; have O2 := Lib.hid hown2; have K2 : Kp w w2 := (K1.alloc _).grown hgrow2 (fun k e => (World.ownsRow.lt O1.out k e).1); have hz2 : w.heap.size ≤ w2.heap.size := K2.size; clear hown2 hgrow2)
              | (at_builtin; refine wpList_append_own_at _ rfl (.tmp 43) (.tmp 46) 40 rfl w.heap.size 3 j0 (.int .i64 0) 1 8 Tryd.underlying40 hj0 hz0 hs0 hb0 rfl (by decide) _ (0 + k + 1) (([] ++ cellsI ((l.drop 0).take k)) ++ [Value.int .i64 n]) rfl O2.out ⟨g, k, none⟩ (len - k) (cap - k) (cellsI ((l.drop k).take (len - k))) rfl (by rw [cellsI_len, HD.out, Nat.mul_one]) (fun j u hu => K2.cell (HNB.out j u hu)) (cellsI_one _) (by simp only [maxLen]; omega) (by omega) (by omega) ?_; intro v3 w3 hown3 hgrow3 hnil3 hat3; clear hnil3 hat3; have O3 := Lib.hid hown3; have K3 : Kp w w3 := K2.grown hgrow3 (fun k e => (World.ownsRow.lt O2.out k e).1); clear hown3 hgrow3))
            go_ret
            refine ⟨_, rfl, OwnI.base (base := w.heap.size) (OwnI.of_row O3.out ?_ ?_) hb, K3⟩
            · rw [HR.out, HS.out]
              have := HN.out
              simp
              omega
            · rw [HR.out, HS.out, cellsI_app, cellsI_app]
              have e : (l.drop k).take (len - k) = l.drop k := List.take_of_length_le (by have := HN.out; rw [List.length_drop]; omega)
              rw [e]
              simp [cellsI]
      · have hge : ¬ (k : Int) < len := by omega
        have HS : Hid (putI l n = l.take k ++ [n] ++ l.drop k) := Lib.hid (putI_split l n k (by have := HN.out; omega) hE.out (fun y hy => by
          have := lt_of_at hy
          have := HN.out
          omega))
        have HT : Hid (((l.drop 0).take k).length = k) := Lib.hid (by have := HN.out; simp; omega)
        have HNA := Lib.hid (news_at (w := w) (g := g) (off := 0) (l := l) (s := 0) (k := k) HC.out)
        go_wp2_with (first
          | (at_builtin; refine wpList_append_own_at _ rfl (.tmp 34) (.tmp 37) 40 rfl w.heap.size 3 j0 (.int .i64 0) 1 8 Tryd.underlying40 hj0 hz0 hs0 hb0 rfl (by decide) _ 0 [] rfl HLit.out ⟨g, 0, none⟩ k cap (cellsI ((l.drop 0).take k)) rfl (by rw [cellsI_len, HT.out, Nat.mul_one]) (fun j u hu => ((Kp.refl w).alloc _).cell (HNA.out j u hu)) (cellsI_one _) (by simp only [maxLen]; omega) (by omega) (by simp <;> omega) ?_; intro v1 w1 hown1 hgrow1 hnil1 hat1; clear hnil1 hat1; have O1 := Lib.hid hown1; have K1 : Kp w w1 := ((Kp.refl w).alloc _).grown hgrow1 (fun k e => (World.ownsRow.lt HLit.out k e).1); have hz1 : w.heap.size ≤ w1.heap.size := K1.size; clear hown1 hgrow1)
          | (at_builtin; refine wpList_append_own_at _ rfl (.tmp 39) (.tmp 41) 40 rfl w.heap.size 3 j0 (.int .i64 0) 1 8 Tryd.underlying40 hj0 hz0 hs0 hb0 rfl (by decide) _ (0 + k) ([] ++ cellsI ((l.drop 0).take k)) rfl (World.ownsRow.alloc O1.out _) ⟨w1.heap.size, 0, none⟩ 1 1 [.int .i64 n] rfl rfl (one_newP _ _ _ _ rfl) (by simp [Value.oneCell']) (by simp only [maxLen]; omega) (by omega) (by simp <;> omega) ?_; intro v2 w2 hown2 hgrow2 hnil2 hat2; clear hnil2 hat2; have O2 := Lib.hid hown2; have K2 : Kp w w2 := (K1.alloc _).grown hgrow2 (fun k e => (World.ownsRow.lt O1.out k e).1); have hz2 : w.heap.size ≤ w2.heap.size := K2.size; clear hown2 hgrow2)
          | (at_builtin; refine wpList_append_own_at _ rfl (.tmp 43) (.tmp 46) 40 rfl w.heap.size 3 j0 (.int .i64 0) 1 8 Tryd.underlying40 hj0 hz0 hs0 hb0 rfl (by decide) _ (0 + k + 1) (([] ++ cellsI ((l.drop 0).take k)) ++ [Value.int .i64 n]) rfl O2.out (if cap = k then ⟨g, 0, none⟩ else ⟨g, k, none⟩) (len - k) (cap - k) [] (by show Value.slice (if cap = k then some (⟨g, 0, none⟩ : Addr) else some ⟨g, k, none⟩) (len - k) (cap - k) = _; by_cases hck : cap = k <;> simp [hck]) (by simp; omega) (fun j u hu => by simp at hu) (by simp) (by simp only [maxLen]; omega) (by omega) (by omega) ?_; intro v3 w3 hown3 hgrow3 hnil3 hat3; clear hnil3 hat3; have O3 := Lib.hid hown3; have K3 : Kp w w3 := K2.grown hgrow3 (fun k e => (World.ownsRow.lt O2.out k e).1); clear hown3 hgrow3))
        all_goals
          go_ret
          refine ⟨_, rfl, OwnI.base (base := w.heap.size) (OwnI.of_row O3.out ?_ ?_) hb, K3⟩
          · rw [HR.out, HS.out]
            have := HN.out
            simp
            omega
          · rw [HR.out, HS.out, cellsI_app, cellsI_app]
            have e : l.drop k = [] := List.drop_of_length_le (by have := HN.out; omega)
            rw [e]
            simp [cellsI]

end Go.Proofs.YtcdfbcmfpeceeaaDoor
