/-
  Texts of this seat in one module: Put, MirP, MirV, MirSp, SortI, MirE, MirQ.
-/
import Derived.Laws.AppendOwnNone
import Derived.Maps.AppendAt
import Derived.Deep.RegionWith
import Derived.Deep.CutRange
import Derived.Test.YtmolpkjdjkhnpaaGreatDoorShelf
import Derived.Test.YtmolpkjdjkhnpaaGreatDoorQa
import Derived.Test.YtmolpkjdjkhnpaaGreatDoorQb
import Derived.Test.YtmolpkjdjkhnpaaGreatDoorQc
import Derived.Test.YtmolpkjdjkhnpaaGreatDoorQd

/-
  The reference's putting of a number into a rising list: a list of the call's own. Nothing that was there is changed.
-/
namespace Go.Proofs.YtmolpkjdjkhnpaaGreatDoor
open Go.RowKit

theorem putI_same : ∀ (l : List Int) (n : Int) (k : Nat), (∀ j x, j < k → l[j]? = some x → x < n) → l[k]? = some n → putI l n = l
  | [], _, _, _, h => by simp at h
  | x :: l, n, 0, _, h => by
    simp only [List.getElem?_cons_zero, Option.some.injEq] at h
    subst h
    simp [putI]
  | x :: l, n, k + 1, hl, h => by
    have hx : x < n := hl 0 x (by omega) rfl
    rw [putI, if_pos hx, putI_same l n k (fun j y hj hy => hl (j + 1) y (by omega) (by simpa using hy)) (by simpa using h)]
theorem putI_split : ∀ (l : List Int) (n : Int) (k : Nat), k ≤ l.length → (∀ j x, j < k → l[j]? = some x → x < n) → (∀ x, l[k]? = some x → n < x) → putI l n = l.take k ++ [n] ++ l.drop k
  | [], n, k, hk, _, _ => by
    have : k = 0 := by simpa using hk
    subst this
    simp [putI]
  | x :: l, n, 0, _, _, h => by
    have hx : n < x := h x rfl
    rw [putI, if_neg (by omega), if_neg (by omega)]
    simp
  | x :: l, n, k + 1, hk, hl, h => by
    have hx : x < n := hl 0 x (by omega) rfl
    rw [putI, if_pos hx, putI_split l n k (by simpa using hk) (fun j y hj hy => hl (j + 1) y (by omega) (by simpa using hy)) (fun y hy => h y (by simpa using hy))]
    simp
theorem putI_le (l : List Int) (n : Int) : (putI l n).length ≤ l.length + 1 := by
  induction l with
  | nil => simp [putI]
  | cons x l ih =>
    rw [putI]
    split
    · simp; omega
    · split <;> simp
theorem OwnI.of_row {w : World} {base n : Nat} {v : Value} {l : List Int} {xs : List Value} (h : w.ownsRow base 3 1 v n xs) (hn : l.length = n) (hx : cellsI l = xs) : OwnI w base v l := by
  unfold OwnI
  rw [hn, hx]
  exact h
theorem cellsI_app (a b : List Int) : cellsI (a ++ b) = cellsI a ++ cellsI b := by simp [cellsI]
theorem cellsI_one (a : List Int) : ∀ u ∈ cellsI a, u.oneCell' = true := fun u hu => by
  obtain ⟨x, _, rfl⟩ := List.mem_map.1 hu
  rfl
theorem cellsI_len (a : List Int) : (cellsI a).length = a.length := by simp [cellsI]
/-- The cells of a stretch of a slice that reads as a list. -/
theorem news_at {w : World} {g off : Nat} {l : List Int} {s k : Nat} (hc : ∀ i x, l[i]? = some x → w.cell? ⟨g, off + i, none⟩ = some (.int .i64 x)) :
    ∀ j u, (cellsI ((l.drop s).take k))[j]? = some u → w.cell? ((⟨g, off + s, none⟩ : Addr).add j) = some u := by
  intro j u hu
  simp only [cellsI, List.getElem?_map, Option.map_eq_some_iff] at hu
  obtain ⟨x, hx, rfl⟩ := hu
  rw [List.getElem?_take] at hx
  split at hx
  · rw [List.getElem?_drop] at hx
    have := hc _ x hx
    have e : (⟨g, off + s, none⟩ : Addr).add j = ⟨g, off + (s + j), none⟩ := by
      unfold Addr.add
      split
      · rename_i h; simp_all
      · simp [Nat.add_assoc]
    rw [e]
    exact this
  · cases hx

theorem one_newP (w : World) (x : Value) (t : TypeId) (b : Nat) (hb : b = w.heap.size) : ∀ j u, [x][j]? = some u → (w.alloc (.cells #[x] t)).cell? ((⟨b, 0, none⟩ : Addr).add j) = some u := by
  subst hb
  exact one_cell w x t

set_option maxRecDepth 100000 in
set_option maxHeartbeats 4000000 in
theorem l1Put_any (v : Value) (l : List Int) (n : Int) (base : Nat) (w : World) (h : OwnI w base v l) (hb : base ≤ w.heap.size) (hl : l.length ≤ 1048576) :
    Calls Tryz.prog 65 #[v, .int .i64 n] w fun e w' => ∃ v', e = .returned v' ∧ OwnI w' base v' (putI l n) ∧ Kp w w' := by
  have hr := h.rd
  have HO := Lib.hid h
  obtain ⟨R, hR⟩ : ∃ R, R = putI l n := ⟨_, rfl⟩
  rw [← hR]
  have HR := Lib.hid hR
  obtain ⟨j0, hj0, hz0, hs0, hb0⟩ := info_parts infoInt
  have HLit : Hid ((w.alloc (.cells #[] 3)).ownsRow w.heap.size 3 1 (.slice (some ⟨w.heap.size, 0, none⟩) 0 0) 0 []) := Lib.hid (World.ownsRow_lit w #[] 0 (Nat.le_refl _) (by simp [maxLen]) rfl)
  rcases h.2 with ⟨rfl, hln⟩ | ⟨g, cap, cur, hv, hg1, _, hcap, hmax, _, _⟩
  · have hl0 : l = [] := List.eq_nil_of_length_eq_zero hln
    subst hl0
    clear h hr hR HO hln hl
    go_enter Tryz.func65, Tryz.ntmps65
    go_wp2_with fail
    go_loop [5] (fun i => i = .int .i64 0) (fun _ => 0)
    case atStart => rfl
    case round =>
      obtain rfl := hrel
      go_wp2_with (first
        | (at_builtin; refine wpList_append_own_none rfl (.tmp 34) (.tmp 37) 26 rfl w.heap.size 3 j0 1 Tryz.underlying26 hj0 _ _ _ rfl HLit.out rfl ?_)
        | (at_builtin; refine wpList_append_own_at _ rfl (.tmp 39) (.tmp 41) 26 rfl w.heap.size 3 j0 (.int .i64 0) 1 8 Tryz.underlying26 hj0 hz0 hs0 hb0 rfl (by decide) _ 0 [] rfl (World.ownsRow.alloc HLit.out _) ⟨w.heap.size + 1, 0, none⟩ 1 1 [.int .i64 n] rfl rfl (one_newP _ _ _ _ (by simp)) (by simp [Value.oneCell']) (by simp [maxLen]) (by omega) (by simp <;> omega) ?_; intro v1 w3 hown2 hgrow2 hnil2 hat2; clear hnil2 hat2; have O3 := Lib.hid hown2; have K3 : Kp w w3 := (((Kp.refl w).alloc _).alloc _).grown hgrow2 (fun k e => (World.ownsRow.lt HLit.out k e).1); clear hown2 hgrow2)
        | (at_builtin; refine wpList_append_own_none rfl (.tmp 43) (.tmp 46) 26 rfl w.heap.size 3 j0 1 Tryz.underlying26 hj0 _ _ _ rfl O3.out rfl ?_))
      go_ret
      refine ⟨_, rfl, OwnI.base (base := w.heap.size) (OwnI.of_row (n := 1) O3.out ?_ ?_) hb, K3⟩
      · rw [HR.out]
        rfl
      · rw [HR.out]
        rfl
  · have hc : ∀ i x, l[i]? = some x → w.cell? ⟨g, 0 + i, none⟩ = some (.int .i64 x) := by
      intro i x hx
      have hi := lt_of_at hx
      rw [hv] at h
      rw [Nat.zero_add]
      exact (World.ownsRow.cellAt h i (by omega)).trans (by simp [cellsI, hx])
    have HC := Lib.hid hc
    have hgl : g < w.heap.size := (World.ownsRow.lt h g (by rw [hv]; rfl)).2
    subst hv
    generalize hn : l.length = len at *
    have HN := Lib.hid hn
    have hcc : cap ≤ 9223372036854775807 := by unfold maxLen at hmax; omega
    clear h hr hR hc hn hmax
    go_enter Tryz.func65, Tryz.ntmps65
    go_wp2_with fail
    go_loop [5] (fun i => ∃ k : Nat, k ≤ len ∧ i = .int .i64 k ∧ Hid (∀ j x, j < k → l[j]? = some x → x < n)) (fun i => len - (intOf i).toNat)
    case atStart => exact ⟨0, by omega, rfl, Lib.hid fun j x hj => absurd hj (by omega)⟩
    case round =>
      obtain ⟨k, hk, rfl, hE⟩ := hrel
      by_cases hlt : k < len
      · have hlt' : (k : Int) < len := by omega
        obtain ⟨x, hx⟩ : ∃ x, l[k]? = some x := ⟨l[k]'(by have := HN.out; omega), List.getElem?_eq_getElem _⟩
        have a0 := HC.out k x hx
        rw [Nat.zero_add] at a0
        have HX := Lib.hid hx
        clear hx
        by_cases hxn : x < n
        · have HE2 : Hid (∀ j y, j < k + 1 → l[j]? = some y → y < n) := Lib.hid fun j y hj hy => by
            rcases Nat.lt_or_ge j k with h1 | h1
            · exact hE.out j y h1 hy
            · obtain rfl : j = k := by omega
              rw [HX.out] at hy
              obtain rfl := Option.some.inj hy
              exact hxn
          go_wp2_with fail
          go_round
          case rel => exact ⟨k + 1, by omega, by go_num, HE2⟩
          case measure => simp [intOf]; omega
        · by_cases hxe : x = n
          · have hd : (x == n) = true := by simpa using hxe
            go_wp2_with fail
            go_ret
            refine ⟨_, rfl, ?_, Kp.refl _⟩
            rw [HR.out, putI_same l n k hE.out (by rw [← hxe]; exact HX.out)]
            exact HO.out
          · have hd : (x == n) = false := by simpa using hxe
            have HS : Hid (putI l n = l.take k ++ [n] ++ l.drop k) := Lib.hid (putI_split l n k (by have := HN.out; omega) hE.out (fun y hy => by
              rw [HX.out] at hy
              obtain rfl := Option.some.inj hy
              omega))
            have HT : Hid (((l.drop 0).take k).length = k) := Lib.hid (by have := HN.out; simp; omega)
            have HD : Hid (((l.drop k).take (len - k)).length = len - k) := Lib.hid (by have := HN.out; rw [List.length_take, List.length_drop]; omega)
            have HNA := Lib.hid (news_at (w := w) (g := g) (off := 0) (l := l) (s := 0) (k := k) HC.out)
            have HNB : Hid (∀ j u, (cellsI ((l.drop k).take (len - k)))[j]? = some u → w.cell? ((⟨g, k, none⟩ : Addr).add j) = some u) := Lib.hid (by
              have := news_at (w := w) (g := g) (off := 0) (l := l) (s := k) (k := len - k) HC.out
              rw [Nat.zero_add] at this
              exact this)
            go_wp2_with (first
              | (at_builtin; refine wpList_append_own_at _ rfl (.tmp 34) (.tmp 37) 26 rfl w.heap.size 3 j0 (.int .i64 0) 1 8 Tryz.underlying26 hj0 hz0 hs0 hb0 rfl (by decide) _ 0 [] rfl HLit.out ⟨g, 0, none⟩ k cap (cellsI ((l.drop 0).take k)) rfl (by rw [cellsI_len, HT.out, Nat.mul_one]) (fun j u hu => ((Kp.refl w).alloc _).cell (HNA.out j u hu)) (cellsI_one _) (by simp only [maxLen]; omega) (by omega) (by simp <;> omega) ?_; intro v1 w1 hown1 hgrow1 hnil1 hat1; clear hnil1 hat1; have O1 := Lib.hid hown1; have K1 : Kp w w1 := ((Kp.refl w).alloc _).grown hgrow1 (fun k e => (World.ownsRow.lt HLit.out k e).1); have hz1 : w.heap.size ≤ w1.heap.size := K1.size; clear hown1 hgrow1)
              | (at_builtin; refine wpList_append_own_at _ rfl (.tmp 39) (.tmp 41) 26 rfl w.heap.size 3 j0 (.int .i64 0) 1 8 Tryz.underlying26 hj0 hz0 hs0 hb0 rfl (by decide) _ (0 + k) ([] ++ cellsI ((l.drop 0).take k)) rfl (World.ownsRow.alloc O1.out _) ⟨w1.heap.size, 0, none⟩ 1 1 [.int .i64 n] rfl rfl (one_newP _ _ _ _ rfl) (by simp [Value.oneCell']) (by simp only [maxLen]; omega) (by omega) (by simp <;> omega) ?_; intro v2 w2 hown2 hgrow2 hnil2 hat2; clear hnil2 hat2; have O2 := Lib.hid hown2; have K2 : Kp w w2 := (K1.alloc _).grown hgrow2 (fun k e => (World.ownsRow.lt O1.out k e).1); have hz2 : w.heap.size ≤ w2.heap.size := K2.size; clear hown2 hgrow2)
              | (at_builtin; refine wpList_append_own_at _ rfl (.tmp 43) (.tmp 46) 26 rfl w.heap.size 3 j0 (.int .i64 0) 1 8 Tryz.underlying26 hj0 hz0 hs0 hb0 rfl (by decide) _ (0 + k + 1) (([] ++ cellsI ((l.drop 0).take k)) ++ [Value.int .i64 n]) rfl O2.out ⟨g, k, none⟩ (len - k) (cap - k) (cellsI ((l.drop k).take (len - k))) rfl (by rw [cellsI_len, HD.out, Nat.mul_one]) (fun j u hu => K2.cell (HNB.out j u hu)) (cellsI_one _) (by simp only [maxLen]; omega) (by omega) (by omega) ?_; intro v3 w3 hown3 hgrow3 hnil3 hat3; clear hnil3 hat3; have O3 := Lib.hid hown3; have K3 : Kp w w3 := K2.grown hgrow3 (fun k e => (World.ownsRow.lt O2.out k e).1); clear hown3 hgrow3))
            go_ret
            refine ⟨_, rfl, OwnI.base (base := w.heap.size) (OwnI.of_row O3.out ?_ ?_) hb, K3⟩
            · rw [HR.out, HS.out]
              have := HN.out
              simp
              omega
            · rw [HR.out, HS.out, cellsI_app, cellsI_app]
              have e : (l.drop k).take (len - k) = l.drop k := List.take_of_length_le (by have := HN.out; rw [List.length_drop]; omega)
              rw [e]
              simp [cellsI]
      · have hge : ¬ (k : Int) < len := by omega
        have HS : Hid (putI l n = l.take k ++ [n] ++ l.drop k) := Lib.hid (putI_split l n k (by have := HN.out; omega) hE.out (fun y hy => by
          have := lt_of_at hy
          have := HN.out
          omega))
        have HT : Hid (((l.drop 0).take k).length = k) := Lib.hid (by have := HN.out; simp; omega)
        have HNA := Lib.hid (news_at (w := w) (g := g) (off := 0) (l := l) (s := 0) (k := k) HC.out)
        go_wp2_with (first
          | (at_builtin; refine wpList_append_own_at _ rfl (.tmp 34) (.tmp 37) 26 rfl w.heap.size 3 j0 (.int .i64 0) 1 8 Tryz.underlying26 hj0 hz0 hs0 hb0 rfl (by decide) _ 0 [] rfl HLit.out ⟨g, 0, none⟩ k cap (cellsI ((l.drop 0).take k)) rfl (by rw [cellsI_len, HT.out, Nat.mul_one]) (fun j u hu => ((Kp.refl w).alloc _).cell (HNA.out j u hu)) (cellsI_one _) (by simp only [maxLen]; omega) (by omega) (by simp <;> omega) ?_; intro v1 w1 hown1 hgrow1 hnil1 hat1; clear hnil1 hat1; have O1 := Lib.hid hown1; have K1 : Kp w w1 := ((Kp.refl w).alloc _).grown hgrow1 (fun k e => (World.ownsRow.lt HLit.out k e).1); have hz1 : w.heap.size ≤ w1.heap.size := K1.size; clear hown1 hgrow1)
          | (at_builtin; refine wpList_append_own_at _ rfl (.tmp 39) (.tmp 41) 26 rfl w.heap.size 3 j0 (.int .i64 0) 1 8 Tryz.underlying26 hj0 hz0 hs0 hb0 rfl (by decide) _ (0 + k) ([] ++ cellsI ((l.drop 0).take k)) rfl (World.ownsRow.alloc O1.out _) ⟨w1.heap.size, 0, none⟩ 1 1 [.int .i64 n] rfl rfl (one_newP _ _ _ _ rfl) (by simp [Value.oneCell']) (by simp only [maxLen]; omega) (by omega) (by simp <;> omega) ?_; intro v2 w2 hown2 hgrow2 hnil2 hat2; clear hnil2 hat2; have O2 := Lib.hid hown2; have K2 : Kp w w2 := (K1.alloc _).grown hgrow2 (fun k e => (World.ownsRow.lt O1.out k e).1); have hz2 : w.heap.size ≤ w2.heap.size := K2.size; clear hown2 hgrow2)
          | (at_builtin; refine wpList_append_own_at _ rfl (.tmp 43) (.tmp 46) 26 rfl w.heap.size 3 j0 (.int .i64 0) 1 8 Tryz.underlying26 hj0 hz0 hs0 hb0 rfl (by decide) _ (0 + k + 1) (([] ++ cellsI ((l.drop 0).take k)) ++ [Value.int .i64 n]) rfl O2.out (if cap = k then ⟨g, 0, none⟩ else ⟨g, k, none⟩) (len - k) (cap - k) [] (by show Value.slice (if cap = k then some (⟨g, 0, none⟩ : Addr) else some ⟨g, k, none⟩) (len - k) (cap - k) = _; by_cases hck : cap = k <;> simp [hck]) (by simp; omega) (fun j u hu => by simp at hu) (by simp) (by simp only [maxLen]; omega) (by omega) (by omega) ?_; intro v3 w3 hown3 hgrow3 hnil3 hat3; clear hnil3 hat3; have O3 := Lib.hid hown3; have K3 : Kp w w3 := K2.grown hgrow3 (fun k e => (World.ownsRow.lt O2.out k e).1); clear hown3 hgrow3))
        all_goals
          go_ret
          refine ⟨_, rfl, OwnI.base (base := w.heap.size) (OwnI.of_row O3.out ?_ ?_) hb, K3⟩
          · rw [HR.out, HS.out]
            have := HN.out
            simp
            omega
          · rw [HR.out, HS.out, cellsI_app, cellsI_app]
            have e : l.drop k = [] := List.drop_of_length_le (by have := HN.out; omega)
            rw [e]
            simp [cellsI]

end Go.Proofs.YtmolpkjdjkhnpaaGreatDoor

/-
  The reference's mirrored list of edges, put one by one into a rising list, in memory of its own. Nothing that was there is changed.
-/
namespace Go.Proofs.YtmolpkjdjkhnpaaGreatDoor
open Go.RowKit

theorem fold_le : ∀ (l acc : List Int), (l.foldl putI acc).length ≤ acc.length + l.length
  | [], _ => by simp
  | x :: l, acc => by
    have h1 := fold_le l (putI acc x)
    have h2 := putI_le acc x
    simp only [List.foldl_cons, List.length_cons]
    omega
theorem fold_more {l : List Int} {q : Nat} {z : Int} (f : Int → Int) (h : l[q]? = some z) : ((l.take (q + 1)).map f).foldl putI [] = putI (((l.take q).map f).foldl putI []) (f z) := by
  rw [List.take_add_one, h]
  simp [List.foldl_append]

set_option maxRecDepth 100000 in
set_option maxHeartbeats 4000000 in
theorem mMirrorEdges_any (W H : Int) (t r d t2 r2 d2 v : Value) (l : List Int) (w : World) (a : 1 ≤ W) (b : W ≤ 10) (c : 1 ≤ H) (e : H ≤ 10) (hr : RdI w v l) (hl : l.length ≤ 1048576) (hok : edgesOk W H l = true) :
    Calls Tryz.prog 36 #[mp W H t r d, mp H W t2 r2 d2, v] w fun e' w' => ∃ v', e' = .returned v' ∧ OwnI w' (w.heap.size + 2) v' ((l.map (mirE W H)).mergeSort fun x y => decide (x ≤ y)) ∧ Kp w w' := by
  rw [← mir_list a b hok]
  unfold putAll
  obtain ⟨Av, cv, rfl, hcv⟩ := hr
  have KA : Kp w ((w.alloc (.cells #[.int .i64 W, .int .i64 H, t, r, d] 36)).alloc (.cells #[.int .i64 H, .int .i64 W, t2, r2, d2] 36)) := ((Kp.refl w).alloc _).alloc _
  have s0 : ((w.alloc (.cells #[.int .i64 W, .int .i64 H, t, r, d] 36)).alloc (.cells #[.int .i64 H, .int .i64 W, t2, r2, d2] 36)).cell? ⟨w.heap.size, 0, none⟩ = some (.int .i64 W) ∧ ((w.alloc (.cells #[.int .i64 W, .int .i64 H, t, r, d] 36)).alloc (.cells #[.int .i64 H, .int .i64 W, t2, r2, d2] 36)).cell? ⟨w.heap.size, 1, none⟩ = some (.int .i64 H) ∧ ((w.alloc (.cells #[.int .i64 W, .int .i64 H, t, r, d] 36)).alloc (.cells #[.int .i64 H, .int .i64 W, t2, r2, d2] 36)).cell? ⟨w.heap.size, 2, none⟩ = some (t) ∧ ((w.alloc (.cells #[.int .i64 W, .int .i64 H, t, r, d] 36)).alloc (.cells #[.int .i64 H, .int .i64 W, t2, r2, d2] 36)).cell? ⟨w.heap.size, 3, none⟩ = some (r) ∧ ((w.alloc (.cells #[.int .i64 W, .int .i64 H, t, r, d] 36)).alloc (.cells #[.int .i64 H, .int .i64 W, t2, r2, d2] 36)).cell? ⟨w.heap.size, 4, none⟩ = some (d) ∧ ((w.alloc (.cells #[.int .i64 W, .int .i64 H, t, r, d] 36)).alloc (.cells #[.int .i64 H, .int .i64 W, t2, r2, d2] 36)).cell? ⟨w.heap.size + 1, 0, none⟩ = some (.int .i64 H) ∧ ((w.alloc (.cells #[.int .i64 W, .int .i64 H, t, r, d] 36)).alloc (.cells #[.int .i64 H, .int .i64 W, t2, r2, d2] 36)).cell? ⟨w.heap.size + 1, 1, none⟩ = some (.int .i64 W) ∧ ((w.alloc (.cells #[.int .i64 W, .int .i64 H, t, r, d] 36)).alloc (.cells #[.int .i64 H, .int .i64 W, t2, r2, d2] 36)).cell? ⟨w.heap.size + 1, 2, none⟩ = some (t2) ∧ ((w.alloc (.cells #[.int .i64 W, .int .i64 H, t, r, d] 36)).alloc (.cells #[.int .i64 H, .int .i64 W, t2, r2, d2] 36)).cell? ⟨w.heap.size + 1, 3, none⟩ = some (r2) ∧ ((w.alloc (.cells #[.int .i64 W, .int .i64 H, t, r, d] 36)).alloc (.cells #[.int .i64 H, .int .i64 W, t2, r2, d2] 36)).cell? ⟨w.heap.size + 1, 4, none⟩ = some (d2) ∧ Kp w ((w.alloc (.cells #[.int .i64 W, .int .i64 H, t, r, d] 36)).alloc (.cells #[.int .i64 H, .int .i64 W, t2, r2, d2] 36)) := ⟨by simp [go_sem], by simp [go_sem], by simp [go_sem], by simp [go_sem], by simp [go_sem], by simp [go_sem], by simp [go_sem], by simp [go_sem], by simp [go_sem], by simp [go_sem], KA⟩
  have hA := area_bd a b c e
  have hall : ∀ x ∈ l, edgeB W H x = true := by
    rw [edgesOk_eq, Bool.and_eq_true, List.all_eq_true] at hok
    exact hok.1
  have HE : Hid (∀ (q : Nat) (x : Int), l[q]? = some x → ∃ z : Nat, x = z ∧ (0 ≤ (z : Int) / 3 ∧ (z : Int) / 3 < W * H) ∧ (z : Int) ≤ 1000 ∧ nbB H W (mirI W H ((z : Int) / 3)) (5 - (z : Int) % 3) = true) := Lib.hid fun q x hx => by
    have hx1 := hall x (List.mem_of_getElem? hx)
    obtain ⟨h0, _, _, _, h4⟩ := edge_parts a b hx1
    have h5 := inB_true (edgeB_true hx1)
    refine ⟨x.toNat, by omega, ?_, by omega, ?_⟩
    · have : ((x.toNat : Nat) : Int) = x := by omega
      rw [this]
      omega
    · have : ((x.toNat : Nat) : Int) = x := by omega
      rw [this]
      exact h4
  obtain ⟨n, hn⟩ : ∃ n, l.length = n := ⟨_, rfl⟩
  have HN := Lib.hid hn
  rw [hn] at hcv hl ⊢
  have HV := Lib.hid hcv
  clear hok hall hcv hn KA
  go_enter Tryz.func36, Tryz.ntmps36
  go_wp2_with fail
  have ez : ((w.alloc (.cells #[.int .i64 W, .int .i64 H, t, r, d] 36)).alloc (.cells #[.int .i64 H, .int .i64 W, t2, r2, d2] 36)).heap.size = w.heap.size + 2 := by simp
  clear ez
  go_loopw [7, 9, 12] (fun v _ sq wx => ∃ q : Nat, q ≤ n ∧ sq = .int .i64 q ∧ OwnI wx (w.heap.size + 2) v (((l.take q).map (mirE W H)).foldl putI []) ∧ wx.cell? ⟨w.heap.size, 0, none⟩ = some (.int .i64 W) ∧ wx.cell? ⟨w.heap.size, 1, none⟩ = some (.int .i64 H) ∧ wx.cell? ⟨w.heap.size, 2, none⟩ = some (t) ∧ wx.cell? ⟨w.heap.size, 3, none⟩ = some (r) ∧ wx.cell? ⟨w.heap.size, 4, none⟩ = some (d) ∧ wx.cell? ⟨w.heap.size + 1, 0, none⟩ = some (.int .i64 H) ∧ wx.cell? ⟨w.heap.size + 1, 1, none⟩ = some (.int .i64 W) ∧ wx.cell? ⟨w.heap.size + 1, 2, none⟩ = some (t2) ∧ wx.cell? ⟨w.heap.size + 1, 3, none⟩ = some (r2) ∧ wx.cell? ⟨w.heap.size + 1, 4, none⟩ = some (d2) ∧ Kp w wx) (fun _ _ sq _ => n - (intOf sq).toNat)
  case atStart => exact ⟨0, by omega, rfl, by simpa using OwnI.nil _ _, s0⟩
  case round =>
    clear s0
    obtain ⟨q, hq, rfl, hoR, sr⟩ := hrel
    by_cases hlt : q < n
    · have hlt' : (q : Int) < n := by omega
      obtain ⟨g, off, rfl, hc⟩ := HV.out (by omega)
      obtain ⟨x, hx⟩ : ∃ x, l[q]? = some x := ⟨l[q]'(by have := HN.out; omega), List.getElem?_eq_getElem _⟩
      have kr : Kp w wr := sr.2.2.2.2.2.2.2.2.2.2
      have a0 := kr.cell (hc q x hx)
      obtain ⟨z, rfl, hz3, hzk, hnb⟩ := HE.out q x hx
      have HO := Lib.hid hoR
      have hln : Hid ((((l.take q).map (mirE W H)).foldl putI []).length ≤ 1048576) := Lib.hid (by
        have := fold_le ((l.take q).map (mirE W H)) []
        rw [List.length_map, List.length_take] at this
        simp only [List.length_nil] at this
        omega)
      have s1 : wr.drew.cell? ⟨w.heap.size, 0, none⟩ = some (.int .i64 W) ∧ wr.drew.cell? ⟨w.heap.size, 1, none⟩ = some (.int .i64 H) ∧ wr.drew.cell? ⟨w.heap.size, 2, none⟩ = some (t) ∧ wr.drew.cell? ⟨w.heap.size, 3, none⟩ = some (r) ∧ wr.drew.cell? ⟨w.heap.size, 4, none⟩ = some (d) ∧ wr.drew.cell? ⟨w.heap.size + 1, 0, none⟩ = some (.int .i64 H) ∧ wr.drew.cell? ⟨w.heap.size + 1, 1, none⟩ = some (.int .i64 W) ∧ wr.drew.cell? ⟨w.heap.size + 1, 2, none⟩ = some (t2) ∧ wr.drew.cell? ⟨w.heap.size + 1, 3, none⟩ = some (r2) ∧ wr.drew.cell? ⟨w.heap.size + 1, 4, none⟩ = some (d2) ∧ Kp w wr.drew := ⟨sr.1, sr.2.1, sr.2.2.1, sr.2.2.2.1, sr.2.2.2.2.1, sr.2.2.2.2.2.1, sr.2.2.2.2.2.2.1, sr.2.2.2.2.2.2.2.1, sr.2.2.2.2.2.2.2.2.1, sr.2.2.2.2.2.2.2.2.2.1, sr.2.2.2.2.2.2.2.2.2.2.drew⟩
      have hm0 : mirE W H (z : Int) = edgI H (mirI W H ((z : Int) / 3)) (5 - (z : Int) % 3) := rfl
      obtain ⟨me, hme⟩ : ∃ y, y = mirI W H ((z : Int) / 3) := ⟨_, rfl⟩
      rw [← hme] at hnb hm0
      have C1 : Hid (∀ w, Calls Tryz.prog 35 #[mp W H t r d, .int .i64 ((z : Int) / 3)] w fun e w' => e = .returned (.int .i64 me) ∧ Kp w w') := Lib.hid fun w => by
        rw [hme]
        exact mMirrorIndex_any W H t r d _ w a b c e hz3.1 hz3.2
      obtain ⟨E, hE⟩ : ∃ y, y = mirE W H (z : Int) := ⟨_, rfl⟩
      have HS : Hid (((l.take (q + 1)).map (mirE W H)).foldl putI [] = putI (((l.take q).map (mirE W H)).foldl putI []) E) := Lib.hid (by rw [hE]; exact fold_more (mirE W H) hx)
      have C2 : Hid (∀ w, Calls Tryz.prog 66 #[mp H W t2 r2 d2, .int .i64 me, .int .i64 (5 - (z : Int) % 3)] w fun e w' => e = .returned (.int .i64 E) ∧ Kp w w') := Lib.hid fun w => by
        have := mEdge_any H W t2 r2 d2 me (5 - (z : Int) % 3) w c e a b hnb
        rw [← hm0, ← hE] at this
        exact this
      obtain ⟨NL, hNL⟩ : ∃ y, y = ((l.take q).map (mirE W H)).foldl putI [] := ⟨_, rfl⟩
      rw [← hNL] at HS HO hln
      have hz30 : 0 ≤ (z : Int) % 3 := by omega
      have hz32 : (z : Int) % 3 ≤ 2 := by omega
      have hwr : IntKind.i64.wrap (5 - (z : Int) % 3) = 5 - (z : Int) % 3 := by simp [IntKind.wrap, IntKind.bits, IntKind.signed]; omega
      have hwq : IntKind.i64.wrap ((z : Int) / 3) = (z : Int) / 3 := by simp [IntKind.wrap, IntKind.bits, IntKind.signed]; omega
      have htm : (z : Int).tmod 3 = (z : Int) % 3 := Int.tmod_eq_emod_of_nonneg (by omega)
      clear hc hx hoR hme hnb hm0 hE hNL
      go_wp2_with fail
      refine wp_region_held_drew (S := (fun w' => w'.cell? ⟨w.heap.size, 0, none⟩ = some (.int .i64 W) ∧ w'.cell? ⟨w.heap.size, 1, none⟩ = some (.int .i64 H) ∧ w'.cell? ⟨w.heap.size, 2, none⟩ = some (t) ∧ w'.cell? ⟨w.heap.size, 3, none⟩ = some (r) ∧ w'.cell? ⟨w.heap.size, 4, none⟩ = some (d) ∧ w'.cell? ⟨w.heap.size + 1, 0, none⟩ = some (.int .i64 H) ∧ w'.cell? ⟨w.heap.size + 1, 1, none⟩ = some (.int .i64 W) ∧ w'.cell? ⟨w.heap.size + 1, 2, none⟩ = some (t2) ∧ w'.cell? ⟨w.heap.size + 1, 3, none⟩ = some (r2) ∧ w'.cell? ⟨w.heap.size + 1, 4, none⟩ = some (d2) ∧ Kp w w')) (by kernel_rfl) ?_ (fun hHeld => ?_)
      · exact s1
      refine wpAnyH_take (i := 0) (oi := ⟨some 16, _, _, _, _, _⟩) (v := ?_) rfl (by kernel_rfl) (by kernel_rfl) (by kernel_rfl) (fun _ _ _ h => h) (Or.inl ⟨by rfl, ?_⟩) (by assumption) ?_
      rotate_left
      · intro w hSw; (try dsimp only at hSw); go_simp; (all_goals with_reducible rfl)
      simp only [Act.put, List.setIfInBounds_toArray, List.set_cons_zero, List.set_cons_succ]
      refine wpAnyH_take (i := 1) (oi := ⟨some 17, _, _, _, _, _⟩) (v := ?_) rfl (by kernel_rfl) (by kernel_rfl) (by kernel_rfl) (fun _ _ _ h => h) (Or.inl ⟨by rfl, ?_⟩) (by assumption) ?_
      rotate_left
      · intro w hSw; (try dsimp only at hSw); go_simp; (all_goals with_reducible rfl)
      simp only [Act.put, List.setIfInBounds_toArray, List.set_cons_zero, List.set_cons_succ]
      refine wpAnyH_take (i := 2) (oi := ⟨some 18, _, _, _, _, _⟩) (v := ?_) rfl (by kernel_rfl) (by kernel_rfl) (by kernel_rfl) (fun _ _ _ h => h) (Or.inl ⟨by rfl, ?_⟩) (by assumption) ?_
      rotate_left
      · intro w hSw; (try dsimp only at hSw); go_simp; (all_goals with_reducible rfl)
      simp only [Act.put, List.setIfInBounds_toArray, List.set_cons_zero, List.set_cons_succ]
      refine wpAnyH_take (i := 3) (oi := ⟨some 19, _, _, _, _, _⟩) (v := ?_) rfl (by kernel_rfl) (by kernel_rfl) (by kernel_rfl) (fun _ _ _ h => h) (Or.inl ⟨by rfl, ?_⟩) (by assumption) ?_
      rotate_left
      · intro w hSw; (try dsimp only at hSw); go_simp; (all_goals with_reducible rfl)
      simp only [Act.put, List.setIfInBounds_toArray, List.set_cons_zero, List.set_cons_succ]
      refine wpAnyH_take (i := 4) (oi := ⟨some 20, _, _, _, _, _⟩) (v := ?_) rfl (by kernel_rfl) (by kernel_rfl) (by kernel_rfl) (fun _ _ _ h => h) (Or.inl ⟨by rfl, ?_⟩) (by assumption) ?_
      rotate_left
      · intro w hSw; (try dsimp only at hSw); go_simp; (all_goals with_reducible rfl)
      simp only [Act.put, List.setIfInBounds_toArray, List.set_cons_zero, List.set_cons_succ]
      refine wpAnyH_take (i := 6) (oi := ⟨some 22, _, _, _, _, _⟩) (v := ?_) rfl (by kernel_rfl) (by kernel_rfl) (by kernel_rfl) (fun _ _ _ h => h) (Or.inl ⟨by rfl, ?_⟩) (by assumption) ?_
      rotate_left
      · intro w hSw; (try dsimp only at hSw); go_simp; (all_goals with_reducible rfl)
      simp only [Act.put, List.setIfInBounds_toArray, List.set_cons_zero, List.set_cons_succ]
      refine wpAnyH_take (i := 7) (oi := ⟨some 23, _, _, _, _, _⟩) (v := ?_) rfl (by kernel_rfl) (by kernel_rfl) (by kernel_rfl) (fun _ _ _ h => h) (Or.inl ⟨by rfl, ?_⟩) (by assumption) ?_
      rotate_left
      · intro w hSw; (try dsimp only at hSw); go_simp; (all_goals with_reducible rfl)
      simp only [Act.put, List.setIfInBounds_toArray, List.set_cons_zero, List.set_cons_succ]
      refine wpAnyH_take (i := 8) (oi := ⟨some 24, _, _, _, _, _⟩) (v := ?_) rfl (by kernel_rfl) (by kernel_rfl) (by kernel_rfl) (fun _ _ _ h => h) (Or.inl ⟨by rfl, ?_⟩) (by assumption) ?_
      rotate_left
      · intro w hSw; (try dsimp only at hSw); go_simp; (all_goals with_reducible rfl)
      simp only [Act.put, List.setIfInBounds_toArray, List.set_cons_zero, List.set_cons_succ]
      refine wpAnyH_ready (rs := [5]) (by kernel_rfl) (by simp) ?_
      refine AllReadyH.cons (o := ⟨some 21, _, _, _, _, _⟩) rfl (fun K hK => ?_) AllReadyH.nil
      go_simp
      refine (C1.out _).mono ?_; rintro e1 w1 ⟨rfl, k1⟩; have s1b : w1.cell? ⟨w.heap.size, 0, none⟩ = some (.int .i64 W) ∧ w1.cell? ⟨w.heap.size, 1, none⟩ = some (.int .i64 H) ∧ w1.cell? ⟨w.heap.size, 2, none⟩ = some (t) ∧ w1.cell? ⟨w.heap.size, 3, none⟩ = some (r) ∧ w1.cell? ⟨w.heap.size, 4, none⟩ = some (d) ∧ w1.cell? ⟨w.heap.size + 1, 0, none⟩ = some (.int .i64 H) ∧ w1.cell? ⟨w.heap.size + 1, 1, none⟩ = some (.int .i64 W) ∧ w1.cell? ⟨w.heap.size + 1, 2, none⟩ = some (t2) ∧ w1.cell? ⟨w.heap.size + 1, 3, none⟩ = some (r2) ∧ w1.cell? ⟨w.heap.size + 1, 4, none⟩ = some (d2) ∧ Kp w w1 := ⟨k1.cell s1.1, k1.cell s1.2.1, k1.cell s1.2.2.1, k1.cell s1.2.2.2.1, k1.cell s1.2.2.2.2.1, k1.cell s1.2.2.2.2.2.1, k1.cell s1.2.2.2.2.2.2.1, k1.cell s1.2.2.2.2.2.2.2.1, k1.cell s1.2.2.2.2.2.2.2.2.1, k1.cell s1.2.2.2.2.2.2.2.2.2.1, s1.2.2.2.2.2.2.2.2.2.2.trans k1⟩; have k01 := Lib.hid ((Kp.refl wr).drew.trans k1)
      go_wp2_with fail
      refine hK.out _ _ ?_ (fun hHeld => ?_)
      · (try dsimp only); (first | assumption | exact s3 | exact s2 | exact s1b | exact s1)
      clear hK K
      try simp only [Act.put, List.setIfInBounds_toArray, List.set_cons_zero, List.set_cons_succ]
      refine wpAnyH_ready (rs := [9]) (by kernel_rfl) (by simp) ?_
      refine AllReadyH.cons (o := ⟨some 25, _, _, _, _, _⟩) rfl (fun K hK => ?_) AllReadyH.nil
      go_simp
      refine (C2.out _).mono ?_; rintro e2 w2 ⟨rfl, k2⟩; have s2 : w2.cell? ⟨w.heap.size, 0, none⟩ = some (.int .i64 W) ∧ w2.cell? ⟨w.heap.size, 1, none⟩ = some (.int .i64 H) ∧ w2.cell? ⟨w.heap.size, 2, none⟩ = some (t) ∧ w2.cell? ⟨w.heap.size, 3, none⟩ = some (r) ∧ w2.cell? ⟨w.heap.size, 4, none⟩ = some (d) ∧ w2.cell? ⟨w.heap.size + 1, 0, none⟩ = some (.int .i64 H) ∧ w2.cell? ⟨w.heap.size + 1, 1, none⟩ = some (.int .i64 W) ∧ w2.cell? ⟨w.heap.size + 1, 2, none⟩ = some (t2) ∧ w2.cell? ⟨w.heap.size + 1, 3, none⟩ = some (r2) ∧ w2.cell? ⟨w.heap.size + 1, 4, none⟩ = some (d2) ∧ Kp w w2 := ⟨k2.cell s1b.1, k2.cell s1b.2.1, k2.cell s1b.2.2.1, k2.cell s1b.2.2.2.1, k2.cell s1b.2.2.2.2.1, k2.cell s1b.2.2.2.2.2.1, k2.cell s1b.2.2.2.2.2.2.1, k2.cell s1b.2.2.2.2.2.2.2.1, k2.cell s1b.2.2.2.2.2.2.2.2.1, k2.cell s1b.2.2.2.2.2.2.2.2.2.1, s1b.2.2.2.2.2.2.2.2.2.2.trans k2⟩; have k02 := Lib.hid (k01.out.trans k2)
      go_wp2_with fail
      refine hK.out _ _ ?_ (fun hHeld => ?_)
      · (try dsimp only); (first | assumption | exact s3 | exact s2 | exact s1b | exact s1)
      clear hK K
      try simp only [Act.put, List.setIfInBounds_toArray, List.set_cons_zero, List.set_cons_succ]
      refine wpAnyH_ready (rs := [10]) (by kernel_rfl) (by simp) ?_
      refine AllReadyH.cons (o := ⟨some 26, _, _, _, _, _⟩) rfl (fun K hK => ?_) AllReadyH.nil
      go_simp
      refine (l1Put_any _ NL E (w.heap.size + 2) _ (HO.out.keep k02.out) (by have := cell_lt s2.2.2.2.2.2.1; omega) hln.out).mono ?_; rintro e3 w3 ⟨v3, rfl, o3, k3⟩; have O3 := Lib.hid o3; have s3 : w3.cell? ⟨w.heap.size, 0, none⟩ = some (.int .i64 W) ∧ w3.cell? ⟨w.heap.size, 1, none⟩ = some (.int .i64 H) ∧ w3.cell? ⟨w.heap.size, 2, none⟩ = some (t) ∧ w3.cell? ⟨w.heap.size, 3, none⟩ = some (r) ∧ w3.cell? ⟨w.heap.size, 4, none⟩ = some (d) ∧ w3.cell? ⟨w.heap.size + 1, 0, none⟩ = some (.int .i64 H) ∧ w3.cell? ⟨w.heap.size + 1, 1, none⟩ = some (.int .i64 W) ∧ w3.cell? ⟨w.heap.size + 1, 2, none⟩ = some (t2) ∧ w3.cell? ⟨w.heap.size + 1, 3, none⟩ = some (r2) ∧ w3.cell? ⟨w.heap.size + 1, 4, none⟩ = some (d2) ∧ Kp w w3 := ⟨k3.cell s2.1, k3.cell s2.2.1, k3.cell s2.2.2.1, k3.cell s2.2.2.2.1, k3.cell s2.2.2.2.2.1, k3.cell s2.2.2.2.2.2.1, k3.cell s2.2.2.2.2.2.2.1, k3.cell s2.2.2.2.2.2.2.2.1, k3.cell s2.2.2.2.2.2.2.2.2.1, k3.cell s2.2.2.2.2.2.2.2.2.2.1, s2.2.2.2.2.2.2.2.2.2.2.trans k3⟩
      go_wp2_with fail
      refine hK.out _ _ ?_ (fun hHeld => ?_)
      · (try dsimp only); (first | assumption | exact s3 | exact s2 | exact s1b | exact s1)
      clear hK K
      try simp only [Act.put, List.setIfInBounds_toArray, List.set_cons_zero, List.set_cons_succ]
      refine wpAnyH_take (i := 11) (oi := ⟨some 7, _, _, _, _, _⟩) (v := ?_) rfl (by kernel_rfl) (by kernel_rfl) (by kernel_rfl) (fun _ _ _ h => h) (Or.inl ⟨by rfl, ?_⟩) (by assumption) ?_
      rotate_left
      · intro w hSw; (try dsimp only at hSw); go_simp; (all_goals with_reducible rfl)
      simp only [Act.put, List.setIfInBounds_toArray, List.set_cons_zero, List.set_cons_succ]
      refine wpAnyH_done (by kernel_rfl) ?_ _
      clear s1 s1b s2 k01 k02 sr kr HO
      go_wp2_with fail
      go_roundw
      case rel => exact ⟨q + 1, by omega, by go_num, by rw [HS.out]; exact O3.out, s3⟩
      case measure => simp [intOf]; omega
    · obtain rfl : q = n := by omega
      have et : l.take q = l := List.take_of_length_le (by have := HN.out; omega)
      rw [et] at hoR
      have HO := Lib.hid hoR
      have K3 : Kp w wr := sr.2.2.2.2.2.2.2.2.2.2
      clear hoR
      go_wp2_with fail
      go_ret
      exact ⟨_, rfl, HO.out, K3⟩

end Go.Proofs.YtmolpkjdjkhnpaaGreatDoor

/-
  The reference's mirrored map: three lists in memory of their own. Nothing that was there is changed.
-/
namespace Go.Proofs.YtmolpkjdjkhnpaaGreatDoor
open Go.RowKit

/-- The terrain of the mirrored map, when 'q' hexes have been written. -/
def mirT (W H : Int) (lt : List Int) (n : Nat) : Nat → List Int
  | 0 => List.replicate n 0
  | q + 1 => (mirT W H lt n q).set (mirI W H q).toNat (lt[q]?.getD 0)
theorem mirT_length (W H : Int) (lt : List Int) (n : Nat) : ∀ q, (mirT W H lt n q).length = n
  | 0 => by simp [mirT]
  | q + 1 => by simp [mirT, mirT_length W H lt n q]
end Go.Proofs.YtmolpkjdjkhnpaaGreatDoor

/-
  The mirrored map of the reference: three lists in memory of their own. Nothing that was there is changed.
-/
namespace Go.Proofs.YtmolpkjdjkhnpaaGreatDoor
open Go.RowKit

set_option maxRecDepth 100000 in
set_option maxHeartbeats 4000000 in
theorem mMirror_any (W H : Int) (t r d : Value) (lt lr ld : List Int) (w : World) (a : 1 ≤ W) (b : W ≤ 10) (c : 1 ≤ H) (e : H ≤ 10) (hL : Lists w t r d lt lr ld) (hn : (lt.length : Int) = W * H) (hr : edgesOk W H lr = true) (hd : edgesOk W H ld = true) :
    Calls Tryz.prog 15 #[mp W H t r d] w (ToMapPost H W (mirT W H lt lt.length lt.length) ((lr.map (mirE W H)).mergeSort fun x y => decide (x ≤ y)) ((ld.map (mirE W H)).mergeSort fun x y => decide (x ≤ y)) w) := by
  have hA := area_bd a b c e
  obtain ⟨At, ct, rfl, hct⟩ := hL.rt
  obtain ⟨Ar, cr, rfl, _⟩ := hL.rr
  obtain ⟨Ad, cd, rfl, _⟩ := hL.rd
  obtain ⟨n, hnt⟩ : ∃ n, lt.length = n := ⟨_, rfl⟩
  obtain ⟨nr, hnr⟩ : ∃ n, lr.length = n := ⟨_, rfl⟩
  obtain ⟨nd, hnd⟩ : ∃ n, ld.length = n := ⟨_, rfl⟩
  rw [hnt, hnr, hnd] at hL
  rw [hnt] at hct
  rw [hnr, hnd]
  have HCT := Lib.hid hct
  have HR := Lib.hid hr
  have HD := Lib.hid hd
  clear hct hnr hnd
  have hn0 : n ≤ 100 := by omega
  have HN : Hid ((n : Int) = W * H) := Lib.hid (by rw [← hn, hnt])
  have HNt := Lib.hid hnt
  rw [hnt]
  have CS : Hid (∀ w, Calls Tryz.prog 34 #[mp W H (.slice At n ct) (.slice Ar nr cr) (.slice Ad nd cd)] w fun e w' => e = .returned (.int .i64 (n : Int)) ∧ Kp w w') := Lib.hid fun w => by
    rw [HN.out]
    exact mSize_any W H _ _ _ w a b c e
  have HL := Lib.hid hL
  have HA := Lib.hid hA
  obtain ⟨x, hx⟩ : ∃ x, x = mirT W H lt n n := ⟨_, rfl⟩
  obtain ⟨y, hy⟩ : ∃ y, y = ((lr.map (mirE W H)).mergeSort fun x y => decide (x ≤ y)) := ⟨_, rfl⟩
  obtain ⟨z, hz⟩ : ∃ z, z = ((ld.map (mirE W H)).mergeSort fun x y => decide (x ≤ y)) := ⟨_, rfl⟩
  rw [← hx, ← hy, ← hz]
  have HX := Lib.hid hx
  have HY := Lib.hid hy
  have HZ := Lib.hid hz
  have hmk := fun w => mkInts n (by omega) w
  clear hL hn hnt hA hx hy hz hr hd
  go_enter Tryz.func15, Tryz.ntmps15
  go_upto_region 1 with fail
  go_cut [3] from 6 to 13 (fun s3 wx => ∃ g tb : Nat, s3 = .pointer (some ⟨g, 0, none⟩) ∧ g ≠ tb ∧ w.heap.size + 2 ≤ g ∧ Live5 wx g (.int .i64 H) (.int .i64 W) (.slice (some ⟨tb, 0, none⟩) n n) (.slice none 0 0) (.slice none 0 0) ∧ OwnI wx (w.heap.size + 2) (.slice (some ⟨tb, 0, none⟩) n n) (List.replicate n 0) ∧ Live5 wx (w.heap.size + 1) (.int .i64 0) (.int .i64 0) (.slice none 0 0) (.slice none 0 0) (.slice none 0 0) ∧ (wx.cell? ⟨w.heap.size, 0, none⟩ = some (.int .i64 W) ∧ wx.cell? ⟨w.heap.size, 1, none⟩ = some (.int .i64 H) ∧ wx.cell? ⟨w.heap.size, 2, none⟩ = some (.slice At n ct) ∧ wx.cell? ⟨w.heap.size, 3, none⟩ = some (.slice Ar nr cr) ∧ wx.cell? ⟨w.heap.size, 4, none⟩ = some (.slice Ad nd cd)) ∧ Kp w wx)
  case first =>
    refine wp_region_held_drew (S := (fun w' => w'.cell? ⟨w.heap.size, 0, none⟩ = some (.int .i64 W) ∧ w'.cell? ⟨w.heap.size, 1, none⟩ = some (.int .i64 H) ∧ w'.cell? ⟨w.heap.size, 2, none⟩ = some (.slice At n ct) ∧ w'.cell? ⟨w.heap.size, 3, none⟩ = some (.slice Ar nr cr) ∧ w'.cell? ⟨w.heap.size, 4, none⟩ = some (.slice Ad nd cd))) (by kernel_rfl) ?_ (fun hHeld => ?_)
    · simp [go_sem]
    refine wpAnyH_take (i := 0) (oi := ⟨some 6, _, _, _, _, _⟩) (v := ?_) rfl (by kernel_rfl) (by kernel_rfl) (by kernel_rfl) (fun _ _ _ h => h) (Or.inl ⟨by rfl, ?_⟩) (by assumption) ?_
    rotate_left
    · intro w hSw; (try dsimp only at hSw); go_simp; (all_goals with_reducible rfl)
    simp only [Act.put, List.setIfInBounds_toArray, List.set_cons_zero, List.set_cons_succ]
    refine wpAnyH_take (i := 1) (oi := ⟨some 7, _, _, _, _, _⟩) (v := ?_) rfl (by kernel_rfl) (by kernel_rfl) (by kernel_rfl) (fun _ _ _ h => h) (Or.inl ⟨by rfl, ?_⟩) (by assumption) ?_
    rotate_left
    · intro w hSw; (try dsimp only at hSw); go_simp; (all_goals with_reducible rfl)
    simp only [Act.put, List.setIfInBounds_toArray, List.set_cons_zero, List.set_cons_succ]
    refine wpAnyH_take (i := 2) (oi := ⟨some 8, _, _, _, _, _⟩) (v := ?_) rfl (by kernel_rfl) (by kernel_rfl) (by kernel_rfl) (fun _ _ _ h => h) (Or.inl ⟨by rfl, ?_⟩) (by assumption) ?_
    rotate_left
    · intro w hSw; (try dsimp only at hSw); go_simp; (all_goals with_reducible rfl)
    simp only [Act.put, List.setIfInBounds_toArray, List.set_cons_zero, List.set_cons_succ]
    refine wpAnyH_take (i := 3) (oi := ⟨some 9, _, _, _, _, _⟩) (v := ?_) rfl (by kernel_rfl) (by kernel_rfl) (by kernel_rfl) (fun _ _ _ h => h) (Or.inl ⟨by rfl, ?_⟩) (by assumption) ?_
    rotate_left
    · intro w hSw; (try dsimp only at hSw); go_simp; (all_goals with_reducible rfl)
    simp only [Act.put, List.setIfInBounds_toArray, List.set_cons_zero, List.set_cons_succ]
    refine wpAnyH_take (i := 4) (oi := ⟨some 10, _, _, _, _, _⟩) (v := ?_) rfl (by kernel_rfl) (by kernel_rfl) (by kernel_rfl) (fun _ _ _ h => h) (Or.inl ⟨by rfl, ?_⟩) (by assumption) ?_
    rotate_left
    · intro w hSw; (try dsimp only at hSw); go_simp; (all_goals with_reducible rfl)
    simp only [Act.put, List.setIfInBounds_toArray, List.set_cons_zero, List.set_cons_succ]
    refine wpAnyH_ready (rs := [5, 8]) (by kernel_rfl) (by simp) ?_
    refine (AllReadyH.cons (o := ⟨some 11, _, _, _, _, _⟩) rfl (fun K hK => ?_) (AllReadyH.cons (o := ⟨some 3, _, _, _, _, _⟩) rfl (fun K hK => ?_) AllReadyH.nil))
    · go_simp
      refine (CS.out _).mono ?_
      rintro e1 w1 ⟨rfl, k1⟩
      have z1 := k1.size
      (try simp at z1)
      have m1 : w1.cell? ⟨w.heap.size, 0, none⟩ = some (.int .i64 W) ∧ w1.cell? ⟨w.heap.size, 1, none⟩ = some (.int .i64 H) ∧ w1.cell? ⟨w.heap.size, 2, none⟩ = some (.slice At n ct) ∧ w1.cell? ⟨w.heap.size, 3, none⟩ = some (.slice Ar nr cr) ∧ w1.cell? ⟨w.heap.size, 4, none⟩ = some (.slice Ad nd cd) := ⟨k1.cell (by simp [go_sem]), k1.cell (by simp [go_sem]), k1.cell (by simp [go_sem]), k1.cell (by simp [go_sem]), k1.cell (by simp [go_sem])⟩
      have Lr : Live5 w1 (w.heap.size + 1) (.int .i64 0) (.int .i64 0) (.slice none 0 0) (.slice none 0 0) (.slice none 0 0) := live5_keep k1 ⟨by simp [go_sem], by simp [go_sem], by simp [go_sem], by simp [go_sem], by simp [go_sem]⟩
      have nb3 : w.heap.size < w1.heap.size := by omega
      have nb4 : w.heap.size + 1 < w1.heap.size := by omega
      go_wp2_with fail
      refine hK.out _ _ (by simp [go_sem, *]) (fun hHeld => ?_)
      clear hK K
      try simp only [Act.put, List.setIfInBounds_toArray, List.set_cons_zero, List.set_cons_succ]
      refine wpAnyH_ready (rs := [6, 8]) (by kernel_rfl) (by simp) ?_
      refine (AllReadyH.cons (o := ⟨some 12, _, _, _, _, _⟩) rfl (fun K hK => ?_) (AllReadyH.cons (o := ⟨some 3, _, _, _, _, _⟩) rfl (fun K hK => ?_) AllReadyH.nil))
      · go_simp
        go_wp2_with fail
        refine hK.out _ _ (by simp [go_sem, *]) (fun hHeld => ?_)
        clear hK K
        try simp only [Act.put, List.setIfInBounds_toArray, List.set_cons_zero, List.set_cons_succ]
        refine wpAnyH_take (i := 7) (oi := ⟨some 13, _, _, _, _, _⟩) (v := ?_) rfl (by kernel_rfl) (by kernel_rfl) (by kernel_rfl) (fun _ _ _ h => h) (Or.inl ⟨by rfl, ?_⟩) (by assumption) ?_
        rotate_left
        · intro w hSw; (try dsimp only at hSw); go_simp; (all_goals with_reducible rfl)
        simp only [Act.put, List.setIfInBounds_toArray, List.set_cons_zero, List.set_cons_succ]
        refine wpAnyH_ready (rs := [8]) (by kernel_rfl) (by simp) ?_
        refine (AllReadyH.cons (o := ⟨some 3, _, _, _, _, _⟩) rfl (fun K hK => ?_) AllReadyH.nil)
        · go_simp
          go_wp2_with fail
          refine hK.out _ _ (by simp [go_sem, *]) (fun hHeld => ?_)
          clear hK K
          try simp only [Act.put, List.setIfInBounds_toArray, List.set_cons_zero, List.set_cons_succ]
          refine wpAnyH_ready (rs := [9]) (by kernel_rfl) (by simp) ?_
          refine AllReadyH.cons (o := ⟨none, _, _, _, _, _⟩) rfl (fun K hK => ?_) AllReadyH.nil
          go_simp
          go_wp2_with fail
          refine hK.out _ _ (by simp [go_sem, *]) (fun hHeld => ?_)
          clear hK K
          try simp only [Act.put, List.setIfInBounds_toArray, List.set_cons_zero, List.set_cons_succ]
          refine wpAnyH_done (by kernel_rfl) ?_ _
          go_wp2_with fail
          go_meet
          have KD : Kp w _ := (((Kp.refl w).alloc _).alloc _).drew.trans k1
          refine ⟨w1.heap.size + 1, w1.heap.size, rfl, by omega, by omega, ⟨by simp [go_sem, *], by simp [go_sem, *], by simp [go_sem, *], by simp [go_sem, *], by simp [go_sem, *]⟩, ?_, ⟨by simp [go_sem, *], by simp [go_sem, *], by simp [go_sem, *], by simp [go_sem, *], by simp [go_sem, *]⟩, ⟨by simp [go_sem, *], by simp [go_sem, *], by simp [go_sem, *], by simp [go_sem, *], by simp [go_sem, *]⟩, ?_⟩
          · exact ((ownI_zero w1 n (by omega)).keep ((Kp.refl _).alloc _)).base (by omega)
          · exact (KD.alloc _).alloc _
      · go_simp
        go_wp2_with fail
        refine hK.out _ _ (by simp [go_sem, *]) (fun hHeld => ?_)
        clear hK K
        try simp only [Act.put, List.setIfInBounds_toArray, List.set_cons_zero, List.set_cons_succ]
        refine wpAnyH_ready (rs := [6]) (by kernel_rfl) (by simp) ?_
        refine (AllReadyH.cons (o := ⟨some 12, _, _, _, _, _⟩) rfl (fun K hK => ?_) AllReadyH.nil)
        · go_simp
          go_wp2_with fail
          refine hK.out _ _ (by simp [go_sem, *]) (fun hHeld => ?_)
          clear hK K
          try simp only [Act.put, List.setIfInBounds_toArray, List.set_cons_zero, List.set_cons_succ]
          refine wpAnyH_take (i := 7) (oi := ⟨some 13, _, _, _, _, _⟩) (v := ?_) rfl (by kernel_rfl) (by kernel_rfl) (by kernel_rfl) (fun _ _ _ h => h) (Or.inl ⟨by rfl, ?_⟩) (by assumption) ?_
          rotate_left
          · intro w hSw; (try dsimp only at hSw); go_simp; (all_goals with_reducible rfl)
          simp only [Act.put, List.setIfInBounds_toArray, List.set_cons_zero, List.set_cons_succ]
          refine wpAnyH_ready (rs := [9]) (by kernel_rfl) (by simp) ?_
          refine AllReadyH.cons (o := ⟨none, _, _, _, _, _⟩) rfl (fun K hK => ?_) AllReadyH.nil
          go_simp
          go_wp2_with fail
          refine hK.out _ _ (by simp [go_sem, *]) (fun hHeld => ?_)
          clear hK K
          try simp only [Act.put, List.setIfInBounds_toArray, List.set_cons_zero, List.set_cons_succ]
          refine wpAnyH_done (by kernel_rfl) ?_ _
          go_wp2_with fail
          go_meet
          have KD : Kp w _ := (((Kp.refl w).alloc _).alloc _).drew.trans k1
          refine ⟨w1.heap.size, w1.heap.size + 1, rfl, by omega, by omega, ⟨by simp [go_sem, *], by simp [go_sem, *], by simp [go_sem, *], by simp [go_sem, *], by simp [go_sem, *]⟩, ?_, ⟨by simp [go_sem, *], by simp [go_sem, *], by simp [go_sem, *], by simp [go_sem, *], by simp [go_sem, *]⟩, ⟨by simp [go_sem, *], by simp [go_sem, *], by simp [go_sem, *], by simp [go_sem, *], by simp [go_sem, *]⟩, ?_⟩
          · have o := ownI_zero (w1.alloc (.cells #[.int .i64 H, .int .i64 W, .slice (some ⟨w1.heap.size + 1, 0, none⟩) n n, .slice none 0 0, .slice none 0 0] 36)) n (by omega); simp only [World.size_alloc] at o; exact o.base (by omega)
          · exact (KD.alloc _).alloc _
    · go_simp
      go_wp2_with fail
      refine hK.out _ _ (by simp [go_sem, *]) (fun hHeld => ?_)
      clear hK K
      try simp only [Act.put, List.setIfInBounds_toArray, List.set_cons_zero, List.set_cons_succ]
      refine wpAnyH_ready (rs := [5]) (by kernel_rfl) (by simp) ?_
      refine (AllReadyH.cons (o := ⟨some 11, _, _, _, _, _⟩) rfl (fun K hK => ?_) AllReadyH.nil)
      · go_simp
        refine (CS.out _).mono ?_
        rintro e1 w1 ⟨rfl, k1⟩
        have z1 := k1.size
        (try simp at z1)
        have m1 : w1.cell? ⟨w.heap.size, 0, none⟩ = some (.int .i64 W) ∧ w1.cell? ⟨w.heap.size, 1, none⟩ = some (.int .i64 H) ∧ w1.cell? ⟨w.heap.size, 2, none⟩ = some (.slice At n ct) ∧ w1.cell? ⟨w.heap.size, 3, none⟩ = some (.slice Ar nr cr) ∧ w1.cell? ⟨w.heap.size, 4, none⟩ = some (.slice Ad nd cd) := ⟨k1.cell (by simp [go_sem]), k1.cell (by simp [go_sem]), k1.cell (by simp [go_sem]), k1.cell (by simp [go_sem]), k1.cell (by simp [go_sem])⟩
        have Lr : Live5 w1 (w.heap.size + 1) (.int .i64 0) (.int .i64 0) (.slice none 0 0) (.slice none 0 0) (.slice none 0 0) := live5_keep k1 ⟨by simp [go_sem], by simp [go_sem], by simp [go_sem], by simp [go_sem], by simp [go_sem]⟩
        have nb3 : w.heap.size < w1.heap.size := by omega
        have nb4 : w.heap.size + 1 < w1.heap.size := by omega
        have L1 : Live5 w1 (w.heap.size + 1 + 1) (.int .i64 0) (.int .i64 0) (.slice none 0 0) (.slice none 0 0) (.slice none 0 0) := live5_keep k1 ⟨by simp [go_sem], by simp [go_sem], by simp [go_sem], by simp [go_sem], by simp [go_sem]⟩
        have nb5 : w.heap.size + 1 + 1 < w1.heap.size := by omega
        go_wp2_with fail
        refine hK.out _ _ (by simp [go_sem, *]) (fun hHeld => ?_)
        clear hK K
        try simp only [Act.put, List.setIfInBounds_toArray, List.set_cons_zero, List.set_cons_succ]
        refine wpAnyH_ready (rs := [6]) (by kernel_rfl) (by simp) ?_
        refine (AllReadyH.cons (o := ⟨some 12, _, _, _, _, _⟩) rfl (fun K hK => ?_) AllReadyH.nil)
        · go_simp
          go_wp2_with fail
          refine hK.out _ _ (by simp [go_sem, *]) (fun hHeld => ?_)
          clear hK K
          try simp only [Act.put, List.setIfInBounds_toArray, List.set_cons_zero, List.set_cons_succ]
          refine wpAnyH_take (i := 7) (oi := ⟨some 13, _, _, _, _, _⟩) (v := ?_) rfl (by kernel_rfl) (by kernel_rfl) (by kernel_rfl) (fun _ _ _ h => h) (Or.inl ⟨by rfl, ?_⟩) (by assumption) ?_
          rotate_left
          · intro w hSw; (try dsimp only at hSw); go_simp; (all_goals with_reducible rfl)
          simp only [Act.put, List.setIfInBounds_toArray, List.set_cons_zero, List.set_cons_succ]
          refine wpAnyH_ready (rs := [9]) (by kernel_rfl) (by simp) ?_
          refine AllReadyH.cons (o := ⟨none, _, _, _, _, _⟩) rfl (fun K hK => ?_) AllReadyH.nil
          go_simp
          go_wp2_with fail
          refine hK.out _ _ (by simp [go_sem, *]) (fun hHeld => ?_)
          clear hK K
          try simp only [Act.put, List.setIfInBounds_toArray, List.set_cons_zero, List.set_cons_succ]
          refine wpAnyH_done (by kernel_rfl) ?_ _
          go_wp2_with fail
          go_meet
          have KD : Kp w _ := ((((Kp.refl w).alloc _).alloc _).alloc _).drew.trans k1
          refine ⟨w.heap.size + 1 + 1, w1.heap.size, rfl, by omega, by omega, ⟨by simp [go_sem, *], by simp [go_sem, *], by simp [go_sem, *], by simp [go_sem, *], by simp [go_sem, *]⟩, ?_, ⟨by simp [go_sem, *], by simp [go_sem, *], by simp [go_sem, *], by simp [go_sem, *], by simp [go_sem, *]⟩, ⟨by simp [go_sem, *], by simp [go_sem, *], by simp [go_sem, *], by simp [go_sem, *], by simp [go_sem, *]⟩, ?_⟩
          · have o := ownI_zero (((((w1.setCell ⟨w.heap.size + 1 + 1, 0, none⟩ (.int .i64 H)).setCell ⟨w.heap.size + 1 + 1, 1, none⟩ (.int .i64 W)).setCell ⟨w.heap.size + 1 + 1, 2, none⟩ (.slice (some ⟨w1.heap.size, 0, none⟩) n n)).setCell ⟨w.heap.size + 1 + 1, 3, none⟩ (.slice none 0 0)).setCell ⟨w.heap.size + 1 + 1, 4, none⟩ (.slice none 0 0)) n (by omega); simp only [World.size_setCell] at o; exact o.base (by omega)
          · exact (((((KD.setCell (show w.heap.size ≤ w.heap.size + 1 + 1 by omega) _).setCell (show w.heap.size ≤ w.heap.size + 1 + 1 by omega) _).setCell (show w.heap.size ≤ w.heap.size + 1 + 1 by omega) _).setCell (show w.heap.size ≤ w.heap.size + 1 + 1 by omega) _).setCell (show w.heap.size ≤ w.heap.size + 1 + 1 by omega) _).alloc _
  case rest =>
    obtain ⟨g, tb, rfl, hne, hg2, LG, OT, LR, sM, KM⟩ := hcut
    go_wp2_with fail
    go_loopw [4, 5, 17] (fun _ _ sq wx => ∃ q : Nat, q ≤ n ∧ sq = .int .i64 q ∧ Live5 wx g (.int .i64 H) (.int .i64 W) (.slice (some ⟨tb, 0, none⟩) n n) (.slice none 0 0) (.slice none 0 0) ∧ OwnI wx (w.heap.size + 2) (.slice (some ⟨tb, 0, none⟩) n n) (mirT W H lt n q) ∧ Live5 wx (w.heap.size + 1) (.int .i64 0) (.int .i64 0) (.slice none 0 0) (.slice none 0 0) (.slice none 0 0) ∧ (wx.cell? ⟨w.heap.size, 0, none⟩ = some (.int .i64 W) ∧ wx.cell? ⟨w.heap.size, 1, none⟩ = some (.int .i64 H) ∧ wx.cell? ⟨w.heap.size, 2, none⟩ = some (.slice At n ct) ∧ wx.cell? ⟨w.heap.size, 3, none⟩ = some (.slice Ar nr cr) ∧ wx.cell? ⟨w.heap.size, 4, none⟩ = some (.slice Ad nd cd)) ∧ Kp w wx) (fun _ _ sq _ => n - (intOf sq).toNat)
    case atStart => exact ⟨0, by omega, rfl, LG, OT, LR, sM, KM⟩
    case round =>
      clear LG OT LR sM KM
      obtain ⟨q, hq, rfl, lg, ot, lv, sm, km⟩ := hrel
      by_cases hlt : q < n
      · have hlt' : (q : Int) < n := by omega
        obtain ⟨b0, off, rfl, hc⟩ := HCT.out (by omega)
        obtain ⟨v, hv⟩ : ∃ v, lt[q]? = some v := ⟨lt[q]'(by have := HNt.out; omega), List.getElem?_eq_getElem _⟩
        have a0 := km.cell (hc q v hv)
        have hi1 : (q : Int) < W * H := by have := HN.out; omega
        have hmb := (mir_bd a b c e (i := (q : Int)) (by omega) hi1).2
        obtain ⟨k, hk⟩ : ∃ k : Nat, (k : Int) = mirI W H q := ⟨(mirI W H q).toNat, by omega⟩
        have hkn : k < n := by have := HN.out; omega
        have hkn' : (k : Int) < n := by omega
        have HS : Hid (mirT W H lt n (q + 1) = (mirT W H lt n q).set k v) := Lib.hid (by rw [mirT, hv, ← hk]; rfl)
        have C1 : Hid (∀ w, Calls Tryz.prog 35 #[mp W H (.slice (some ⟨b0, off, none⟩) n ct) (.slice Ar nr cr) (.slice Ad nd cd), .int .i64 (q : Int)] w fun e w' => e = .returned (.int .i64 (k : Int)) ∧ Kp w w') := Lib.hid fun w => by
          rw [hk]
          exact mMirrorIndex_any W H _ _ _ _ w a b c e (by omega) hi1
        have OTq := Lib.hid ot
        have s1 : (Live5 wr.drew g (.int .i64 H) (.int .i64 W) (.slice (some ⟨tb, 0, none⟩) n n) (.slice none 0 0) (.slice none 0 0)) ∧ wr.drew.cell? ⟨w.heap.size, 0, none⟩ = some (.int .i64 W) ∧ wr.drew.cell? ⟨w.heap.size, 1, none⟩ = some (.int .i64 H) ∧ wr.drew.cell? ⟨w.heap.size, 2, none⟩ = some (.slice (some ⟨b0, off, none⟩) n ct) ∧ wr.drew.cell? ⟨w.heap.size, 3, none⟩ = some (.slice Ar nr cr) ∧ wr.drew.cell? ⟨w.heap.size, 4, none⟩ = some (.slice Ad nd cd) := ⟨lg, sm⟩
        clear hc hv hmb hk ot
        go_wp2_with fail
        refine wp_region_held_drew (S := (fun w' => (Live5 w' g (.int .i64 H) (.int .i64 W) (.slice (some ⟨tb, 0, none⟩) n n) (.slice none 0 0) (.slice none 0 0)) ∧ w'.cell? ⟨w.heap.size, 0, none⟩ = some (.int .i64 W) ∧ w'.cell? ⟨w.heap.size, 1, none⟩ = some (.int .i64 H) ∧ w'.cell? ⟨w.heap.size, 2, none⟩ = some (.slice (some ⟨b0, off, none⟩) n ct) ∧ w'.cell? ⟨w.heap.size, 3, none⟩ = some (.slice Ar nr cr) ∧ w'.cell? ⟨w.heap.size, 4, none⟩ = some (.slice Ad nd cd))) (by kernel_rfl) ?_ (fun hHeld => ?_)
        · exact s1
        refine wpAnyH_take (i := 0) (oi := ⟨some 22, _, _, _, _, _⟩) (v := ?_) rfl (by kernel_rfl) (by kernel_rfl) (by kernel_rfl) (fun _ _ _ h => h) (Or.inl ⟨by rfl, ?_⟩) (by assumption) ?_
        rotate_left
        · intro w hSw; (try dsimp only at hSw); go_simp; (all_goals with_reducible rfl)
        simp only [Act.put, List.setIfInBounds_toArray, List.set_cons_zero, List.set_cons_succ]
        refine wpAnyH_take (i := 1) (oi := ⟨some 23, _, _, _, _, _⟩) (v := ?_) rfl (by kernel_rfl) (by kernel_rfl) (by kernel_rfl) (fun _ _ _ h => h) (Or.inl ⟨by rfl, ?_⟩) (by assumption) ?_
        rotate_left
        · intro w hSw; (try dsimp only at hSw); go_simp; (all_goals with_reducible rfl)
        simp only [Act.put, List.setIfInBounds_toArray, List.set_cons_zero, List.set_cons_succ]
        refine wpAnyH_take (i := 2) (oi := ⟨some 24, _, _, _, _, _⟩) (v := ?_) rfl (by kernel_rfl) (by kernel_rfl) (by kernel_rfl) (fun _ _ _ h => h) (Or.inl ⟨by rfl, ?_⟩) (by assumption) ?_
        rotate_left
        · intro w hSw; (try dsimp only at hSw); go_simp; (all_goals with_reducible rfl)
        simp only [Act.put, List.setIfInBounds_toArray, List.set_cons_zero, List.set_cons_succ]
        refine wpAnyH_take (i := 3) (oi := ⟨some 25, _, _, _, _, _⟩) (v := ?_) rfl (by kernel_rfl) (by kernel_rfl) (by kernel_rfl) (fun _ _ _ h => h) (Or.inl ⟨by rfl, ?_⟩) (by assumption) ?_
        rotate_left
        · intro w hSw; (try dsimp only at hSw); go_simp; (all_goals with_reducible rfl)
        simp only [Act.put, List.setIfInBounds_toArray, List.set_cons_zero, List.set_cons_succ]
        refine wpAnyH_take (i := 5) (oi := ⟨some 27, _, _, _, _, _⟩) (v := ?_) rfl (by kernel_rfl) (by kernel_rfl) (by kernel_rfl) (fun _ _ _ h => h) (Or.inl ⟨by rfl, ?_⟩) (by assumption) ?_
        rotate_left
        · intro w hSw; (try dsimp only at hSw); go_simp; (all_goals with_reducible rfl)
        simp only [Act.put, List.setIfInBounds_toArray, List.set_cons_zero, List.set_cons_succ]
        refine wpAnyH_ready (rs := [4]) (by kernel_rfl) (by simp) ?_
        refine AllReadyH.cons (o := ⟨some 26, _, _, _, _, _⟩) rfl (fun K hK => ?_) AllReadyH.nil
        go_simp
        refine (C1.out _).mono ?_; rintro e1 w1 ⟨rfl, k1⟩; have s2 : (Live5 w1 g (.int .i64 H) (.int .i64 W) (.slice (some ⟨tb, 0, none⟩) n n) (.slice none 0 0) (.slice none 0 0)) ∧ w1.cell? ⟨w.heap.size, 0, none⟩ = some (.int .i64 W) ∧ w1.cell? ⟨w.heap.size, 1, none⟩ = some (.int .i64 H) ∧ w1.cell? ⟨w.heap.size, 2, none⟩ = some (.slice (some ⟨b0, off, none⟩) n ct) ∧ w1.cell? ⟨w.heap.size, 3, none⟩ = some (.slice Ar nr cr) ∧ w1.cell? ⟨w.heap.size, 4, none⟩ = some (.slice Ad nd cd) := ⟨live5_keep k1 s1.1, k1.cell s1.2.1, k1.cell s1.2.2.1, k1.cell s1.2.2.2.1, k1.cell s1.2.2.2.2.1, k1.cell s1.2.2.2.2.2⟩; have k01 := Lib.hid ((Kp.refl wr).drew.trans k1)
        go_wp2_with fail
        refine hK.out _ _ ?_ (fun hHeld => ?_)
        · (try dsimp only); (first | assumption | exact s2 | exact s1)
        clear hK K
        try simp only [Act.put, List.setIfInBounds_toArray, List.set_cons_zero, List.set_cons_succ]
        refine wpAnyH_take (i := 6) (oi := ⟨some 28, _, _, _, _, _⟩) (v := ?_) rfl (by kernel_rfl) (by kernel_rfl) (by kernel_rfl) (fun _ _ _ h => h) (Or.inl ⟨by rfl, ?_⟩) (by assumption) ?_
        rotate_left
        · intro w hSw; (try dsimp only at hSw); go_simp; (all_goals with_reducible rfl)
        simp only [Act.put, List.setIfInBounds_toArray, List.set_cons_zero, List.set_cons_succ]
        have hb2 : w.heap.size + 2 ≤ tb := (World.ownsRow.lt OTq.out tb rfl).1
        obtain ⟨⟨u, hu⟩, hf, hput⟩ := (OTq.out.keep k01.out).put (mirT_length W H lt n q) hkn v
        have e1 : ¬ tb = g := fun x => hne x.symm
        have e2 : ¬ g = tb := hne
        have e3 : ¬ tb = w.heap.size := by omega
        have e4 : ¬ w.heap.size = tb := by omega
        have e5 : ¬ tb = w.heap.size + 1 := by omega
        have e6 : ¬ w.heap.size + 1 = tb := by omega
        have lv1 := live5_keep k01.out lv
        have km1 : Kp w w1 := km.trans k01.out
        obtain ⟨G, hG⟩ : ∃ G, G = (w1.setCell ⟨tb, k, none⟩ (.int .i64 v)) := ⟨_, rfl⟩
        have GL : (Live5 G g (.int .i64 H) (.int .i64 W) (.slice (some ⟨tb, 0, none⟩) n n) (.slice none 0 0) (.slice none 0 0)) ∧ G.cell? ⟨w.heap.size, 0, none⟩ = some (.int .i64 W) ∧ G.cell? ⟨w.heap.size, 1, none⟩ = some (.int .i64 H) ∧ G.cell? ⟨w.heap.size, 2, none⟩ = some (.slice (some ⟨b0, off, none⟩) n ct) ∧ G.cell? ⟨w.heap.size, 3, none⟩ = some (.slice Ar nr cr) ∧ G.cell? ⟨w.heap.size, 4, none⟩ = some (.slice Ad nd cd) := by
          rw [hG]
          exact ⟨⟨by simp [go_sem, *], by simp [go_sem, *], by simp [go_sem, *], by simp [go_sem, *], by simp [go_sem, *]⟩, by simp [go_sem, *], by simp [go_sem, *], by simp [go_sem, *], by simp [go_sem, *], by simp [go_sem, *]⟩
        have GV : Live5 G (w.heap.size + 1) (.int .i64 0) (.int .i64 0) (.slice none 0 0) (.slice none 0 0) (.slice none 0 0) := by
          rw [hG]
          exact ⟨by simp [go_sem, *], by simp [go_sem, *], by simp [go_sem, *], by simp [go_sem, *], by simp [go_sem, *]⟩
        have GK : Kp w G := by
          rw [hG]
          exact km1.setCell (show w.heap.size ≤ tb by omega) _
        rw [← hG] at hput
        refine wpAnyH_ready (rs := [7]) (by kernel_rfl) (by simp) ?_
        refine AllReadyH.cons (o := ⟨none, _, _, _, _, _⟩) rfl (fun K hK => ?_) AllReadyH.nil
        go_simp
        go_wp2_with fail
        rw [← hG]
        refine hK.out _ _ GL (fun hHeld => ?_)
        clear hK K
        try simp only [Act.put, List.setIfInBounds_toArray, List.set_cons_zero, List.set_cons_succ]
        refine wpAnyH_done (by kernel_rfl) ?_ _
        go_wp2_with fail
        go_roundw
        case rel => subst hG; exact ⟨q + 1, by omega, by go_num, GL.1, by rw [HS.out]; exact hput, GV, GL.2, GK⟩
        case measure => simp [intOf]; omega
      · obtain rfl : n = q := by omega
        rw [← HX.out] at ot
        have hb2 : w.heap.size + 2 ≤ tb := (World.ownsRow.lt ot tb rfl).1
        have OT := Lib.hid ot
        clear ot
        go_wp2_with fail
        refine (mMirrorEdges_any W H _ _ _ _ _ _ _ lr _ a b c e (HL.out.keep km).rr HL.out.br HR.out).mono ?_
        rintro e2 w2 ⟨v2, rfl, o2, k2⟩
        rw [← HY.out] at o2
        obtain ⟨A2, c2, rfl⟩ := o2.slice
        obtain ⟨n2, hn2⟩ : ∃ m, y.length = m := ⟨_, rfl⟩
        rw [hn2] at o2 ⊢
        have hgr : g < wr.heap.size := cell_lt lg.1.1
        have htr : tb < wr.heap.size := (World.ownsRow.lt OT.out tb rfl).2
        have LG2 := live5_keep k2 lg
        have LV2 := live5_keep k2 lv
        have SM2 : w2.cell? ⟨w.heap.size, 0, none⟩ = some (.int .i64 W) ∧ w2.cell? ⟨w.heap.size, 1, none⟩ = some (.int .i64 H) ∧ w2.cell? ⟨w.heap.size, 2, none⟩ = some (.slice At n ct) ∧ w2.cell? ⟨w.heap.size, 3, none⟩ = some (.slice Ar nr cr) ∧ w2.cell? ⟨w.heap.size, 4, none⟩ = some (.slice Ad nd cd) := ⟨k2.cell sm.1, k2.cell sm.2.1, k2.cell sm.2.2.1, k2.cell sm.2.2.2.1, k2.cell sm.2.2.2.2⟩
        have KM2 := km.trans k2
        have e2 : ¬ g = w.heap.size := by omega
        have e4 : ¬ w.heap.size = g := by omega
        have e5 : w.heap.size + 1 < wr.heap.size := cell_lt lv.1.1
        have NG2 : (Value.slice A2 n2 c2).ownBlock ≠ some g := o2.not (by omega)
        have NT2 : (Value.slice A2 n2 c2).ownBlock ≠ some tb := o2.not (by omega)
        have B2 : wr.heap.size + 2 ≤ w2.heap.size ∨ True := Or.inr trivial
        have OT2 := Lib.hid (OT.out.keep k2)
        have O2 := Lib.hid o2
        have z2 := k2.size
        clear lg lv sm km k2 o2 B2
        go_wp2_with fail
        have K2' : Kp w (w2.setCell ⟨g, 3, none⟩ (.slice A2 n2 c2)) := KM2.setCell (show w.heap.size ≤ g by omega) _
        refine (mMirrorEdges_any W H _ _ _ _ _ _ _ ld _ a b c e (HL.out.keep K2').rd HL.out.bd HD.out).mono ?_
        rintro e3 w3 ⟨v3, rfl, o3, k3⟩
        rw [← HZ.out] at o3
        obtain ⟨A3, c3, rfl⟩ := o3.slice
        obtain ⟨n3, hn3⟩ : ∃ m, z.length = m := ⟨_, rfl⟩
        rw [hn3] at o3 ⊢
        have z3 := k3.size
        simp only [World.size_setCell] at z3 o3
        have LG3 : Live5 w3 g (.int .i64 H) (.int .i64 W) (.slice (some ⟨tb, 0, none⟩) n n) (.slice A2 n2 c2) (.slice none 0 0) := live5_keep k3 ⟨by simp [go_sem, *], by simp [go_sem, *], by simp [go_sem, *], by simp [go_sem, *], by simp [go_sem, *]⟩
        have e7 : ¬ g = w.heap.size + 1 := fun x => by omega
        have e8 : ¬ w.heap.size + 1 = g := fun x => by omega
        have LV3 : Live5 w3 (w.heap.size + 1) (.int .i64 0) (.int .i64 0) (.slice none 0 0) (.slice none 0 0) (.slice none 0 0) := live5_keep k3 ⟨by simp [go_sem, *], by simp [go_sem, *], by simp [go_sem, *], by simp [go_sem, *], by simp [go_sem, *]⟩
        have K3 : Kp w w3 := K2'.trans k3
        have OT3 := Lib.hid ((OT2.out.far (j := 3) (show (Value.slice (some ⟨tb, 0, none⟩) n n).ownBlock ≠ some g from fun x => hne (Option.some.inj x).symm) (.slice A2 n2 c2)).keep k3)
        have O23 := Lib.hid ((O2.out.far (j := 3) NG2 (.slice A2 n2 c2)).keep k3)
        have NG3 : (Value.slice A3 n3 c3).ownBlock ≠ some g := o3.not (by omega)
        have NT3 : (Value.slice A3 n3 c3).ownBlock ≠ some tb := o3.not (by omega)
        have D23 : Hid (∀ i, (Value.slice A2 n2 c2).ownBlock = some i → (Value.slice A3 n3 c3).ownBlock ≠ some i) := Lib.hid fun i hi hi' => by
          have h1 := (World.ownsRow.lt O2.out i hi).2
          have h2 := (World.ownsRow.lt o3 i hi').1
          omega
        have O3 := Lib.hid o3
        have NV2 : (Value.slice A2 n2 c2).ownBlock ≠ some (w.heap.size + 1) := O2.out.not (by omega)
        have NV3 : (Value.slice A3 n3 c3).ownBlock ≠ some (w.heap.size + 1) := O3.out.not (by omega)
        have NVT : (Value.slice (some ⟨tb, 0, none⟩) n n).ownBlock ≠ some (w.heap.size + 1) := OT.out.not (by omega)
        have NTG : (Value.slice (some ⟨tb, 0, none⟩) n n).ownBlock ≠ some g := fun x => hne (Option.some.inj x).symm
        have DT2 : Hid (∀ i, (Value.slice (some ⟨tb, 0, none⟩) n n).ownBlock = some i → (Value.slice A2 n2 c2).ownBlock ≠ some i) := Lib.hid fun i hi => by
          obtain rfl := Option.some.inj hi
          exact NT2
        have DT3 : Hid (∀ i, (Value.slice (some ⟨tb, 0, none⟩) n n).ownBlock = some i → (Value.slice A3 n3 c3).ownBlock ≠ some i) := Lib.hid fun i hi => by
          obtain rfl := Option.some.inj hi
          exact NT3
        clear K2' k3 o3 LG2 LV2 SM2 KM2 OT2 O2
        go_wp2_with fail
        refine bodyPost_ret (v := mp H W (.slice (some ⟨tb, 0, none⟩) n n) (.slice A2 n2 c2) (.slice A3 n3 c3)) (by simp [results, Tryz.results15, go_sem, *]) rfl ⟨_, _, _, rfl, ⟨?_, ?_, ?_, DT2.out, DT3.out, D23.out⟩, ?_⟩
        · exact ((((((OT3.out.far NTG _).far NVT _).far NVT _).far NVT _).far NVT _).far NVT _).base (by omega)
        · exact ((((((O23.out.far NG2 _).far NV2 _).far NV2 _).far NV2 _).far NV2 _).far NV2 _).base (by omega)
        · exact ((((((O3.out.far NG3 _).far NV3 _).far NV3 _).far NV3 _).far NV3 _).far NV3 _).base (by omega)
        · exact (((((K3.setCell (show w.heap.size ≤ g by omega) _).setCell (show w.heap.size ≤ w.heap.size + 1 by omega) _).setCell (show w.heap.size ≤ w.heap.size + 1 by omega) _).setCell (show w.heap.size ≤ w.heap.size + 1 by omega) _).setCell (show w.heap.size ≤ w.heap.size + 1 by omega) _).setCell (show w.heap.size ≤ w.heap.size + 1 by omega) _

end Go.Proofs.YtmolpkjdjkhnpaaGreatDoor

/-
  Sorting a slice of integers that the call owns: the same slice, its numbers in rising order. Only that slice's block is written. (The shelf's contract of the library's sort, restated.)
-/
namespace Go.Proofs.YtmolpkjdjkhnpaaGreatDoor
open Go.RowKit Go.Sort

theorem sort_at {w : World} {n blk : Nat} {f : Array Value → Array Value} {os : Array Obj} {cur : Array Value} {e : TypeId} {fr : Nat × Nat} (hb : w.heap[blk]? = some (.cells cur e fr)) :
    (grow (mapBlock (Go.Sort.ahead w n) blk f) os).heap[blk]? = some (.cells (f cur) e fr) := by
  have hs : blk < w.heap.size := (Array.getElem?_eq_some_iff.1 hb).1
  have h1 : (mapBlock (Go.Sort.ahead w n) blk f).heap[blk]? = some (.cells (f cur) e fr) := by
    unfold mapBlock Go.Sort.ahead
    simp only [Array.getElem?_modify, if_true, hb, Option.map_some, onCells]
  unfold grow
  simp only
  rw [Array.getElem?_append_left (by simpa [mapBlock, Go.Sort.ahead] using hs)]
  exact h1
theorem sort_else {w : World} {n blk k : Nat} {f : Array Value → Array Value} {os : Array Obj} (hk : k < w.heap.size) (hne : k ≠ blk) : (grow (mapBlock (Go.Sort.ahead w n) blk f) os).heap[k]? = w.heap[k]? := by
  unfold grow
  simp only
  rw [Array.getElem?_append_left (by simpa [mapBlock, Go.Sort.ahead] using hk)]
  unfold mapBlock Go.Sort.ahead
  simp only [Array.getElem?_modify]
  rw [if_neg (fun e => hne e.symm)]
theorem putCells_take (d : List Int) (cur : Array Value) (h : d.length ≤ cur.size) : (putCells (Value.int .i64) 0 d.toArray cur).toList.take d.length = cellsI d := by
  apply List.ext_getElem?
  intro j
  by_cases hj : j < d.length
  · rw [List.getElem?_take, if_pos hj]
    have hjc : j < cur.size := by omega
    simp only [putCells, Array.toList_mapIdx, List.getElem?_mapIdx, cellsI, List.getElem?_map]
    rw [List.getElem?_eq_getElem (by simpa using hjc), List.getElem?_eq_getElem hj]
    simp only [Option.map_some, Nat.zero_le, Nat.zero_add, true_and, Nat.sub_zero, List.size_toArray]
    rw [if_pos hj, getElem!_pos _ j (by simpa using hj)]
    simp
  · rw [List.getElem?_take, if_neg hj, List.getElem?_eq_none (by simp [cellsI]; omega)]

theorem sort_own (v : Value) (l : List Int) (base : Nat) (w : World) (h : OwnI w base v l) (hl : l.length ≤ 1048576) :
    Calls Tryz.prog 77 #[v] w fun e w' => e = .returned (.tuple #[]) ∧ OwnI w' base v (l.mergeSort fun x y => decide (x ≤ y)) ∧ w.grownBy w' v.ownBlock := by
  have ho := h
  rcases h.2 with ⟨rfl, h0⟩ | ⟨g, cap, cur, rfl, hb, hg, hc, hm, hs, ht⟩
  · have e : l = [] := List.eq_nil_of_length_eq_zero h0
    subst e
    refine (Tryz.slices_Sort_int_none none 0 w).mono ?_
    rintro e w' ⟨rfl, rfl⟩
    exact ⟨rfl, by simpa using ho, World.grownBy.refl _ _⟩
  · have hgw : g < w.heap.size := (Array.getElem?_eq_some_iff.1 hg).1
    refine (Tryz.slices_Sort_int g 0 cap l w (fun j hj => ?_) hgw (by omega)).mono ?_
    · have hj' : j < l.length := by simpa using hj
      rw [Nat.zero_add]
      refine ⟨?_, ho.frozenAt j⟩
      refine (World.ownsRow.cellAt ho j (by omega)).trans ?_
      rw [getElem!_pos _ j hj]
      simp [cellsI, hj']
    · rintro e w' ⟨rfl, n, os, rfl⟩
      obtain ⟨S, hS⟩ : ∃ S, S = l.mergeSort fun x y => decide (x ≤ y) := ⟨_, rfl⟩
      have hsl : S.length = l.length := by rw [hS]; exact List.length_mergeSort l
      rw [← hS]
      unfold putRow
      obtain ⟨c2, hc2⟩ : ∃ c2, c2 = putCells (Value.int .i64) 0 S.toArray cur := ⟨_, rfl⟩
      have hh := sort_at (n := n) (f := putCells (Value.int .i64) 0 S.toArray) (os := os) hg
      rw [← hc2] at hh
      have hz2 : c2.size = cap * 1 := by rw [hc2]; simp [putCells, hs]
      have ht2 : c2.toList.take (S.length * 1) = cellsI S := by
        rw [Nat.mul_one, hc2]
        exact putCells_take S cur (by omega)
      refine ⟨rfl, ⟨by simp [cellsI], .inr ⟨g, cap, c2, by rw [hsl], hb, hh, by omega, hm, hz2, ht2⟩⟩, ⟨rfl, rfl, rfl, ?_, fun k hk hne => sort_else hk (fun e => hne (by rw [e]; rfl))⟩⟩
      simp [grow, mapBlock, Go.Sort.ahead]

end Go.Proofs.YtmolpkjdjkhnpaaGreatDoor

/-
  Mirrored lists of edges: the program's, sorted, and the reference's, put one by one: the same list, in memory of its own. Nothing that was there is changed. The table of directions holds what the program's text lays.
-/
namespace Go.Proofs.YtmolpkjdjkhnpaaGreatDoor
open Go.RowKit

theorem mkInts0 (n : Nat) (hn : n ≤ 1048576) (w : World) :
    (Instr.makeSlice 26 (.int .i64 0) (.int .i64 (n : Int))).run Tryz.prog w = .ok (.slice (some ⟨w.heap.size, 0, none⟩) 0 n) (w.alloc (.cells (madeCells #[.int .i64 0] n) 3)) := by
  obtain ⟨i, hi, hz, hs, hb⟩ := info_parts infoInt
  have hr := run_make (P := Tryz.prog) w 26 3 i (.int .i64 0) Tryz.underlying26 hi hz .i64 .i64 0 (n : Int) (Int.le_refl _) (by omega) (by rw [hb]; omega) (by omega)
  rw [hs, Int.toNat_natCast, Nat.mul_one] at hr
  exact hr
theorem ownI_made (w : World) (n : Nat) (hn : n ≤ 1048576) : OwnI (w.alloc (.cells (madeCells #[.int .i64 0] n) 3)) w.heap.size (.slice (some ⟨w.heap.size, 0, none⟩) 0 n) [] := by
  unfold OwnI
  exact World.ownsRow_made w _ n (Nat.le_refl _) (by simp only [maxLen]; omega) (by rw [size_madeCells, Nat.mul_one])
theorem map_more {l : List Int} {q : Nat} {z : Int} (f : Int → Int) (h : l[q]? = some z) : (l.take (q + 1)).map f = (l.take q).map f ++ [f z] := by
  rw [List.take_add_one, h]
  simp

set_option maxRecDepth 100000 in
set_option maxHeartbeats 4000000 in
theorem mirrorEdges_any (W H : Int) (t r d t2 r2 d2 v : Value) (l : List Int) (w : World) (a : 1 ≤ W) (b : W ≤ 10) (c : 1 ≤ H) (e : H ≤ 10) (ht : Tab w) (hr : RdI w v l) (hl : l.length ≤ 1048576) (hok : edgesOk W H l = true) :
    Calls Tryz.prog 44 #[mp W H t r d, mp H W t2 r2 d2, v] w fun e' w' => ∃ v', e' = .returned v' ∧ OwnI w' (w.heap.size + 2) v' ((l.map (mirE W H)).mergeSort fun x y => decide (x ≤ y)) ∧ Kp w w' := by
  obtain ⟨Av, cv, rfl, hcv⟩ := hr
  have KA : Kp w ((w.alloc (.cells #[.int .i64 W, .int .i64 H, t, r, d] 36)).alloc (.cells #[.int .i64 H, .int .i64 W, t2, r2, d2] 36)) := ((Kp.refl w).alloc _).alloc _
  have s0 : ((w.alloc (.cells #[.int .i64 W, .int .i64 H, t, r, d] 36)).alloc (.cells #[.int .i64 H, .int .i64 W, t2, r2, d2] 36)).cell? ⟨w.heap.size, 0, none⟩ = some (.int .i64 W) ∧ ((w.alloc (.cells #[.int .i64 W, .int .i64 H, t, r, d] 36)).alloc (.cells #[.int .i64 H, .int .i64 W, t2, r2, d2] 36)).cell? ⟨w.heap.size, 1, none⟩ = some (.int .i64 H) ∧ ((w.alloc (.cells #[.int .i64 W, .int .i64 H, t, r, d] 36)).alloc (.cells #[.int .i64 H, .int .i64 W, t2, r2, d2] 36)).cell? ⟨w.heap.size, 2, none⟩ = some (t) ∧ ((w.alloc (.cells #[.int .i64 W, .int .i64 H, t, r, d] 36)).alloc (.cells #[.int .i64 H, .int .i64 W, t2, r2, d2] 36)).cell? ⟨w.heap.size, 3, none⟩ = some (r) ∧ ((w.alloc (.cells #[.int .i64 W, .int .i64 H, t, r, d] 36)).alloc (.cells #[.int .i64 H, .int .i64 W, t2, r2, d2] 36)).cell? ⟨w.heap.size, 4, none⟩ = some (d) ∧ ((w.alloc (.cells #[.int .i64 W, .int .i64 H, t, r, d] 36)).alloc (.cells #[.int .i64 H, .int .i64 W, t2, r2, d2] 36)).cell? ⟨w.heap.size + 1, 0, none⟩ = some (.int .i64 H) ∧ ((w.alloc (.cells #[.int .i64 W, .int .i64 H, t, r, d] 36)).alloc (.cells #[.int .i64 H, .int .i64 W, t2, r2, d2] 36)).cell? ⟨w.heap.size + 1, 1, none⟩ = some (.int .i64 W) ∧ ((w.alloc (.cells #[.int .i64 W, .int .i64 H, t, r, d] 36)).alloc (.cells #[.int .i64 H, .int .i64 W, t2, r2, d2] 36)).cell? ⟨w.heap.size + 1, 2, none⟩ = some (t2) ∧ ((w.alloc (.cells #[.int .i64 W, .int .i64 H, t, r, d] 36)).alloc (.cells #[.int .i64 H, .int .i64 W, t2, r2, d2] 36)).cell? ⟨w.heap.size + 1, 3, none⟩ = some (r2) ∧ ((w.alloc (.cells #[.int .i64 W, .int .i64 H, t, r, d] 36)).alloc (.cells #[.int .i64 H, .int .i64 W, t2, r2, d2] 36)).cell? ⟨w.heap.size + 1, 4, none⟩ = some (d2) ∧ Kp w ((w.alloc (.cells #[.int .i64 W, .int .i64 H, t, r, d] 36)).alloc (.cells #[.int .i64 H, .int .i64 W, t2, r2, d2] 36)) := ⟨by simp [go_sem], by simp [go_sem], by simp [go_sem], by simp [go_sem], by simp [go_sem], by simp [go_sem], by simp [go_sem], by simp [go_sem], by simp [go_sem], by simp [go_sem], KA⟩
  have HT := Lib.hid ht
  have hA := area_bd a b c e
  have hall : ∀ x ∈ l, edgeB W H x = true := by
    rw [edgesOk_eq, Bool.and_eq_true, List.all_eq_true] at hok
    exact hok.1
  have HE : Hid (∀ (q : Nat) (x : Int), l[q]? = some x → ∃ z : Nat, x = z ∧ (0 ≤ (z : Int) / 3 ∧ (z : Int) / 3 < W * H) ∧ (z : Int) ≤ 1000 ∧ nbB H W (mirI W H ((z : Int) / 3)) (5 - (z : Int) % 3) = true) := Lib.hid fun q x hx => by
    have hx1 := hall x (List.mem_of_getElem? hx)
    obtain ⟨h0, _, _, _, h4⟩ := edge_parts a b hx1
    have h5 := inB_true (edgeB_true hx1)
    refine ⟨x.toNat, by omega, ?_, by omega, ?_⟩
    · have : ((x.toNat : Nat) : Int) = x := by omega
      rw [this]
      omega
    · have : ((x.toNat : Nat) : Int) = x := by omega
      rw [this]
      exact h4
  obtain ⟨n, hn⟩ : ∃ n, l.length = n := ⟨_, rfl⟩
  have HN := Lib.hid hn
  rw [hn] at hcv hl ⊢
  have HV := Lib.hid hcv
  have hmk := fun w => mkInts0 n hl w
  obtain ⟨j0, hj0, hz0, hs0, hb0⟩ := info_parts infoInt
  clear ht hok hall hcv hn KA
  go_enter Tryz.func44, Tryz.ntmps44
  go_wp2_with fail
  have o1 := ownI_made ((w.alloc (.cells #[.int .i64 W, .int .i64 H, t, r, d] 36)).alloc (.cells #[.int .i64 H, .int .i64 W, t2, r2, d2] 36)) n hl
  have kz : Kp ((w.alloc (.cells #[.int .i64 W, .int .i64 H, t, r, d] 36)).alloc (.cells #[.int .i64 H, .int .i64 W, t2, r2, d2] 36)) (((w.alloc (.cells #[.int .i64 W, .int .i64 H, t, r, d] 36)).alloc (.cells #[.int .i64 H, .int .i64 W, t2, r2, d2] 36)).alloc (.cells (madeCells #[.int .i64 0] n) 3)) := (Kp.refl _).alloc _
  have sz : (((w.alloc (.cells #[.int .i64 W, .int .i64 H, t, r, d] 36)).alloc (.cells #[.int .i64 H, .int .i64 W, t2, r2, d2] 36)).alloc (.cells (madeCells #[.int .i64 0] n) 3)).cell? ⟨w.heap.size, 0, none⟩ = some (.int .i64 W) ∧ (((w.alloc (.cells #[.int .i64 W, .int .i64 H, t, r, d] 36)).alloc (.cells #[.int .i64 H, .int .i64 W, t2, r2, d2] 36)).alloc (.cells (madeCells #[.int .i64 0] n) 3)).cell? ⟨w.heap.size, 1, none⟩ = some (.int .i64 H) ∧ (((w.alloc (.cells #[.int .i64 W, .int .i64 H, t, r, d] 36)).alloc (.cells #[.int .i64 H, .int .i64 W, t2, r2, d2] 36)).alloc (.cells (madeCells #[.int .i64 0] n) 3)).cell? ⟨w.heap.size, 2, none⟩ = some (t) ∧ (((w.alloc (.cells #[.int .i64 W, .int .i64 H, t, r, d] 36)).alloc (.cells #[.int .i64 H, .int .i64 W, t2, r2, d2] 36)).alloc (.cells (madeCells #[.int .i64 0] n) 3)).cell? ⟨w.heap.size, 3, none⟩ = some (r) ∧ (((w.alloc (.cells #[.int .i64 W, .int .i64 H, t, r, d] 36)).alloc (.cells #[.int .i64 H, .int .i64 W, t2, r2, d2] 36)).alloc (.cells (madeCells #[.int .i64 0] n) 3)).cell? ⟨w.heap.size, 4, none⟩ = some (d) ∧ (((w.alloc (.cells #[.int .i64 W, .int .i64 H, t, r, d] 36)).alloc (.cells #[.int .i64 H, .int .i64 W, t2, r2, d2] 36)).alloc (.cells (madeCells #[.int .i64 0] n) 3)).cell? ⟨w.heap.size + 1, 0, none⟩ = some (.int .i64 H) ∧ (((w.alloc (.cells #[.int .i64 W, .int .i64 H, t, r, d] 36)).alloc (.cells #[.int .i64 H, .int .i64 W, t2, r2, d2] 36)).alloc (.cells (madeCells #[.int .i64 0] n) 3)).cell? ⟨w.heap.size + 1, 1, none⟩ = some (.int .i64 W) ∧ (((w.alloc (.cells #[.int .i64 W, .int .i64 H, t, r, d] 36)).alloc (.cells #[.int .i64 H, .int .i64 W, t2, r2, d2] 36)).alloc (.cells (madeCells #[.int .i64 0] n) 3)).cell? ⟨w.heap.size + 1, 2, none⟩ = some (t2) ∧ (((w.alloc (.cells #[.int .i64 W, .int .i64 H, t, r, d] 36)).alloc (.cells #[.int .i64 H, .int .i64 W, t2, r2, d2] 36)).alloc (.cells (madeCells #[.int .i64 0] n) 3)).cell? ⟨w.heap.size + 1, 3, none⟩ = some (r2) ∧ (((w.alloc (.cells #[.int .i64 W, .int .i64 H, t, r, d] 36)).alloc (.cells #[.int .i64 H, .int .i64 W, t2, r2, d2] 36)).alloc (.cells (madeCells #[.int .i64 0] n) 3)).cell? ⟨w.heap.size + 1, 4, none⟩ = some (d2) ∧ Kp w (((w.alloc (.cells #[.int .i64 W, .int .i64 H, t, r, d] 36)).alloc (.cells #[.int .i64 H, .int .i64 W, t2, r2, d2] 36)).alloc (.cells (madeCells #[.int .i64 0] n) 3)) := ⟨kz.cell s0.1, kz.cell s0.2.1, kz.cell s0.2.2.1, kz.cell s0.2.2.2.1, kz.cell s0.2.2.2.2.1, kz.cell s0.2.2.2.2.2.1, kz.cell s0.2.2.2.2.2.2.1, kz.cell s0.2.2.2.2.2.2.2.1, kz.cell s0.2.2.2.2.2.2.2.2.1, kz.cell s0.2.2.2.2.2.2.2.2.2.1, s0.2.2.2.2.2.2.2.2.2.2.trans kz⟩
  have ez : ((w.alloc (.cells #[.int .i64 W, .int .i64 H, t, r, d] 36)).alloc (.cells #[.int .i64 H, .int .i64 W, t2, r2, d2] 36)).heap.size = w.heap.size + 2 := by simp
  rw [ez] at o1
  clear hmk s0 kz ez
  go_loopw [7, 9, 10, 11, 12, 13, 19, 27] (fun v _ _ _ _ _ sq _ wx => ∃ q : Nat, q ≤ n ∧ sq = .int .i64 q ∧ OwnI wx (w.heap.size + 2) v ((l.take q).map (mirE W H)) ∧ wx.cell? ⟨w.heap.size, 0, none⟩ = some (.int .i64 W) ∧ wx.cell? ⟨w.heap.size, 1, none⟩ = some (.int .i64 H) ∧ wx.cell? ⟨w.heap.size, 2, none⟩ = some (t) ∧ wx.cell? ⟨w.heap.size, 3, none⟩ = some (r) ∧ wx.cell? ⟨w.heap.size, 4, none⟩ = some (d) ∧ wx.cell? ⟨w.heap.size + 1, 0, none⟩ = some (.int .i64 H) ∧ wx.cell? ⟨w.heap.size + 1, 1, none⟩ = some (.int .i64 W) ∧ wx.cell? ⟨w.heap.size + 1, 2, none⟩ = some (t2) ∧ wx.cell? ⟨w.heap.size + 1, 3, none⟩ = some (r2) ∧ wx.cell? ⟨w.heap.size + 1, 4, none⟩ = some (d2) ∧ Kp w wx) (fun _ _ _ _ _ _ sq _ _ => n - (intOf sq).toNat)
  case atStart => exact ⟨0, by omega, rfl, by simpa using o1, sz⟩
  case round =>
    clear o1 sz
    obtain ⟨q, hq, rfl, hoR, sr⟩ := hrel
    by_cases hlt : q < n
    · have hlt' : (q : Int) < n := by omega
      obtain ⟨g, off, rfl, hc⟩ := HV.out (by omega)
      obtain ⟨x, hx⟩ : ∃ x, l[q]? = some x := ⟨l[q]'(by have := HN.out; omega), List.getElem?_eq_getElem _⟩
      have kr : Kp w wr := sr.2.2.2.2.2.2.2.2.2.2
      have a0 := kr.cell (hc q x hx)
      obtain ⟨z, rfl, hz3, hzk, hnb⟩ := HE.out q x hx
      have HO := Lib.hid hoR
      have hln : Hid (((l.take q).map (mirE W H)).length ≤ n) := Lib.hid (by simp; omega)
      have s1 : wr.drew.cell? ⟨w.heap.size, 0, none⟩ = some (.int .i64 W) ∧ wr.drew.cell? ⟨w.heap.size, 1, none⟩ = some (.int .i64 H) ∧ wr.drew.cell? ⟨w.heap.size, 2, none⟩ = some (t) ∧ wr.drew.cell? ⟨w.heap.size, 3, none⟩ = some (r) ∧ wr.drew.cell? ⟨w.heap.size, 4, none⟩ = some (d) ∧ wr.drew.cell? ⟨w.heap.size + 1, 0, none⟩ = some (.int .i64 H) ∧ wr.drew.cell? ⟨w.heap.size + 1, 1, none⟩ = some (.int .i64 W) ∧ wr.drew.cell? ⟨w.heap.size + 1, 2, none⟩ = some (t2) ∧ wr.drew.cell? ⟨w.heap.size + 1, 3, none⟩ = some (r2) ∧ wr.drew.cell? ⟨w.heap.size + 1, 4, none⟩ = some (d2) ∧ Kp w wr.drew := ⟨sr.1, sr.2.1, sr.2.2.1, sr.2.2.2.1, sr.2.2.2.2.1, sr.2.2.2.2.2.1, sr.2.2.2.2.2.2.1, sr.2.2.2.2.2.2.2.1, sr.2.2.2.2.2.2.2.2.1, sr.2.2.2.2.2.2.2.2.2.1, sr.2.2.2.2.2.2.2.2.2.2.drew⟩
      have hm0 : mirE W H (z : Int) = edgI H (mirI W H ((z : Int) / 3)) (5 - (z : Int) % 3) := rfl
      obtain ⟨me, hme⟩ : ∃ y, y = mirI W H ((z : Int) / 3) := ⟨_, rfl⟩
      rw [← hme] at hnb hm0
      have C1 : Hid (∀ w, Calls Tryz.prog 43 #[mp W H t r d, .int .i64 ((z : Int) / 3)] w fun e w' => e = .returned (.int .i64 me) ∧ Kp w w') := Lib.hid fun w => by
        rw [hme]
        exact mirrorIndex_any W H t r d _ w a b c e hz3.1 hz3.2
      obtain ⟨E, hE⟩ : ∃ y, y = mirE W H (z : Int) := ⟨_, rfl⟩
      have HS : Hid ((l.take (q + 1)).map (mirE W H) = (l.take q).map (mirE W H) ++ [E]) := Lib.hid (by rw [hE]; exact map_more (mirE W H) hx)
      have C2 : Hid (∀ w, Tab w → Calls Tryz.prog 76 #[mp H W t2 r2 d2, .int .i64 me, .int .i64 (5 - (z : Int) % 3)] w fun e w' => e = .returned (.tuple #[.int .i64 E, .bool true]) ∧ Kp w w') := Lib.hid fun w ht => by
        have := edgeNumber_any H W t2 r2 d2 me (5 - (z : Int) % 3) w c e a b ht
        rw [hnb, ← hm0, ← hE] at this
        exact this
      obtain ⟨NL, hNL⟩ : ∃ y, y = (l.take q).map (mirE W H) := ⟨_, rfl⟩
      rw [← hNL] at HS HO hln
      have hz30 : 0 ≤ (z : Int) % 3 := by omega
      have hz32 : (z : Int) % 3 ≤ 2 := by omega
      have hwr : IntKind.i64.wrap (5 - (z : Int) % 3) = 5 - (z : Int) % 3 := by simp [IntKind.wrap, IntKind.bits, IntKind.signed]; omega
      clear hc hx hoR hme hnb hm0 hE hNL
      go_wp2_with fail
      refine wp_region_held_drew (S := (fun w' => w'.cell? ⟨w.heap.size, 0, none⟩ = some (.int .i64 W) ∧ w'.cell? ⟨w.heap.size, 1, none⟩ = some (.int .i64 H) ∧ w'.cell? ⟨w.heap.size, 2, none⟩ = some (t) ∧ w'.cell? ⟨w.heap.size, 3, none⟩ = some (r) ∧ w'.cell? ⟨w.heap.size, 4, none⟩ = some (d) ∧ w'.cell? ⟨w.heap.size + 1, 0, none⟩ = some (.int .i64 H) ∧ w'.cell? ⟨w.heap.size + 1, 1, none⟩ = some (.int .i64 W) ∧ w'.cell? ⟨w.heap.size + 1, 2, none⟩ = some (t2) ∧ w'.cell? ⟨w.heap.size + 1, 3, none⟩ = some (r2) ∧ w'.cell? ⟨w.heap.size + 1, 4, none⟩ = some (d2) ∧ Kp w w')) (by kernel_rfl) ?_ (fun hHeld => ?_)
      · exact s1
      refine wpAnyH_take (i := 0) (oi := ⟨some 28, _, _, _, _, _⟩) (v := ?_) rfl (by kernel_rfl) (by kernel_rfl) (by kernel_rfl) (fun _ _ _ h => h) (Or.inl ⟨by rfl, ?_⟩) (by assumption) ?_
      rotate_left
      · intro w hSw; (try dsimp only at hSw); go_simp; (all_goals with_reducible rfl)
      simp only [Act.put, List.setIfInBounds_toArray, List.set_cons_zero, List.set_cons_succ]
      refine wpAnyH_take (i := 1) (oi := ⟨some 29, _, _, _, _, _⟩) (v := ?_) rfl (by kernel_rfl) (by kernel_rfl) (by kernel_rfl) (fun _ _ _ h => h) (Or.inl ⟨by rfl, ?_⟩) (by assumption) ?_
      rotate_left
      · intro w hSw; (try dsimp only at hSw); go_simp; (all_goals with_reducible rfl)
      simp only [Act.put, List.setIfInBounds_toArray, List.set_cons_zero, List.set_cons_succ]
      refine wpAnyH_take (i := 2) (oi := ⟨some 30, _, _, _, _, _⟩) (v := ?_) rfl (by kernel_rfl) (by kernel_rfl) (by kernel_rfl) (fun _ _ _ h => h) (Or.inl ⟨by rfl, ?_⟩) (by assumption) ?_
      rotate_left
      · intro w hSw; (try dsimp only at hSw); go_simp; (all_goals with_reducible rfl)
      simp only [Act.put, List.setIfInBounds_toArray, List.set_cons_zero, List.set_cons_succ]
      refine wpAnyH_take (i := 4) (oi := ⟨some 32, _, _, _, _, _⟩) (v := ?_) rfl (by kernel_rfl) (by kernel_rfl) (by kernel_rfl) (fun _ _ _ h => h) (Or.inl ⟨by rfl, ?_⟩) (by assumption) ?_
      rotate_left
      · intro w hSw; (try dsimp only at hSw); go_simp; (all_goals with_reducible rfl)
      simp only [Act.put, List.setIfInBounds_toArray, List.set_cons_zero, List.set_cons_succ]
      refine wpAnyH_take (i := 5) (oi := ⟨some 33, _, _, _, _, _⟩) (v := ?_) rfl (by kernel_rfl) (by kernel_rfl) (by kernel_rfl) (fun _ _ _ h => h) (Or.inl ⟨by rfl, ?_⟩) (by assumption) ?_
      rotate_left
      · intro w hSw; (try dsimp only at hSw); go_simp; (all_goals with_reducible rfl)
      simp only [Act.put, List.setIfInBounds_toArray, List.set_cons_zero, List.set_cons_succ]
      refine wpAnyH_ready (rs := [3]) (by kernel_rfl) (by simp) ?_
      refine AllReadyH.cons (o := ⟨some 31, _, _, _, _, _⟩) rfl (fun K hK => ?_) AllReadyH.nil
      go_simp
      refine (C1.out _).mono ?_; rintro e1 w1 ⟨rfl, k1⟩; have s1b : w1.cell? ⟨w.heap.size, 0, none⟩ = some (.int .i64 W) ∧ w1.cell? ⟨w.heap.size, 1, none⟩ = some (.int .i64 H) ∧ w1.cell? ⟨w.heap.size, 2, none⟩ = some (t) ∧ w1.cell? ⟨w.heap.size, 3, none⟩ = some (r) ∧ w1.cell? ⟨w.heap.size, 4, none⟩ = some (d) ∧ w1.cell? ⟨w.heap.size + 1, 0, none⟩ = some (.int .i64 H) ∧ w1.cell? ⟨w.heap.size + 1, 1, none⟩ = some (.int .i64 W) ∧ w1.cell? ⟨w.heap.size + 1, 2, none⟩ = some (t2) ∧ w1.cell? ⟨w.heap.size + 1, 3, none⟩ = some (r2) ∧ w1.cell? ⟨w.heap.size + 1, 4, none⟩ = some (d2) ∧ Kp w w1 := ⟨k1.cell s1.1, k1.cell s1.2.1, k1.cell s1.2.2.1, k1.cell s1.2.2.2.1, k1.cell s1.2.2.2.2.1, k1.cell s1.2.2.2.2.2.1, k1.cell s1.2.2.2.2.2.2.1, k1.cell s1.2.2.2.2.2.2.2.1, k1.cell s1.2.2.2.2.2.2.2.2.1, k1.cell s1.2.2.2.2.2.2.2.2.2.1, s1.2.2.2.2.2.2.2.2.2.2.trans k1⟩; have k01 := Lib.hid ((Kp.refl wr).drew.trans k1)
      go_wp2_with fail
      refine hK.out _ _ ?_ (fun hHeld => ?_)
      · (try dsimp only); (first | assumption | exact s2 | exact s1b | exact s1)
      clear hK K
      try simp only [Act.put, List.setIfInBounds_toArray, List.set_cons_zero, List.set_cons_succ]
      refine wpAnyH_ready (rs := [6]) (by kernel_rfl) (by simp) ?_
      refine AllReadyH.cons (o := ⟨some 34, _, _, _, _, _⟩) rfl (fun K hK => ?_) AllReadyH.nil
      go_simp
      refine (C2.out _ (HT.out.keep s1b.2.2.2.2.2.2.2.2.2.2)).mono ?_; rintro e2 w2 ⟨rfl, k2⟩; have s2 : w2.cell? ⟨w.heap.size, 0, none⟩ = some (.int .i64 W) ∧ w2.cell? ⟨w.heap.size, 1, none⟩ = some (.int .i64 H) ∧ w2.cell? ⟨w.heap.size, 2, none⟩ = some (t) ∧ w2.cell? ⟨w.heap.size, 3, none⟩ = some (r) ∧ w2.cell? ⟨w.heap.size, 4, none⟩ = some (d) ∧ w2.cell? ⟨w.heap.size + 1, 0, none⟩ = some (.int .i64 H) ∧ w2.cell? ⟨w.heap.size + 1, 1, none⟩ = some (.int .i64 W) ∧ w2.cell? ⟨w.heap.size + 1, 2, none⟩ = some (t2) ∧ w2.cell? ⟨w.heap.size + 1, 3, none⟩ = some (r2) ∧ w2.cell? ⟨w.heap.size + 1, 4, none⟩ = some (d2) ∧ Kp w w2 := ⟨k2.cell s1b.1, k2.cell s1b.2.1, k2.cell s1b.2.2.1, k2.cell s1b.2.2.2.1, k2.cell s1b.2.2.2.2.1, k2.cell s1b.2.2.2.2.2.1, k2.cell s1b.2.2.2.2.2.2.1, k2.cell s1b.2.2.2.2.2.2.2.1, k2.cell s1b.2.2.2.2.2.2.2.2.1, k2.cell s1b.2.2.2.2.2.2.2.2.2.1, s1b.2.2.2.2.2.2.2.2.2.2.trans k2⟩; have k02 := Lib.hid (k01.out.trans k2)
      go_wp2_with fail
      refine hK.out _ _ ?_ (fun hHeld => ?_)
      · (try dsimp only); (first | assumption | exact s2 | exact s1b | exact s1)
      clear hK K
      try simp only [Act.put, List.setIfInBounds_toArray, List.set_cons_zero, List.set_cons_succ]
      refine wpAnyH_take (i := 7) (oi := ⟨some 27, _, _, _, _, _⟩) (v := ?_) rfl (by kernel_rfl) (by kernel_rfl) (by kernel_rfl) (fun _ _ _ h => h) (Or.inl ⟨by rfl, ?_⟩) (by assumption) ?_
      rotate_left
      · intro w hSw; (try dsimp only at hSw); go_simp; (all_goals with_reducible rfl)
      simp only [Act.put, List.setIfInBounds_toArray, List.set_cons_zero, List.set_cons_succ]
      refine wpAnyH_take (i := 8) (oi := ⟨some 35, _, _, _, _, _⟩) (v := ?_) rfl (by kernel_rfl) (by kernel_rfl) (by kernel_rfl) (fun _ _ _ h => h) (Or.inl ⟨by rfl, ?_⟩) (by assumption) ?_
      rotate_left
      · intro w hSw; (try dsimp only at hSw); go_simp; (all_goals with_reducible rfl)
      simp only [Act.put, List.setIfInBounds_toArray, List.set_cons_zero, List.set_cons_succ]
      refine wpAnyH_take (i := 9) (oi := ⟨some 36, _, _, _, _, _⟩) (v := ?_) rfl (by kernel_rfl) (by kernel_rfl) (by kernel_rfl) (fun _ _ _ h => h) (Or.inl ⟨by rfl, ?_⟩) (by assumption) ?_
      rotate_left
      · intro w hSw; (try dsimp only at hSw); go_simp; (all_goals with_reducible rfl)
      simp only [Act.put, List.setIfInBounds_toArray, List.set_cons_zero, List.set_cons_succ]
      refine wpAnyH_take (i := 10) (oi := ⟨some 12, _, _, _, _, _⟩) (v := ?_) rfl (by kernel_rfl) (by kernel_rfl) (by kernel_rfl) (fun _ _ _ h => h) (Or.inl ⟨by rfl, ?_⟩) (by assumption) ?_
      rotate_left
      · intro w hSw; (try dsimp only at hSw); go_simp; (all_goals with_reducible rfl)
      simp only [Act.put, List.setIfInBounds_toArray, List.set_cons_zero, List.set_cons_succ]
      refine wpAnyH_take (i := 11) (oi := ⟨some 13, _, _, _, _, _⟩) (v := ?_) rfl (by kernel_rfl) (by kernel_rfl) (by kernel_rfl) (fun _ _ _ h => h) (Or.inl ⟨by rfl, ?_⟩) (by assumption) ?_
      rotate_left
      · intro w hSw; (try dsimp only at hSw); go_simp; (all_goals with_reducible rfl)
      simp only [Act.put, List.setIfInBounds_toArray, List.set_cons_zero, List.set_cons_succ]
      refine wpAnyH_done (by kernel_rfl) ?_ _
      have HO2 := Lib.hid (HO.out.keep k02.out)
      have n0 := Lib.hid (HO2.out.not (g := w.heap.size) (by omega))
      have n1 := Lib.hid (HO2.out.not (g := w.heap.size + 1) (by omega))
      have hbz := cell_lt s2.2.2.2.2.2.1
      clear s1 s1b k01 k02 sr kr HO
      go_wp2_with (at_builtin; refine wpList_append_own_at _ rfl (.tmp 37) (.tmp 39) 26 rfl (w.heap.size + 2) 3 j0 (.int .i64 0) 1 8 Tryz.underlying26 hj0 hz0 hs0 hb0 rfl (by decide) _ (NL).length (cellsI (NL)) rfl (World.ownsRow.alloc HO2.out _) ⟨w2.heap.size, 0, none⟩ 1 1 [.int .i64 E] rfl rfl (one_cell _ _ _) (by simp [Value.oneCell']) (by have := hln.out; simp only [maxLen]; omega) (by have := hln.out; omega) (by simp; omega) ?_; intro v' w3 hown2 hgrow2 hnil2 hat2; clear hnil2 hat2; have s5 : w3.cell? ⟨w.heap.size, 0, none⟩ = some (.int .i64 W) ∧ w3.cell? ⟨w.heap.size, 1, none⟩ = some (.int .i64 H) ∧ w3.cell? ⟨w.heap.size, 2, none⟩ = some (t) ∧ w3.cell? ⟨w.heap.size, 3, none⟩ = some (r) ∧ w3.cell? ⟨w.heap.size, 4, none⟩ = some (d) ∧ w3.cell? ⟨w.heap.size + 1, 0, none⟩ = some (.int .i64 H) ∧ w3.cell? ⟨w.heap.size + 1, 1, none⟩ = some (.int .i64 W) ∧ w3.cell? ⟨w.heap.size + 1, 2, none⟩ = some (t2) ∧ w3.cell? ⟨w.heap.size + 1, 3, none⟩ = some (r2) ∧ w3.cell? ⟨w.heap.size + 1, 4, none⟩ = some (d2) ∧ Kp w w3 := ⟨hgrow2.cell (((Kp.refl w2).alloc (.cells #[.int .i64 E] 3)).cell s2.1) (fun e => n0.out e.symm), hgrow2.cell (((Kp.refl w2).alloc (.cells #[.int .i64 E] 3)).cell s2.2.1) (fun e => n0.out e.symm), hgrow2.cell (((Kp.refl w2).alloc (.cells #[.int .i64 E] 3)).cell s2.2.2.1) (fun e => n0.out e.symm), hgrow2.cell (((Kp.refl w2).alloc (.cells #[.int .i64 E] 3)).cell s2.2.2.2.1) (fun e => n0.out e.symm), hgrow2.cell (((Kp.refl w2).alloc (.cells #[.int .i64 E] 3)).cell s2.2.2.2.2.1) (fun e => n0.out e.symm), hgrow2.cell (((Kp.refl w2).alloc (.cells #[.int .i64 E] 3)).cell s2.2.2.2.2.2.1) (fun e => n1.out e.symm), hgrow2.cell (((Kp.refl w2).alloc (.cells #[.int .i64 E] 3)).cell s2.2.2.2.2.2.2.1) (fun e => n1.out e.symm), hgrow2.cell (((Kp.refl w2).alloc (.cells #[.int .i64 E] 3)).cell s2.2.2.2.2.2.2.2.1) (fun e => n1.out e.symm), hgrow2.cell (((Kp.refl w2).alloc (.cells #[.int .i64 E] 3)).cell s2.2.2.2.2.2.2.2.2.1) (fun e => n1.out e.symm), hgrow2.cell (((Kp.refl w2).alloc (.cells #[.int .i64 E] 3)).cell s2.2.2.2.2.2.2.2.2.2.1) (fun e => n1.out e.symm), (s2.2.2.2.2.2.2.2.2.2.2.alloc _).grown hgrow2 (fun k e => by have := (World.ownsRow.lt HO2.out k e).1; omega)⟩; have O3 := Lib.hid (OwnI.snoc (x := E) hown2); clear hown2 hgrow2)
      go_roundw
      case rel => exact ⟨q + 1, by omega, by go_num, by rw [HS.out]; exact O3.out, s5⟩
      case measure => simp [intOf]; omega
    · obtain rfl : q = n := by omega
      have et : l.take q = l := List.take_of_length_le (by have := HN.out; omega)
      rw [et] at hoR
      have HO := Lib.hid hoR
      have hlm : (l.map (mirE W H)).length ≤ 1048576 := by have := HN.out; simp; omega
      clear hoR
      go_wp2_with fail
      refine (sort_own _ (l.map (mirE W H)) (w.heap.size + 2) _ HO.out hlm).mono ?_
      rintro e3 w3 ⟨rfl, o3, g3⟩
      have K3 : Kp w w3 := sr.2.2.2.2.2.2.2.2.2.2.grown g3 (fun k e => by have := (World.ownsRow.lt HO.out k e).1; omega)
      have O3 := Lib.hid o3
      clear o3 g3
      go_wp2_with fail
      go_ret
      exact ⟨_, rfl, O3.out, K3⟩

end Go.Proofs.YtmolpkjdjkhnpaaGreatDoor

/-
  The mirrored map, as the program and as the reference tell: three lists in memory of their own, or none. Nothing that was there is changed.
-/
namespace Go.Proofs.YtmolpkjdjkhnpaaGreatDoor
open Go.RowKit

/-- A new map and true, or none and false. -/
def MapPost (b : Bool) (W H : Int) (lt lr ld : List Int) (w : World) (e : Ending) (w' : World) : Prop := ∃ t r d, e = .returned (.tuple #[mp W H t r d, .bool b]) ∧ Own3 w' w.heap.size t r d lt lr ld ∧ Kp w w'
theorem own3_nil (w : World) (base : Nat) : Own3 w base (.slice none 0 0) (.slice none 0 0) (.slice none 0 0) [] [] [] :=
  ⟨World.ownsRow_nil w base _ 1, World.ownsRow_nil w base _ 1, World.ownsRow_nil w base _ 1, fun g e => (by cases e), fun g e => (by cases e), fun g e => (by cases e)⟩
theorem Own3.base' {w : World} {base b : Nat} {t r d : Value} {lt lr ld : List Int} (h : Own3 w base t r d lt lr ld) (hb : b ≤ base) : Own3 w b t r d lt lr ld :=
  ⟨h.ot.base hb, h.or.base hb, h.od.base hb, h.tr, h.td, h.rd⟩
theorem mapOk_pt {W H : Int} {lt lr ld : List Int} (h : mapOk W H lt lr ld = true) : (1 ≤ W ∧ W ≤ 10 ∧ 1 ≤ H ∧ H ≤ 10) ∧ (lt.length : Int) = W * H ∧ edgesOk W H lr = true ∧ edgesOk W H ld = true := by
  simp only [mapOk, Bool.and_eq_true, decide_eq_true_iff] at h
  exact ⟨⟨(sideB_true h.1).1, (sideB_true h.1).2, (sideB_true h.2.1).1, (sideB_true h.2.1).2⟩, h.2.2.1, h.2.2.2.2.1, h.2.2.2.2.2⟩

set_option maxRecDepth 100000 in
set_option maxHeartbeats 4000000 in
theorem mirrorMap_no (W H : Int) (t r d : Value) (lt lr ld : List Int) (w : World) (ht : Tab w) (hL : Lists w t r d lt lr ld) (hok : mapOk W H lt lr ld = false) :
    Calls Tryz.prog 19 #[mp W H t r d] w (MapPost false 0 0 [] [] [] w) := by
  have KA : Kp w ((w.alloc (.cells #[.int .i64 W, .int .i64 H, t, r, d] 36)).alloc (.cells #[.int .i64 0, .int .i64 0, .slice none 0 0, .slice none 0 0, .slice none 0 0] 36)) := ((Kp.refl w).alloc _).alloc _
  have CI := Lib.hid (isMap_any W H t r d lt lr ld _ (ht.keep KA) (hL.keep KA))
  rw [hok] at CI
  clear ht hL hok
  go_enter Tryz.func19, Tryz.ntmps19
  go_wp2_with fail
  refine CI.out.mono ?_
  rintro e0 wa ⟨rfl, ka⟩
  have L0 : Live5 wa (w.heap.size + 1) (.int .i64 0) (.int .i64 0) (.slice none 0 0) (.slice none 0 0) (.slice none 0 0) := live5_keep ka ⟨by simp [go_sem], by simp [go_sem], by simp [go_sem], by simp [go_sem], by simp [go_sem]⟩
  have K0 : Kp w wa := KA.trans ka
  clear ka CI KA
  go_wp2_with fail
  refine bodyPost_ret (v := .tuple #[mp 0 0 (.slice none 0 0) (.slice none 0 0) (.slice none 0 0), .bool false]) (by simp [results, Tryz.results19, go_sem, *]) rfl ⟨_, _, _, rfl, own3_nil _ _, ?_⟩
  exact ((((K0.setCell (show w.heap.size ≤ w.heap.size + 1 by omega) _).setCell (show w.heap.size ≤ w.heap.size + 1 by omega) _).setCell (show w.heap.size ≤ w.heap.size + 1 by omega) _).setCell (show w.heap.size ≤ w.heap.size + 1 by omega) _).setCell (show w.heap.size ≤ w.heap.size + 1 by omega) _

set_option maxRecDepth 100000 in
set_option maxHeartbeats 4000000 in
theorem mirrorMap_yes (W H : Int) (t r d : Value) (lt lr ld : List Int) (w : World) (ht : Tab w) (hL : Lists w t r d lt lr ld) (hok : mapOk W H lt lr ld = true) :
    Calls Tryz.prog 19 #[mp W H t r d] w (MapPost true H W (mirT W H lt lt.length lt.length) ((lr.map (mirE W H)).mergeSort fun x y => decide (x ≤ y)) ((ld.map (mirE W H)).mergeSort fun x y => decide (x ≤ y)) w) := by
  obtain ⟨⟨a, b, c, e⟩, hn, hr, hd⟩ := mapOk_pt hok
  have hA := area_bd a b c e
  have HT := Lib.hid ht
  obtain ⟨At, ct, rfl, hct⟩ := hL.rt
  obtain ⟨Ar, cr, rfl, _⟩ := hL.rr
  obtain ⟨Ad, cd, rfl, _⟩ := hL.rd
  obtain ⟨n, hnt⟩ : ∃ n, lt.length = n := ⟨_, rfl⟩
  obtain ⟨nr, hnr⟩ : ∃ n, lr.length = n := ⟨_, rfl⟩
  obtain ⟨nd, hnd⟩ : ∃ n, ld.length = n := ⟨_, rfl⟩
  rw [hnt, hnr, hnd] at hL
  rw [hnt] at hct
  rw [hnr, hnd]
  have HCT := Lib.hid hct
  have HR := Lib.hid hr
  have HD := Lib.hid hd
  have KA : Kp w ((w.alloc (.cells #[.int .i64 W, .int .i64 H, .slice At n ct, .slice Ar nr cr, .slice Ad nd cd] 36)).alloc (.cells #[.int .i64 0, .int .i64 0, .slice none 0 0, .slice none 0 0, .slice none 0 0] 36)) := ((Kp.refl w).alloc _).alloc _
  have CI := Lib.hid (isMap_any W H _ _ _ lt lr ld _ (ht.keep KA) (hL.keep KA))
  rw [hok] at CI
  clear hct hnr hnd hok ht
  have hn0 : n ≤ 100 := by omega
  have HN : Hid ((n : Int) = W * H) := Lib.hid (by rw [← hn, hnt])
  have HNt := Lib.hid hnt
  rw [hnt]
  have CS : Hid (∀ w, Calls Tryz.prog 42 #[mp W H (.slice At n ct) (.slice Ar nr cr) (.slice Ad nd cd)] w fun e w' => e = .returned (.int .i64 (n : Int)) ∧ Kp w w') := Lib.hid fun w => by
    rw [HN.out]
    exact countHexes_any W H _ _ _ w a b c e
  have HL := Lib.hid hL
  have HA := Lib.hid hA
  obtain ⟨x, hx⟩ : ∃ x, x = mirT W H lt n n := ⟨_, rfl⟩
  obtain ⟨y, hy⟩ : ∃ y, y = ((lr.map (mirE W H)).mergeSort fun x y => decide (x ≤ y)) := ⟨_, rfl⟩
  obtain ⟨z, hz⟩ : ∃ z, z = ((ld.map (mirE W H)).mergeSort fun x y => decide (x ≤ y)) := ⟨_, rfl⟩
  rw [← hx, ← hy, ← hz]
  have HX := Lib.hid hx
  have HY := Lib.hid hy
  have HZ := Lib.hid hz
  have hmk := fun w => mkInts n (by omega) w
  clear hL hn hnt hA hx hy hz hr hd
  go_enter Tryz.func19, Tryz.ntmps19
  go_wp2_with fail
  refine CI.out.mono ?_
  rintro e0 wa ⟨rfl, ka⟩
  have z0 : w.heap.size + 2 ≤ wa.heap.size := by have := ka.size; simp at this; omega
  have m0 : wa.cell? ⟨w.heap.size, 0, none⟩ = some (.int .i64 W) ∧ wa.cell? ⟨w.heap.size, 1, none⟩ = some (.int .i64 H) ∧ wa.cell? ⟨w.heap.size, 2, none⟩ = some (.slice At n ct) ∧ wa.cell? ⟨w.heap.size, 3, none⟩ = some (.slice Ar nr cr) ∧ wa.cell? ⟨w.heap.size, 4, none⟩ = some (.slice Ad nd cd) := ⟨ka.cell (by simp [go_sem]), ka.cell (by simp [go_sem]), ka.cell (by simp [go_sem]), ka.cell (by simp [go_sem]), ka.cell (by simp [go_sem])⟩
  have L0 : Live5 wa (w.heap.size + 1) (.int .i64 0) (.int .i64 0) (.slice none 0 0) (.slice none 0 0) (.slice none 0 0) := live5_keep ka ⟨by simp [go_sem], by simp [go_sem], by simp [go_sem], by simp [go_sem], by simp [go_sem]⟩
  have K0 : Kp w wa := KA.trans ka
  have nb1 : w.heap.size < wa.heap.size := by omega
  have nb2 : w.heap.size + 1 < wa.heap.size := by omega
  have n1 : ¬ wa.heap.size = w.heap.size := by omega
  have n2 : ¬ w.heap.size = wa.heap.size := by omega
  have n3 : ¬ wa.heap.size = w.heap.size + 1 := by omega
  have n4 : ¬ w.heap.size + 1 = wa.heap.size := by omega
  clear ka CI KA
  go_upto_region 3 with fail
  go_cut [4] from 10 to 17 (fun s4 wx => ∃ g tb : Nat, s4 = .pointer (some ⟨g, 0, none⟩) ∧ g ≠ tb ∧ w.heap.size + 2 ≤ g ∧ Live5 wx g (.int .i64 H) (.int .i64 W) (.slice (some ⟨tb, 0, none⟩) n n) (.slice none 0 0) (.slice none 0 0) ∧ OwnI wx (w.heap.size + 2) (.slice (some ⟨tb, 0, none⟩) n n) (List.replicate n 0) ∧ Live5 wx (w.heap.size + 1) (.int .i64 0) (.int .i64 0) (.slice none 0 0) (.slice none 0 0) (.slice none 0 0) ∧ (wx.cell? ⟨w.heap.size, 0, none⟩ = some (.int .i64 W) ∧ wx.cell? ⟨w.heap.size, 1, none⟩ = some (.int .i64 H) ∧ wx.cell? ⟨w.heap.size, 2, none⟩ = some (.slice At n ct) ∧ wx.cell? ⟨w.heap.size, 3, none⟩ = some (.slice Ar nr cr) ∧ wx.cell? ⟨w.heap.size, 4, none⟩ = some (.slice Ad nd cd)) ∧ Kp w wx)
  case first =>
    refine wp_region_held_drew (S := (fun w' => w'.cell? ⟨w.heap.size, 0, none⟩ = some (.int .i64 W) ∧ w'.cell? ⟨w.heap.size, 1, none⟩ = some (.int .i64 H) ∧ w'.cell? ⟨w.heap.size, 2, none⟩ = some (.slice At n ct) ∧ w'.cell? ⟨w.heap.size, 3, none⟩ = some (.slice Ar nr cr) ∧ w'.cell? ⟨w.heap.size, 4, none⟩ = some (.slice Ad nd cd))) (by kernel_rfl) ?_ (fun hHeld => ?_)
    · simp [go_sem, *]
    refine wpAnyH_take (i := 0) (oi := ⟨some 10, _, _, _, _, _⟩) (v := ?_) rfl (by kernel_rfl) (by kernel_rfl) (by kernel_rfl) (fun _ _ _ h => h) (Or.inl ⟨by rfl, ?_⟩) (by assumption) ?_
    rotate_left
    · intro w hSw; (try dsimp only at hSw); go_simp; (all_goals with_reducible rfl)
    simp only [Act.put, List.setIfInBounds_toArray, List.set_cons_zero, List.set_cons_succ]
    refine wpAnyH_take (i := 1) (oi := ⟨some 11, _, _, _, _, _⟩) (v := ?_) rfl (by kernel_rfl) (by kernel_rfl) (by kernel_rfl) (fun _ _ _ h => h) (Or.inl ⟨by rfl, ?_⟩) (by assumption) ?_
    rotate_left
    · intro w hSw; (try dsimp only at hSw); go_simp; (all_goals with_reducible rfl)
    simp only [Act.put, List.setIfInBounds_toArray, List.set_cons_zero, List.set_cons_succ]
    refine wpAnyH_take (i := 2) (oi := ⟨some 12, _, _, _, _, _⟩) (v := ?_) rfl (by kernel_rfl) (by kernel_rfl) (by kernel_rfl) (fun _ _ _ h => h) (Or.inl ⟨by rfl, ?_⟩) (by assumption) ?_
    rotate_left
    · intro w hSw; (try dsimp only at hSw); go_simp; (all_goals with_reducible rfl)
    simp only [Act.put, List.setIfInBounds_toArray, List.set_cons_zero, List.set_cons_succ]
    refine wpAnyH_take (i := 3) (oi := ⟨some 13, _, _, _, _, _⟩) (v := ?_) rfl (by kernel_rfl) (by kernel_rfl) (by kernel_rfl) (fun _ _ _ h => h) (Or.inl ⟨by rfl, ?_⟩) (by assumption) ?_
    rotate_left
    · intro w hSw; (try dsimp only at hSw); go_simp; (all_goals with_reducible rfl)
    simp only [Act.put, List.setIfInBounds_toArray, List.set_cons_zero, List.set_cons_succ]
    refine wpAnyH_take (i := 4) (oi := ⟨some 14, _, _, _, _, _⟩) (v := ?_) rfl (by kernel_rfl) (by kernel_rfl) (by kernel_rfl) (fun _ _ _ h => h) (Or.inl ⟨by rfl, ?_⟩) (by assumption) ?_
    rotate_left
    · intro w hSw; (try dsimp only at hSw); go_simp; (all_goals with_reducible rfl)
    simp only [Act.put, List.setIfInBounds_toArray, List.set_cons_zero, List.set_cons_succ]
    refine wpAnyH_ready (rs := [5, 8]) (by kernel_rfl) (by simp) ?_
    refine (AllReadyH.cons (o := ⟨some 15, _, _, _, _, _⟩) rfl (fun K hK => ?_) (AllReadyH.cons (o := ⟨some 4, _, _, _, _, _⟩) rfl (fun K hK => ?_) AllReadyH.nil))
    · go_simp
      refine (CS.out _).mono ?_
      rintro e1 w1 ⟨rfl, k1⟩
      have z1 := k1.size
      (try simp at z1)
      have m1 : w1.cell? ⟨w.heap.size, 0, none⟩ = some (.int .i64 W) ∧ w1.cell? ⟨w.heap.size, 1, none⟩ = some (.int .i64 H) ∧ w1.cell? ⟨w.heap.size, 2, none⟩ = some (.slice At n ct) ∧ w1.cell? ⟨w.heap.size, 3, none⟩ = some (.slice Ar nr cr) ∧ w1.cell? ⟨w.heap.size, 4, none⟩ = some (.slice Ad nd cd) := ⟨k1.cell (by simp [go_sem, *]), k1.cell (by simp [go_sem, *]), k1.cell (by simp [go_sem, *]), k1.cell (by simp [go_sem, *]), k1.cell (by simp [go_sem, *])⟩
      have Lr : Live5 w1 (w.heap.size + 1) (.int .i64 0) (.int .i64 0) (.slice none 0 0) (.slice none 0 0) (.slice none 0 0) := live5_keep k1 ⟨by simp [go_sem, *], by simp [go_sem, *], by simp [go_sem, *], by simp [go_sem, *], by simp [go_sem, *]⟩
      have nb3 : w.heap.size < w1.heap.size := by omega
      have nb4 : w.heap.size + 1 < w1.heap.size := by omega
      go_wp2_with fail
      refine hK.out _ _ (by simp [go_sem, *]) (fun hHeld => ?_)
      clear hK K
      try simp only [Act.put, List.setIfInBounds_toArray, List.set_cons_zero, List.set_cons_succ]
      refine wpAnyH_ready (rs := [6, 8]) (by kernel_rfl) (by simp) ?_
      refine (AllReadyH.cons (o := ⟨some 16, _, _, _, _, _⟩) rfl (fun K hK => ?_) (AllReadyH.cons (o := ⟨some 4, _, _, _, _, _⟩) rfl (fun K hK => ?_) AllReadyH.nil))
      · go_simp
        go_wp2_with fail
        refine hK.out _ _ (by simp [go_sem, *]) (fun hHeld => ?_)
        clear hK K
        try simp only [Act.put, List.setIfInBounds_toArray, List.set_cons_zero, List.set_cons_succ]
        refine wpAnyH_take (i := 7) (oi := ⟨some 17, _, _, _, _, _⟩) (v := ?_) rfl (by kernel_rfl) (by kernel_rfl) (by kernel_rfl) (fun _ _ _ h => h) (Or.inl ⟨by rfl, ?_⟩) (by assumption) ?_
        rotate_left
        · intro w hSw; (try dsimp only at hSw); go_simp; (all_goals with_reducible rfl)
        simp only [Act.put, List.setIfInBounds_toArray, List.set_cons_zero, List.set_cons_succ]
        refine wpAnyH_ready (rs := [8]) (by kernel_rfl) (by simp) ?_
        refine (AllReadyH.cons (o := ⟨some 4, _, _, _, _, _⟩) rfl (fun K hK => ?_) AllReadyH.nil)
        · go_simp
          go_wp2_with fail
          refine hK.out _ _ (by simp [go_sem, *]) (fun hHeld => ?_)
          clear hK K
          try simp only [Act.put, List.setIfInBounds_toArray, List.set_cons_zero, List.set_cons_succ]
          refine wpAnyH_ready (rs := [9]) (by kernel_rfl) (by simp) ?_
          refine AllReadyH.cons (o := ⟨none, _, _, _, _, _⟩) rfl (fun K hK => ?_) AllReadyH.nil
          go_simp
          go_wp2_with fail
          refine hK.out _ _ (by simp [go_sem, *]) (fun hHeld => ?_)
          clear hK K
          try simp only [Act.put, List.setIfInBounds_toArray, List.set_cons_zero, List.set_cons_succ]
          refine wpAnyH_done (by kernel_rfl) ?_ _
          go_wp2_with fail
          go_meet
          have KD : Kp w _ := K0.drew.trans k1
          refine ⟨w1.heap.size + 1, w1.heap.size, rfl, by omega, by omega, ⟨by simp [go_sem, *], by simp [go_sem, *], by simp [go_sem, *], by simp [go_sem, *], by simp [go_sem, *]⟩, ?_, ⟨by simp [go_sem, *], by simp [go_sem, *], by simp [go_sem, *], by simp [go_sem, *], by simp [go_sem, *]⟩, ⟨by simp [go_sem, *], by simp [go_sem, *], by simp [go_sem, *], by simp [go_sem, *], by simp [go_sem, *]⟩, ?_⟩
          · exact ((ownI_zero w1 n (by omega)).keep ((Kp.refl _).alloc _)).base (by omega)
          · exact (KD.alloc _).alloc _
      · go_simp
        go_wp2_with fail
        refine hK.out _ _ (by simp [go_sem, *]) (fun hHeld => ?_)
        clear hK K
        try simp only [Act.put, List.setIfInBounds_toArray, List.set_cons_zero, List.set_cons_succ]
        refine wpAnyH_ready (rs := [6]) (by kernel_rfl) (by simp) ?_
        refine (AllReadyH.cons (o := ⟨some 16, _, _, _, _, _⟩) rfl (fun K hK => ?_) AllReadyH.nil)
        · go_simp
          go_wp2_with fail
          refine hK.out _ _ (by simp [go_sem, *]) (fun hHeld => ?_)
          clear hK K
          try simp only [Act.put, List.setIfInBounds_toArray, List.set_cons_zero, List.set_cons_succ]
          refine wpAnyH_take (i := 7) (oi := ⟨some 17, _, _, _, _, _⟩) (v := ?_) rfl (by kernel_rfl) (by kernel_rfl) (by kernel_rfl) (fun _ _ _ h => h) (Or.inl ⟨by rfl, ?_⟩) (by assumption) ?_
          rotate_left
          · intro w hSw; (try dsimp only at hSw); go_simp; (all_goals with_reducible rfl)
          simp only [Act.put, List.setIfInBounds_toArray, List.set_cons_zero, List.set_cons_succ]
          refine wpAnyH_ready (rs := [9]) (by kernel_rfl) (by simp) ?_
          refine AllReadyH.cons (o := ⟨none, _, _, _, _, _⟩) rfl (fun K hK => ?_) AllReadyH.nil
          go_simp
          go_wp2_with fail
          refine hK.out _ _ (by simp [go_sem, *]) (fun hHeld => ?_)
          clear hK K
          try simp only [Act.put, List.setIfInBounds_toArray, List.set_cons_zero, List.set_cons_succ]
          refine wpAnyH_done (by kernel_rfl) ?_ _
          go_wp2_with fail
          go_meet
          have KD : Kp w _ := K0.drew.trans k1
          refine ⟨w1.heap.size, w1.heap.size + 1, rfl, by omega, by omega, ⟨by simp [go_sem, *], by simp [go_sem, *], by simp [go_sem, *], by simp [go_sem, *], by simp [go_sem, *]⟩, ?_, ⟨by simp [go_sem, *], by simp [go_sem, *], by simp [go_sem, *], by simp [go_sem, *], by simp [go_sem, *]⟩, ⟨by simp [go_sem, *], by simp [go_sem, *], by simp [go_sem, *], by simp [go_sem, *], by simp [go_sem, *]⟩, ?_⟩
          · have o := ownI_zero (w1.alloc (.cells #[.int .i64 H, .int .i64 W, .slice (some ⟨w1.heap.size + 1, 0, none⟩) n n, .slice none 0 0, .slice none 0 0] 36)) n (by omega); simp only [World.size_alloc] at o; exact o.base (by omega)
          · exact (KD.alloc _).alloc _
    · go_simp
      go_wp2_with fail
      refine hK.out _ _ (by simp [go_sem, *]) (fun hHeld => ?_)
      clear hK K
      try simp only [Act.put, List.setIfInBounds_toArray, List.set_cons_zero, List.set_cons_succ]
      refine wpAnyH_ready (rs := [5]) (by kernel_rfl) (by simp) ?_
      refine (AllReadyH.cons (o := ⟨some 15, _, _, _, _, _⟩) rfl (fun K hK => ?_) AllReadyH.nil)
      · go_simp
        refine (CS.out _).mono ?_
        rintro e1 w1 ⟨rfl, k1⟩
        have z1 := k1.size
        (try simp at z1)
        have m1 : w1.cell? ⟨w.heap.size, 0, none⟩ = some (.int .i64 W) ∧ w1.cell? ⟨w.heap.size, 1, none⟩ = some (.int .i64 H) ∧ w1.cell? ⟨w.heap.size, 2, none⟩ = some (.slice At n ct) ∧ w1.cell? ⟨w.heap.size, 3, none⟩ = some (.slice Ar nr cr) ∧ w1.cell? ⟨w.heap.size, 4, none⟩ = some (.slice Ad nd cd) := ⟨k1.cell (by simp [go_sem, *]), k1.cell (by simp [go_sem, *]), k1.cell (by simp [go_sem, *]), k1.cell (by simp [go_sem, *]), k1.cell (by simp [go_sem, *])⟩
        have Lr : Live5 w1 (w.heap.size + 1) (.int .i64 0) (.int .i64 0) (.slice none 0 0) (.slice none 0 0) (.slice none 0 0) := live5_keep k1 ⟨by simp [go_sem, *], by simp [go_sem, *], by simp [go_sem, *], by simp [go_sem, *], by simp [go_sem, *]⟩
        have nb3 : w.heap.size < w1.heap.size := by omega
        have nb4 : w.heap.size + 1 < w1.heap.size := by omega
        have L1 : Live5 w1 wa.heap.size (.int .i64 0) (.int .i64 0) (.slice none 0 0) (.slice none 0 0) (.slice none 0 0) := live5_keep k1 ⟨by simp [go_sem, *], by simp [go_sem, *], by simp [go_sem, *], by simp [go_sem, *], by simp [go_sem, *]⟩
        have nb5 : wa.heap.size < w1.heap.size := by omega
        go_wp2_with fail
        refine hK.out _ _ (by simp [go_sem, *]) (fun hHeld => ?_)
        clear hK K
        try simp only [Act.put, List.setIfInBounds_toArray, List.set_cons_zero, List.set_cons_succ]
        refine wpAnyH_ready (rs := [6]) (by kernel_rfl) (by simp) ?_
        refine (AllReadyH.cons (o := ⟨some 16, _, _, _, _, _⟩) rfl (fun K hK => ?_) AllReadyH.nil)
        · go_simp
          go_wp2_with fail
          refine hK.out _ _ (by simp [go_sem, *]) (fun hHeld => ?_)
          clear hK K
          try simp only [Act.put, List.setIfInBounds_toArray, List.set_cons_zero, List.set_cons_succ]
          refine wpAnyH_take (i := 7) (oi := ⟨some 17, _, _, _, _, _⟩) (v := ?_) rfl (by kernel_rfl) (by kernel_rfl) (by kernel_rfl) (fun _ _ _ h => h) (Or.inl ⟨by rfl, ?_⟩) (by assumption) ?_
          rotate_left
          · intro w hSw; (try dsimp only at hSw); go_simp; (all_goals with_reducible rfl)
          simp only [Act.put, List.setIfInBounds_toArray, List.set_cons_zero, List.set_cons_succ]
          refine wpAnyH_ready (rs := [9]) (by kernel_rfl) (by simp) ?_
          refine AllReadyH.cons (o := ⟨none, _, _, _, _, _⟩) rfl (fun K hK => ?_) AllReadyH.nil
          go_simp
          go_wp2_with fail
          refine hK.out _ _ (by simp [go_sem, *]) (fun hHeld => ?_)
          clear hK K
          try simp only [Act.put, List.setIfInBounds_toArray, List.set_cons_zero, List.set_cons_succ]
          refine wpAnyH_done (by kernel_rfl) ?_ _
          go_wp2_with fail
          go_meet
          have KD : Kp w _ := (K0.drew.alloc _).trans k1
          refine ⟨wa.heap.size, w1.heap.size, rfl, by omega, by omega, ⟨by simp [go_sem, *], by simp [go_sem, *], by simp [go_sem, *], by simp [go_sem, *], by simp [go_sem, *]⟩, ?_, ⟨by simp [go_sem, *], by simp [go_sem, *], by simp [go_sem, *], by simp [go_sem, *], by simp [go_sem, *]⟩, ⟨by simp [go_sem, *], by simp [go_sem, *], by simp [go_sem, *], by simp [go_sem, *], by simp [go_sem, *]⟩, ?_⟩
          · have o := ownI_zero (((((w1.setCell ⟨wa.heap.size, 0, none⟩ (.int .i64 H)).setCell ⟨wa.heap.size, 1, none⟩ (.int .i64 W)).setCell ⟨wa.heap.size, 2, none⟩ (.slice (some ⟨w1.heap.size, 0, none⟩) n n)).setCell ⟨wa.heap.size, 3, none⟩ (.slice none 0 0)).setCell ⟨wa.heap.size, 4, none⟩ (.slice none 0 0)) n (by omega); simp only [World.size_setCell] at o; exact o.base (by omega)
          · exact (((((KD.setCell (show w.heap.size ≤ wa.heap.size by omega) _).setCell (show w.heap.size ≤ wa.heap.size by omega) _).setCell (show w.heap.size ≤ wa.heap.size by omega) _).setCell (show w.heap.size ≤ wa.heap.size by omega) _).setCell (show w.heap.size ≤ wa.heap.size by omega) _).alloc _
  case rest =>
    obtain ⟨g, tb, rfl, hne, hg2, LG, OT, LR, sM, KM⟩ := hcut
    go_wp2_with fail
    refine (CS.out _).mono ?_
    rintro e1 wb ⟨rfl, kb⟩
    replace LG := live5_keep kb LG
    replace OT := OT.keep kb
    replace LR := live5_keep kb LR
    replace sM : wb.cell? ⟨w.heap.size, 0, none⟩ = some (.int .i64 W) ∧ wb.cell? ⟨w.heap.size, 1, none⟩ = some (.int .i64 H) ∧ wb.cell? ⟨w.heap.size, 2, none⟩ = some (.slice At n ct) ∧ wb.cell? ⟨w.heap.size, 3, none⟩ = some (.slice Ar nr cr) ∧ wb.cell? ⟨w.heap.size, 4, none⟩ = some (.slice Ad nd cd) := ⟨kb.cell sM.1, kb.cell sM.2.1, kb.cell sM.2.2.1, kb.cell sM.2.2.2.1, kb.cell sM.2.2.2.2⟩
    replace KM := KM.trans kb
    clear kb
    go_wp2_with fail
    go_loopw [5, 20] (fun _ sq wx => ∃ q : Nat, q ≤ n ∧ sq = .int .i64 q ∧ Live5 wx g (.int .i64 H) (.int .i64 W) (.slice (some ⟨tb, 0, none⟩) n n) (.slice none 0 0) (.slice none 0 0) ∧ OwnI wx (w.heap.size + 2) (.slice (some ⟨tb, 0, none⟩) n n) (mirT W H lt n q) ∧ Live5 wx (w.heap.size + 1) (.int .i64 0) (.int .i64 0) (.slice none 0 0) (.slice none 0 0) (.slice none 0 0) ∧ (wx.cell? ⟨w.heap.size, 0, none⟩ = some (.int .i64 W) ∧ wx.cell? ⟨w.heap.size, 1, none⟩ = some (.int .i64 H) ∧ wx.cell? ⟨w.heap.size, 2, none⟩ = some (.slice At n ct) ∧ wx.cell? ⟨w.heap.size, 3, none⟩ = some (.slice Ar nr cr) ∧ wx.cell? ⟨w.heap.size, 4, none⟩ = some (.slice Ad nd cd)) ∧ Kp w wx) (fun _ sq _ => n - (intOf sq).toNat)
    case atStart => exact ⟨0, by omega, rfl, LG, OT, LR, sM, KM⟩
    case round =>
      clear LG OT LR sM KM
      obtain ⟨q, hq, rfl, lg, ot, lv, sm, km⟩ := hrel
      by_cases hlt : q < n
      · have hlt' : (q : Int) < n := by omega
        obtain ⟨b0, off, rfl, hc⟩ := HCT.out (by omega)
        obtain ⟨v, hv⟩ : ∃ v, lt[q]? = some v := ⟨lt[q]'(by have := HNt.out; omega), List.getElem?_eq_getElem _⟩
        have a0 := km.cell (hc q v hv)
        have hi1 : (q : Int) < W * H := by have := HN.out; omega
        have hmb := (mir_bd a b c e (i := (q : Int)) (by omega) hi1).2
        obtain ⟨k, hk⟩ : ∃ k : Nat, (k : Int) = mirI W H q := ⟨(mirI W H q).toNat, by omega⟩
        have hkn : k < n := by have := HN.out; omega
        have hkn' : (k : Int) < n := by omega
        have HS : Hid (mirT W H lt n (q + 1) = (mirT W H lt n q).set k v) := Lib.hid (by rw [mirT, hv, ← hk]; rfl)
        have C1 : Hid (∀ w, Calls Tryz.prog 43 #[mp W H (.slice (some ⟨b0, off, none⟩) n ct) (.slice Ar nr cr) (.slice Ad nd cd), .int .i64 (q : Int)] w fun e w' => e = .returned (.int .i64 (k : Int)) ∧ Kp w w') := Lib.hid fun w => by
          rw [hk]
          exact mirrorIndex_any W H _ _ _ _ w a b c e (by omega) hi1
        have OTq := Lib.hid ot
        have s1 : (Live5 wr.drew g (.int .i64 H) (.int .i64 W) (.slice (some ⟨tb, 0, none⟩) n n) (.slice none 0 0) (.slice none 0 0)) ∧ wr.drew.cell? ⟨w.heap.size, 0, none⟩ = some (.int .i64 W) ∧ wr.drew.cell? ⟨w.heap.size, 1, none⟩ = some (.int .i64 H) ∧ wr.drew.cell? ⟨w.heap.size, 2, none⟩ = some (.slice (some ⟨b0, off, none⟩) n ct) ∧ wr.drew.cell? ⟨w.heap.size, 3, none⟩ = some (.slice Ar nr cr) ∧ wr.drew.cell? ⟨w.heap.size, 4, none⟩ = some (.slice Ad nd cd) ∧ wr.drew.cell? ⟨b0, off + q, none⟩ = some (.int .i64 v) := ⟨lg, sm.1, sm.2.1, sm.2.2.1, sm.2.2.2.1, sm.2.2.2.2, a0⟩
        have hb0 : b0 < w.heap.size := cell_lt (hc q v hv)
        clear hc hv hmb hk ot
        go_wp2_with fail
        refine wp_region_held_drew (S := (fun w' => (Live5 w' g (.int .i64 H) (.int .i64 W) (.slice (some ⟨tb, 0, none⟩) n n) (.slice none 0 0) (.slice none 0 0)) ∧ w'.cell? ⟨w.heap.size, 0, none⟩ = some (.int .i64 W) ∧ w'.cell? ⟨w.heap.size, 1, none⟩ = some (.int .i64 H) ∧ w'.cell? ⟨w.heap.size, 2, none⟩ = some (.slice (some ⟨b0, off, none⟩) n ct) ∧ w'.cell? ⟨w.heap.size, 3, none⟩ = some (.slice Ar nr cr) ∧ w'.cell? ⟨w.heap.size, 4, none⟩ = some (.slice Ad nd cd) ∧ w'.cell? ⟨b0, off + q, none⟩ = some (.int .i64 v))) (by kernel_rfl) ?_ (fun hHeld => ?_)
        · exact s1
        refine wpAnyH_take (i := 0) (oi := ⟨some 23, _, _, _, _, _⟩) (v := ?_) rfl (by kernel_rfl) (by kernel_rfl) (by kernel_rfl) (fun _ _ _ h => h) (Or.inl ⟨by rfl, ?_⟩) (by assumption) ?_
        rotate_left
        · intro w hSw; (try dsimp only at hSw); go_simp; (all_goals with_reducible rfl)
        simp only [Act.put, List.setIfInBounds_toArray, List.set_cons_zero, List.set_cons_succ]
        refine wpAnyH_take (i := 1) (oi := ⟨some 24, _, _, _, _, _⟩) (v := ?_) rfl (by kernel_rfl) (by kernel_rfl) (by kernel_rfl) (fun _ _ _ h => h) (Or.inl ⟨by rfl, ?_⟩) (by assumption) ?_
        rotate_left
        · intro w hSw; (try dsimp only at hSw); go_simp; (all_goals with_reducible rfl)
        simp only [Act.put, List.setIfInBounds_toArray, List.set_cons_zero, List.set_cons_succ]
        refine wpAnyH_take (i := 2) (oi := ⟨some 25, _, _, _, _, _⟩) (v := ?_) rfl (by kernel_rfl) (by kernel_rfl) (by kernel_rfl) (fun _ _ _ h => h) (Or.inl ⟨by rfl, ?_⟩) (by assumption) ?_
        rotate_left
        · intro w hSw; (try dsimp only at hSw); go_simp; (all_goals with_reducible rfl)
        simp only [Act.put, List.setIfInBounds_toArray, List.set_cons_zero, List.set_cons_succ]
        refine wpAnyH_take (i := 3) (oi := ⟨some 26, _, _, _, _, _⟩) (v := ?_) rfl (by kernel_rfl) (by kernel_rfl) (by kernel_rfl) (fun _ _ _ h => h) (Or.inl ⟨by rfl, ?_⟩) (by assumption) ?_
        rotate_left
        · intro w hSw; (try dsimp only at hSw); go_simp; (all_goals with_reducible rfl)
        simp only [Act.put, List.setIfInBounds_toArray, List.set_cons_zero, List.set_cons_succ]
        refine wpAnyH_take (i := 5) (oi := ⟨some 28, _, _, _, _, _⟩) (v := ?_) rfl (by kernel_rfl) (by kernel_rfl) (by kernel_rfl) (fun _ _ _ h => h) (Or.inl ⟨by rfl, ?_⟩) (by assumption) ?_
        rotate_left
        · intro w hSw; (try dsimp only at hSw); go_simp; (all_goals with_reducible rfl)
        simp only [Act.put, List.setIfInBounds_toArray, List.set_cons_zero, List.set_cons_succ]
        refine wpAnyH_take (i := 6) (oi := ⟨some 29, _, _, _, _, _⟩) (v := ?_) rfl (by kernel_rfl) (by kernel_rfl) (by kernel_rfl) (fun _ _ _ h => h) (Or.inl ⟨by rfl, ?_⟩) (by assumption) ?_
        rotate_left
        · intro w hSw; (try dsimp only at hSw); go_simp; (all_goals with_reducible rfl)
        simp only [Act.put, List.setIfInBounds_toArray, List.set_cons_zero, List.set_cons_succ]
        refine wpAnyH_take (i := 7) (oi := ⟨some 30, _, _, _, _, _⟩) (v := ?_) rfl (by kernel_rfl) (by kernel_rfl) (by kernel_rfl) (fun _ _ _ h => h) (Or.inl ⟨by rfl, ?_⟩) (by assumption) ?_
        rotate_left
        · intro w hSw; (try dsimp only at hSw); go_simp; (all_goals with_reducible rfl)
        simp only [Act.put, List.setIfInBounds_toArray, List.set_cons_zero, List.set_cons_succ]
        refine wpAnyH_take (i := 8) (oi := ⟨some 31, _, _, _, _, _⟩) (v := ?_) rfl (by kernel_rfl) (by kernel_rfl) (by kernel_rfl) (fun _ _ _ h => h) (Or.inl ⟨by rfl, ?_⟩) (by assumption) ?_
        rotate_left
        · intro w hSw; (try dsimp only at hSw); go_simp; (all_goals with_reducible rfl)
        simp only [Act.put, List.setIfInBounds_toArray, List.set_cons_zero, List.set_cons_succ]
        refine wpAnyH_take (i := 9) (oi := ⟨some 32, _, _, _, _, _⟩) (v := ?_) rfl (by kernel_rfl) (by kernel_rfl) (by kernel_rfl) (fun _ _ _ h => h) (Or.inl ⟨by rfl, ?_⟩) (by assumption) ?_
        rotate_left
        · intro w hSw; (try dsimp only at hSw); go_simp; (all_goals with_reducible rfl)
        simp only [Act.put, List.setIfInBounds_toArray, List.set_cons_zero, List.set_cons_succ]
        refine wpAnyH_ready (rs := [4]) (by kernel_rfl) (by simp) ?_
        refine AllReadyH.cons (o := ⟨some 27, _, _, _, _, _⟩) rfl (fun K hK => ?_) AllReadyH.nil
        go_simp
        refine (C1.out _).mono ?_; rintro e1 w1 ⟨rfl, k1⟩; have s2 : (Live5 w1 g (.int .i64 H) (.int .i64 W) (.slice (some ⟨tb, 0, none⟩) n n) (.slice none 0 0) (.slice none 0 0)) ∧ w1.cell? ⟨w.heap.size, 0, none⟩ = some (.int .i64 W) ∧ w1.cell? ⟨w.heap.size, 1, none⟩ = some (.int .i64 H) ∧ w1.cell? ⟨w.heap.size, 2, none⟩ = some (.slice (some ⟨b0, off, none⟩) n ct) ∧ w1.cell? ⟨w.heap.size, 3, none⟩ = some (.slice Ar nr cr) ∧ w1.cell? ⟨w.heap.size, 4, none⟩ = some (.slice Ad nd cd) ∧ w1.cell? ⟨b0, off + q, none⟩ = some (.int .i64 v) := ⟨live5_keep k1 s1.1, k1.cell s1.2.1, k1.cell s1.2.2.1, k1.cell s1.2.2.2.1, k1.cell s1.2.2.2.2.1, k1.cell s1.2.2.2.2.2.1, k1.cell s1.2.2.2.2.2.2⟩; have k01 := Lib.hid ((Kp.refl wr).drew.trans k1)
        go_wp2_with fail
        refine hK.out _ _ ?_ (fun hHeld => ?_)
        · (try dsimp only); (first | assumption | exact s2 | exact s1)
        clear hK K
        try simp only [Act.put, List.setIfInBounds_toArray, List.set_cons_zero, List.set_cons_succ]
        refine wpAnyH_take (i := 10) (oi := ⟨some 33, _, _, _, _, _⟩) (v := ?_) rfl (by kernel_rfl) (by kernel_rfl) (by kernel_rfl) (fun _ _ _ h => h) (Or.inl ⟨by rfl, ?_⟩) (by assumption) ?_
        rotate_left
        · intro w hSw; (try dsimp only at hSw); go_simp; (all_goals with_reducible rfl)
        simp only [Act.put, List.setIfInBounds_toArray, List.set_cons_zero, List.set_cons_succ]
        have hb2 : w.heap.size + 2 ≤ tb := (World.ownsRow.lt OTq.out tb rfl).1
        obtain ⟨⟨u, hu⟩, hf, hput⟩ := (OTq.out.keep k01.out).put (mirT_length W H lt n q) hkn v
        have e1 : ¬ tb = g := fun x => hne x.symm
        have e2 : ¬ g = tb := hne
        have e3 : ¬ tb = w.heap.size := by omega
        have e9 : ¬ tb = b0 := by omega
        have e10 : ¬ b0 = tb := by omega
        have e4 : ¬ w.heap.size = tb := by omega
        have e5 : ¬ tb = w.heap.size + 1 := by omega
        have e6 : ¬ w.heap.size + 1 = tb := by omega
        have lv1 := live5_keep k01.out lv
        have km1 : Kp w w1 := km.trans k01.out
        obtain ⟨G, hG⟩ : ∃ G, G = (w1.setCell ⟨tb, k, none⟩ (.int .i64 v)) := ⟨_, rfl⟩
        have GL : (Live5 G g (.int .i64 H) (.int .i64 W) (.slice (some ⟨tb, 0, none⟩) n n) (.slice none 0 0) (.slice none 0 0)) ∧ G.cell? ⟨w.heap.size, 0, none⟩ = some (.int .i64 W) ∧ G.cell? ⟨w.heap.size, 1, none⟩ = some (.int .i64 H) ∧ G.cell? ⟨w.heap.size, 2, none⟩ = some (.slice (some ⟨b0, off, none⟩) n ct) ∧ G.cell? ⟨w.heap.size, 3, none⟩ = some (.slice Ar nr cr) ∧ G.cell? ⟨w.heap.size, 4, none⟩ = some (.slice Ad nd cd) ∧ G.cell? ⟨b0, off + q, none⟩ = some (.int .i64 v) := by
          rw [hG]
          exact ⟨⟨by simp [go_sem, *], by simp [go_sem, *], by simp [go_sem, *], by simp [go_sem, *], by simp [go_sem, *]⟩, by simp [go_sem, *], by simp [go_sem, *], by simp [go_sem, *], by simp [go_sem, *], by simp [go_sem, *], by simp [go_sem, *]⟩
        have GV : Live5 G (w.heap.size + 1) (.int .i64 0) (.int .i64 0) (.slice none 0 0) (.slice none 0 0) (.slice none 0 0) := by
          rw [hG]
          exact ⟨by simp [go_sem, *], by simp [go_sem, *], by simp [go_sem, *], by simp [go_sem, *], by simp [go_sem, *]⟩
        have GK : Kp w G := by
          rw [hG]
          exact km1.setCell (show w.heap.size ≤ tb by omega) _
        rw [← hG] at hput
        refine wpAnyH_ready (rs := [11]) (by kernel_rfl) (by simp) ?_
        refine AllReadyH.cons (o := ⟨none, _, _, _, _, _⟩) rfl (fun K hK => ?_) AllReadyH.nil
        go_simp
        go_wp2_with fail
        rw [← hG]
        refine hK.out _ _ GL (fun hHeld => ?_)
        clear hK K
        try simp only [Act.put, List.setIfInBounds_toArray, List.set_cons_zero, List.set_cons_succ]
        refine wpAnyH_done (by kernel_rfl) ?_ _
        go_wp2_with fail
        go_roundw
        case rel => subst hG; exact ⟨q + 1, by omega, by go_num, GL.1, by rw [HS.out]; exact hput, GV, ⟨GL.2.1, GL.2.2.1, GL.2.2.2.1, GL.2.2.2.2.1, GL.2.2.2.2.2.1⟩, GK⟩
        case measure => simp [intOf]; omega
      · obtain rfl : n = q := by omega
        rw [← HX.out] at ot
        have hb2 : w.heap.size + 2 ≤ tb := (World.ownsRow.lt ot tb rfl).1
        have OT := Lib.hid ot
        clear ot
        go_wp2_with fail
        refine (mirrorEdges_any W H _ _ _ _ _ _ _ lr _ a b c e (HT.out.keep km) (HL.out.keep km).rr HL.out.br HR.out).mono ?_
        rintro e2 w2 ⟨v2, rfl, o2, k2⟩
        rw [← HY.out] at o2
        obtain ⟨A2, c2, rfl⟩ := o2.slice
        obtain ⟨n2, hn2⟩ : ∃ m, y.length = m := ⟨_, rfl⟩
        rw [hn2] at o2 ⊢
        have hgr : g < wr.heap.size := cell_lt lg.1.1
        have htr : tb < wr.heap.size := (World.ownsRow.lt OT.out tb rfl).2
        have LG2 := live5_keep k2 lg
        have LV2 := live5_keep k2 lv
        have SM2 : w2.cell? ⟨w.heap.size, 0, none⟩ = some (.int .i64 W) ∧ w2.cell? ⟨w.heap.size, 1, none⟩ = some (.int .i64 H) ∧ w2.cell? ⟨w.heap.size, 2, none⟩ = some (.slice At n ct) ∧ w2.cell? ⟨w.heap.size, 3, none⟩ = some (.slice Ar nr cr) ∧ w2.cell? ⟨w.heap.size, 4, none⟩ = some (.slice Ad nd cd) := ⟨k2.cell sm.1, k2.cell sm.2.1, k2.cell sm.2.2.1, k2.cell sm.2.2.2.1, k2.cell sm.2.2.2.2⟩
        have KM2 := km.trans k2
        have e2 : ¬ g = w.heap.size := by omega
        have e4 : ¬ w.heap.size = g := by omega
        have e5 : w.heap.size + 1 < wr.heap.size := cell_lt lv.1.1
        have NG2 : (Value.slice A2 n2 c2).ownBlock ≠ some g := o2.not (by omega)
        have NT2 : (Value.slice A2 n2 c2).ownBlock ≠ some tb := o2.not (by omega)
        have B2 : wr.heap.size + 2 ≤ w2.heap.size ∨ True := Or.inr trivial
        have OT2 := Lib.hid (OT.out.keep k2)
        have O2 := Lib.hid o2
        have z2 := k2.size
        clear lg lv sm km k2 o2 B2
        go_wp2_with fail
        have K2' : Kp w (w2.setCell ⟨g, 3, none⟩ (.slice A2 n2 c2)) := KM2.setCell (show w.heap.size ≤ g by omega) _
        refine (mirrorEdges_any W H _ _ _ _ _ _ _ ld _ a b c e (HT.out.keep K2') (HL.out.keep K2').rd HL.out.bd HD.out).mono ?_
        rintro e3 w3 ⟨v3, rfl, o3, k3⟩
        rw [← HZ.out] at o3
        obtain ⟨A3, c3, rfl⟩ := o3.slice
        obtain ⟨n3, hn3⟩ : ∃ m, z.length = m := ⟨_, rfl⟩
        rw [hn3] at o3 ⊢
        have z3 := k3.size
        simp only [World.size_setCell] at z3 o3
        have LG3 : Live5 w3 g (.int .i64 H) (.int .i64 W) (.slice (some ⟨tb, 0, none⟩) n n) (.slice A2 n2 c2) (.slice none 0 0) := live5_keep k3 ⟨by simp [go_sem, *], by simp [go_sem, *], by simp [go_sem, *], by simp [go_sem, *], by simp [go_sem, *]⟩
        have e7 : ¬ g = w.heap.size + 1 := fun x => by omega
        have e8 : ¬ w.heap.size + 1 = g := fun x => by omega
        have LV3 : Live5 w3 (w.heap.size + 1) (.int .i64 0) (.int .i64 0) (.slice none 0 0) (.slice none 0 0) (.slice none 0 0) := live5_keep k3 ⟨by simp [go_sem, *], by simp [go_sem, *], by simp [go_sem, *], by simp [go_sem, *], by simp [go_sem, *]⟩
        have K3 : Kp w w3 := K2'.trans k3
        have OT3 := Lib.hid ((OT2.out.far (j := 3) (show (Value.slice (some ⟨tb, 0, none⟩) n n).ownBlock ≠ some g from fun x => hne (Option.some.inj x).symm) (.slice A2 n2 c2)).keep k3)
        have O23 := Lib.hid ((O2.out.far (j := 3) NG2 (.slice A2 n2 c2)).keep k3)
        have NG3 : (Value.slice A3 n3 c3).ownBlock ≠ some g := o3.not (by omega)
        have NT3 : (Value.slice A3 n3 c3).ownBlock ≠ some tb := o3.not (by omega)
        have D23 : Hid (∀ i, (Value.slice A2 n2 c2).ownBlock = some i → (Value.slice A3 n3 c3).ownBlock ≠ some i) := Lib.hid fun i hi hi' => by
          have h1 := (World.ownsRow.lt O2.out i hi).2
          have h2 := (World.ownsRow.lt o3 i hi').1
          omega
        have O3 := Lib.hid o3
        have NV2 : (Value.slice A2 n2 c2).ownBlock ≠ some (w.heap.size + 1) := O2.out.not (by omega)
        have NV3 : (Value.slice A3 n3 c3).ownBlock ≠ some (w.heap.size + 1) := O3.out.not (by omega)
        have NVT : (Value.slice (some ⟨tb, 0, none⟩) n n).ownBlock ≠ some (w.heap.size + 1) := OT.out.not (by omega)
        have NTG : (Value.slice (some ⟨tb, 0, none⟩) n n).ownBlock ≠ some g := fun x => hne (Option.some.inj x).symm
        have DT2 : Hid (∀ i, (Value.slice (some ⟨tb, 0, none⟩) n n).ownBlock = some i → (Value.slice A2 n2 c2).ownBlock ≠ some i) := Lib.hid fun i hi => by
          obtain rfl := Option.some.inj hi
          exact NT2
        have DT3 : Hid (∀ i, (Value.slice (some ⟨tb, 0, none⟩) n n).ownBlock = some i → (Value.slice A3 n3 c3).ownBlock ≠ some i) := Lib.hid fun i hi => by
          obtain rfl := Option.some.inj hi
          exact NT3
        clear K2' k3 o3 LG2 LV2 SM2 KM2 OT2 O2
        go_wp2_with fail
        refine bodyPost_ret (v := .tuple #[mp H W (.slice (some ⟨tb, 0, none⟩) n n) (.slice A2 n2 c2) (.slice A3 n3 c3), .bool true]) (by simp [results, Tryz.results19, go_sem, *]) rfl ⟨_, _, _, rfl, ⟨?_, ?_, ?_, DT2.out, DT3.out, D23.out⟩, ?_⟩
        · exact ((((((OT3.out.far NTG _).far NVT _).far NVT _).far NVT _).far NVT _).far NVT _).base (by omega)
        · exact ((((((O23.out.far NG2 _).far NV2 _).far NV2 _).far NV2 _).far NV2 _).far NV2 _).base (by omega)
        · exact ((((((O3.out.far NG3 _).far NV3 _).far NV3 _).far NV3 _).far NV3 _).far NV3 _).base (by omega)
        · exact (((((K3.setCell (show w.heap.size ≤ g by omega) _).setCell (show w.heap.size ≤ w.heap.size + 1 by omega) _).setCell (show w.heap.size ≤ w.heap.size + 1 by omega) _).setCell (show w.heap.size ≤ w.heap.size + 1 by omega) _).setCell (show w.heap.size ≤ w.heap.size + 1 by omega) _).setCell (show w.heap.size ≤ w.heap.size + 1 by omega) _

end Go.Proofs.YtmolpkjdjkhnpaaGreatDoor
