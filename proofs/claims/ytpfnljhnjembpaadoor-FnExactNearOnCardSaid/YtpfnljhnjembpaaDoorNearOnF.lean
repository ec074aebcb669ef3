/-
  The hexes near a place of a map, the program's and the reference's: the same list, in memory of its own, or none. Nothing that was there is changed. The table of directions holds what the program's text lays.
-/
import Derived.Test.YtpfnljhnjembpaaDoorMapH
import Derived.Test.YtpfnljhnjembpaaDoorDist
import Derived.Test.YtpfnljhnjembpaaDoorMapW
namespace Go.Proofs.YtpfnljhnjembpaaDoor
open Go.RowKit

def nrB (W X Y rad : Int) (k : Nat) : Bool := decide (distI ((k : Int) % W - X) ((k : Int) / W - Y) ≤ rad)
def nearF (W X Y rad : Int) : Nat → List Int
  | 0 => []
  | k + 1 => nearF W X Y rad k ++ if nrB W X Y rad k = true then [(k : Int)] else []
theorem nearF_len (W X Y rad : Int) : ∀ k, (nearF W X Y rad k).length ≤ k
  | 0 => Nat.le_refl _
  | k + 1 => by
    have := nearF_len W X Y rad k
    rw [nearF, List.length_append]
    split <;> simp <;> omega

/-- A new list of numbers and true, or none and false. -/
def ListPostI (ok : Bool) (l : List Int) (w : World) (e : Ending) (w' : World) : Prop :=
  ∃ v, e = .returned (.tuple #[v, .bool ok]) ∧ OwnI w' w.heap.size v (if ok = true then l else []) ∧ Kp w w'
theorem OwnI.nil (w : World) (base : Nat) : OwnI w base (.slice none 0 0) [] := World.ownsRow_nil w base _ 1
theorem ListPostI.no {l : List Int} {w w' : World} (hk : Kp w w') : ListPostI false l w (.returned (.tuple #[.slice none 0 0, .bool false])) w' := ⟨_, rfl, OwnI.nil _ _, hk⟩
theorem OwnI.snoc {w : World} {base : Nat} {v : Value} {l : List Int} {x : Int} (h : w.ownsRow base 3 1 v (l.length + 1) (cellsI l ++ [.int .i64 x])) : OwnI w base v (l ++ [x]) := by
  unfold OwnI cellsI
  rw [List.map_append, List.length_append]
  exact h
theorem one_cell (w : World) (x : Value) (t : TypeId) : ∀ j u, [x][j]? = some u → (w.alloc (.cells #[x] t)).cell? ((⟨w.heap.size, 0, none⟩ : Addr).add j) = some u := by
  intro j u hj
  match j, hj with
  | 0, hj => simp at hj; subst hj; simp [Addr.add]
theorem grow5 {W0 w w1 : World} {b : Nat} {v0 v1 v2 v3 v4 : Value} {row : Option Nat} (g : w.grownBy w1 row) (hne : some b ≠ row) (hr : ∀ k, row = some k → W0.heap.size ≤ k)
    (h : w.cell? ⟨b, 0, none⟩ = some v0 ∧ w.cell? ⟨b, 1, none⟩ = some v1 ∧ w.cell? ⟨b, 2, none⟩ = some v2 ∧ w.cell? ⟨b, 3, none⟩ = some v3 ∧ w.cell? ⟨b, 4, none⟩ = some v4 ∧ Kp W0 w) :
    w1.cell? ⟨b, 0, none⟩ = some v0 ∧ w1.cell? ⟨b, 1, none⟩ = some v1 ∧ w1.cell? ⟨b, 2, none⟩ = some v2 ∧ w1.cell? ⟨b, 3, none⟩ = some v3 ∧ w1.cell? ⟨b, 4, none⟩ = some v4 ∧ Kp W0 w1 :=
  ⟨g.cell h.1 hne, g.cell h.2.1 hne, g.cell h.2.2.1 hne, g.cell h.2.2.2.1 hne, g.cell h.2.2.2.2.1 hne, h.2.2.2.2.2.grown g hr⟩
theorem keep7h {W0 w w1 : World} {b b' : Nat} {v0 v1 v2 v3 v4 u0 u1 : Value} (k : Kp w w1)
    (h : (w.cell? ⟨b, 0, none⟩ = some v0 ∧ w.cell? ⟨b, 1, none⟩ = some v1 ∧ w.cell? ⟨b, 2, none⟩ = some v2 ∧ w.cell? ⟨b, 3, none⟩ = some v3 ∧ w.cell? ⟨b, 4, none⟩ = some v4 ∧ Kp W0 w) ∧ w.cell? ⟨b', 0, none⟩ = some u0 ∧ w.cell? ⟨b', 1, none⟩ = some u1) :
    (w1.cell? ⟨b, 0, none⟩ = some v0 ∧ w1.cell? ⟨b, 1, none⟩ = some v1 ∧ w1.cell? ⟨b, 2, none⟩ = some v2 ∧ w1.cell? ⟨b, 3, none⟩ = some v3 ∧ w1.cell? ⟨b, 4, none⟩ = some v4 ∧ Kp W0 w1) ∧ w1.cell? ⟨b', 0, none⟩ = some u0 ∧ w1.cell? ⟨b', 1, none⟩ = some u1 := ⟨keep5 k h.1, k.two h.2⟩
theorem drew7h {W0 w : World} {b b' : Nat} {v0 v1 v2 v3 v4 u0 u1 : Value}
    (h : (w.cell? ⟨b, 0, none⟩ = some v0 ∧ w.cell? ⟨b, 1, none⟩ = some v1 ∧ w.cell? ⟨b, 2, none⟩ = some v2 ∧ w.cell? ⟨b, 3, none⟩ = some v3 ∧ w.cell? ⟨b, 4, none⟩ = some v4 ∧ Kp W0 w) ∧ w.cell? ⟨b', 0, none⟩ = some u0 ∧ w.cell? ⟨b', 1, none⟩ = some u1) :
    (w.drew.cell? ⟨b, 0, none⟩ = some v0 ∧ w.drew.cell? ⟨b, 1, none⟩ = some v1 ∧ w.drew.cell? ⟨b, 2, none⟩ = some v2 ∧ w.drew.cell? ⟨b, 3, none⟩ = some v3 ∧ w.drew.cell? ⟨b, 4, none⟩ = some v4 ∧ Kp W0 w.drew) ∧ w.drew.cell? ⟨b', 0, none⟩ = some u0 ∧ w.drew.cell? ⟨b', 1, none⟩ = some u1 := ⟨drew5 h.1, h.2⟩

set_option maxRecDepth 100000 in
set_option maxHeartbeats 4000000 in
theorem nearOn_yes (W H : Int) (t r d : Value) (lt lr ld : List Int) (i rad : Int) (w : World) (ht : Tab w) (hL : Lists w t r d lt lr ld) (hm : mapOk W H lt lr ld = true) (ho : onI W H i = true) (r0 : 0 ≤ rad) (r1 : rad ≤ 20) :
    Calls Tryd.prog 35 #[mp W H t r d, .int .i64 i, .int .i64 rad] w (ListPostI true (nearF W (i % W) (i / W) rad (W * H).toNat) w) := by
  obtain ⟨a, b, c, e⟩ := mapOk_side hm
  have hA := area_bd a b c e
  obtain ⟨i0, i1⟩ := onI_true ho
  have hh := hex_bd a b i0 i1
  have s0 := new5 w (.int .i64 W) (.int .i64 H) t r d 27
  obtain ⟨X, hX⟩ : ∃ X, i % W = X := ⟨_, rfl⟩
  obtain ⟨Y, hY⟩ : ∃ Y, i / W = Y := ⟨_, rfl⟩
  have HC : Hid (Calls Tryd.prog 22 #[mp W H t r d, .int .i64 i] (w.alloc (.cells #[.int .i64 W, .int .i64 H, t, r, d] 27)) fun e w' => e = .returned (.tuple #[hx X Y, .bool true]) ∧ Kp (w.alloc (.cells #[.int .i64 W, .int .i64 H, t, r, d] 27)) w') := Lib.hid (by
    have := hexAt_any W H t r d lt lr ld i _ (ht.k5 s0) (hL.keep s0.2.2.2.2.2)
    rw [hm, ho, hX, hY] at this
    exact this)
  rw [hX, hY] at hh ⊢
  obtain ⟨N, hN⟩ : ∃ N : Nat, (N : Int) = W * H := ⟨(W * H).toNat, by omega⟩
  have hNn : (W * H).toNat = N := by omega
  rw [hNn]
  have CC : Hid (∀ w, Calls Tryd.prog 47 #[mp W H t r d] w fun e w' => e = .returned (.int .i64 N) ∧ Kp w w') := Lib.hid fun w => by
    rw [hN]
    exact countHexes_any W H t r d w a b c e
  obtain ⟨j0, hj0, hz0, hs0, hb0⟩ := info_parts infoInt
  have hN1 : N ≤ 100 := by omega
  have hk : ∀ k : Nat, k < N → 0 ≤ (k : Int) % W ∧ (k : Int) % W < W ∧ 0 ≤ (k : Int) / W ∧ (k : Int) / W < H := fun k hk => hex_bd a b (by omega) (by omega)
  have HK := Lib.hid hk
  clear ht hL hm ho hX hY hN hNn hk hA i0 i1
  go_enter Tryd.func35, Tryd.ntmps35
  go_wp2_with fail
  refine HC.out.mono ?_
  rintro e1 w1 ⟨rfl, k1⟩
  have s1 : ((w1.alloc (.cells #[.int .i64 X, .int .i64 Y] 35)).cell? ⟨w.heap.size, 0, none⟩ = some (.int .i64 W) ∧ (w1.alloc (.cells #[.int .i64 X, .int .i64 Y] 35)).cell? ⟨w.heap.size, 1, none⟩ = some (.int .i64 H) ∧ (w1.alloc (.cells #[.int .i64 X, .int .i64 Y] 35)).cell? ⟨w.heap.size, 2, none⟩ = some t ∧ (w1.alloc (.cells #[.int .i64 X, .int .i64 Y] 35)).cell? ⟨w.heap.size, 3, none⟩ = some r ∧ (w1.alloc (.cells #[.int .i64 X, .int .i64 Y] 35)).cell? ⟨w.heap.size, 4, none⟩ = some d ∧ Kp w (w1.alloc (.cells #[.int .i64 X, .int .i64 Y] 35))) ∧ (w1.alloc (.cells #[.int .i64 X, .int .i64 Y] 35)).cell? ⟨w1.heap.size, 0, none⟩ = some (.int .i64 X) ∧ (w1.alloc (.cells #[.int .i64 X, .int .i64 Y] 35)).cell? ⟨w1.heap.size, 1, none⟩ = some (.int .i64 Y) :=
    ⟨keep5 (k1.trans ((Kp.refl w1).alloc _)) s0, by simp [go_sem], by simp [go_sem]⟩
  have hz1 : w.heap.size < w1.heap.size := by have := k1.size; simp at this; omega
  clear s0 k1 HC
  go_wp2_with fail
  refine (CC.out _).mono ?_
  rintro e2 w2 ⟨rfl, k2⟩
  have s2 := keep7h k2 s1
  have hz2 : w1.heap.size < w2.heap.size := by have := k2.size; simp at this; omega
  clear s1 k2
  go_wp2_with fail
  generalize w1.heap.size = b8 at *
  go_loopw [10, 11, 30] (fun v _ s30 wx => ∃ k : Nat, k ≤ N ∧ s30 = .int .i64 k ∧ OwnI wx (b8 + 1) v (nearF W X Y rad k) ∧
    ((wx.cell? ⟨w.heap.size, 0, none⟩ = some (.int .i64 W) ∧ wx.cell? ⟨w.heap.size, 1, none⟩ = some (.int .i64 H) ∧ wx.cell? ⟨w.heap.size, 2, none⟩ = some t ∧ wx.cell? ⟨w.heap.size, 3, none⟩ = some r ∧ wx.cell? ⟨w.heap.size, 4, none⟩ = some d ∧ Kp w wx) ∧ wx.cell? ⟨b8, 0, none⟩ = some (.int .i64 X) ∧ wx.cell? ⟨b8, 1, none⟩ = some (.int .i64 Y))) (fun _ _ s30 _ => N - (intOf s30).toNat)
  case atStart => exact ⟨0, by omega, rfl, OwnI.nil _ _, s2⟩
  case round =>
    clear s2 hz2
    obtain ⟨k, hkN, rfl, hoR, sr⟩ := hrel
    by_cases hlt : k < N
    · have hlt' : (k : Int) < N := by omega
      have hkb := HK.out k hlt
      have HO := Lib.hid hoR
      have b8lt : b8 < wr.heap.size := cell_lt sr.2.1
      have sd : (wr.drew.cell? ⟨w.heap.size, 0, none⟩ = some (.int .i64 W) ∧ wr.drew.cell? ⟨w.heap.size, 1, none⟩ = some (.int .i64 H) ∧ wr.drew.cell? ⟨w.heap.size, 2, none⟩ = some t ∧ wr.drew.cell? ⟨w.heap.size, 3, none⟩ = some r ∧ wr.drew.cell? ⟨w.heap.size, 4, none⟩ = some d ∧ Kp wr wr.drew) ∧ wr.drew.cell? ⟨b8, 0, none⟩ = some (.int .i64 X) ∧ wr.drew.cell? ⟨b8, 1, none⟩ = some (.int .i64 Y) :=
        ⟨⟨sr.1.1, sr.1.2.1, sr.1.2.2.1, sr.1.2.2.2.1, sr.1.2.2.2.2.1, (Kp.refl wr).drew⟩, sr.2⟩
      have Kr := sr.1.2.2.2.2.2
      clear hoR
      cases hnr : nrB W X Y rad k
      · have HS : Hid (nearF W X Y rad (k + 1) = nearF W X Y rad k) := Lib.hid (by rw [nearF, hnr]; simp)
        have hd : decide (distI ((k : Int) % W - X) ((k : Int) / W - Y) ≤ rad) = false := hnr
        clear hnr
        go_wp2_with fail
        go_region_held3 (fun w' => (w'.cell? ⟨w.heap.size, 0, none⟩ = some (.int .i64 W) ∧ w'.cell? ⟨w.heap.size, 1, none⟩ = some (.int .i64 H) ∧ w'.cell? ⟨w.heap.size, 2, none⟩ = some t ∧ w'.cell? ⟨w.heap.size, 3, none⟩ = some r ∧ w'.cell? ⟨w.heap.size, 4, none⟩ = some d ∧ Kp wr w') ∧ w'.cell? ⟨b8, 0, none⟩ = some (.int .i64 X) ∧ w'.cell? ⟨b8, 1, none⟩ = some (.int .i64 Y)) (first | assumption | exact sd)
          (first
            | (go_at_call 56; refine (hexWithIndex_any _ _ _ _ _ _ _ a b (by omega) (by omega)).mono ?_; rintro e3 wa ⟨rfl, ka⟩; have sa := keep7h ka sd)
            | (go_at_call 69; refine (offsetTo_any _ _ _ _ _ (by omega) (by omega) (by omega) (by omega) (by omega) (by omega) (by omega) (by omega)).mono ?_; rintro e4 wb ⟨rfl, kb⟩; have sb := keep7h kb sa)
            | (go_at_call 70; refine (length_any _ _ _ (by omega) (by omega) (by omega) (by omega)).mono ?_; rintro e5 wc ⟨rfl, kc⟩; have sc := keep7h kc sb))
        have Kc : Kp wr wc := sc.1.2.2.2.2.2
        clear sd sa sb
        go_wp2_with fail
        go_roundw
        case rel => exact ⟨k + 1, by omega, by go_num, by rw [HS.out]; exact HO.out.keep Kc, ⟨sc.1.1, sc.1.2.1, sc.1.2.2.1, sc.1.2.2.2.1, sc.1.2.2.2.2.1, Kr.trans Kc⟩, sc.2⟩
        case measure => simp [intOf]; omega
      · have HS : Hid (nearF W X Y rad (k + 1) = nearF W X Y rad k ++ [(k : Int)]) := Lib.hid (by rw [nearF, hnr]; simp)
        have hd : distI ((k : Int) % W - X) ((k : Int) / W - Y) ≤ rad := of_decide_eq_true hnr
        have hln := Lib.hid (nearF_len W X Y rad k)
        clear hnr
        go_wp2_with fail
        go_region_held3 (fun w' => (w'.cell? ⟨w.heap.size, 0, none⟩ = some (.int .i64 W) ∧ w'.cell? ⟨w.heap.size, 1, none⟩ = some (.int .i64 H) ∧ w'.cell? ⟨w.heap.size, 2, none⟩ = some t ∧ w'.cell? ⟨w.heap.size, 3, none⟩ = some r ∧ w'.cell? ⟨w.heap.size, 4, none⟩ = some d ∧ Kp wr w') ∧ w'.cell? ⟨b8, 0, none⟩ = some (.int .i64 X) ∧ w'.cell? ⟨b8, 1, none⟩ = some (.int .i64 Y)) (first | assumption | exact sd)
          (first
            | (go_at_call 56; refine (hexWithIndex_any _ _ _ _ _ _ _ a b (by omega) (by omega)).mono ?_; rintro e3 wa ⟨rfl, ka⟩; have sa := keep7h ka sd)
            | (go_at_call 69; refine (offsetTo_any _ _ _ _ _ (by omega) (by omega) (by omega) (by omega) (by omega) (by omega) (by omega) (by omega)).mono ?_; rintro e4 wb ⟨rfl, kb⟩; have sb := keep7h kb sa)
            | (go_at_call 70; refine (length_any _ _ _ (by omega) (by omega) (by omega) (by omega)).mono ?_; rintro e5 wc ⟨rfl, kc⟩; have sc := keep7h kc sb))
        have Kc : Kp wr wc := sc.1.2.2.2.2.2
        have O1 := Lib.hid (HO.out.keep Kc)
        have hcs := Kc.size
        have s3 : (wc.cell? ⟨w.heap.size, 0, none⟩ = some (.int .i64 W) ∧ wc.cell? ⟨w.heap.size, 1, none⟩ = some (.int .i64 H) ∧ wc.cell? ⟨w.heap.size, 2, none⟩ = some t ∧ wc.cell? ⟨w.heap.size, 3, none⟩ = some r ∧ wc.cell? ⟨w.heap.size, 4, none⟩ = some d ∧ Kp w wc) ∧ wc.cell? ⟨b8, 0, none⟩ = some (.int .i64 X) ∧ wc.cell? ⟨b8, 1, none⟩ = some (.int .i64 Y) :=
          ⟨⟨sc.1.1, sc.1.2.1, sc.1.2.2.1, sc.1.2.2.2.1, sc.1.2.2.2.2.1, Kr.trans Kc⟩, sc.2⟩
        have n1 := Lib.hid (HO.out.not (g := w.heap.size) (by omega))
        have n2 := Lib.hid (HO.out.not (g := b8) (by omega))
        clear sd sa sb sc sr
        go_wp2_with (at_builtin; refine wpList_append_own_at _ rfl (.tmp 41) (.tmp 43) 22 rfl (b8 + 1) 3 j0 (.int .i64 0) 1 8 Tryd.underlying22 hj0 hz0 hs0 hb0 rfl (by decide) _ (nearF W X Y rad k).length (cellsI (nearF W X Y rad k)) rfl (World.ownsRow.alloc O1.out _) ⟨wc.heap.size, 0, none⟩ 1 1 [.int .i64 k] rfl rfl (one_cell _ _ _) (by simp [Value.oneCell']) (by have := hln.out; simp only [maxLen]; omega) (by have := hln.out; omega) (by simp; omega) ?_; intro v' w3 hown2 hgrow2 hnil2 hat2; clear hnil2 hat2; have s4 := keep7h ((Kp.refl wc).alloc (.cells #[.int .i64 k] 3)) s3; have s5 := grow5 hgrow2 (fun e => n1.out e.symm) (fun k e => by have := (World.ownsRow.lt O1.out k e).1; omega) s4.1; have q0 := hgrow2.cell s4.2.1 (fun e => n2.out e.symm); have q1 := hgrow2.cell s4.2.2 (fun e => n2.out e.symm); have O3 := Lib.hid (OwnI.snoc (x := k) hown2); clear hown2 hgrow2 s3 s4)
        go_roundw
        case rel => exact ⟨k + 1, by omega, by go_num, by rw [HS.out]; exact O3.out, s5, q0, q1⟩
        case measure => simp [intOf]; omega
    · obtain rfl : k = N := by omega
      go_wp2_with fail
      go_ret2
      exact ⟨_, rfl, hoR.base (by omega), sr.1.2.2.2.2.2⟩

end Go.Proofs.YtpfnljhnjembpaaDoor
