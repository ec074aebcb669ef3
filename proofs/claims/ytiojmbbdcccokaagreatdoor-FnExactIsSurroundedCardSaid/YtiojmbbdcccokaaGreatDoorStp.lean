/-
  Steps of a unit in a slice, 22 cells each: lists of them, IndexFunc and ContainsFunc over them, stepsFrom. Nothing that was there is changed.
-/
import Derived.Lib.SliceRun
import Derived.Maps.AppendAt
import Derived.Test.YtiojmbbdcccokaaGreatDoorZnB
import Derived.Test.YtiojmbbdcccokaaGreatDoorMid
import Derived.Test.YtiojmbbdcccokaaGreatDoorQa
import Derived.Test.YtiojmbbdcccokaaGreatDoorQl
namespace Go.Proofs.YtiojmbbdcccokaaGreatDoor
open Go.RowKit
theorem keepz15 {W0 w w1 : World} {p0 p1 p2 p3 p4 p5 p6 p7 p8 p9 p10 p11 p12 p13 p14 : Addr} {v0 v1 v2 v3 v4 v5 v6 v7 v8 v9 v10 v11 v12 v13 v14 : Value} (k : Kp w w1) (h : w.cell? p0 = some v0 ∧ w.cell? p1 = some v1 ∧ w.cell? p2 = some v2 ∧ w.cell? p3 = some v3 ∧ w.cell? p4 = some v4 ∧ w.cell? p5 = some v5 ∧ w.cell? p6 = some v6 ∧ w.cell? p7 = some v7 ∧ w.cell? p8 = some v8 ∧ w.cell? p9 = some v9 ∧ w.cell? p10 = some v10 ∧ w.cell? p11 = some v11 ∧ w.cell? p12 = some v12 ∧ w.cell? p13 = some v13 ∧ w.cell? p14 = some v14 ∧ Kp W0 w) : w1.cell? p0 = some v0 ∧ w1.cell? p1 = some v1 ∧ w1.cell? p2 = some v2 ∧ w1.cell? p3 = some v3 ∧ w1.cell? p4 = some v4 ∧ w1.cell? p5 = some v5 ∧ w1.cell? p6 = some v6 ∧ w1.cell? p7 = some v7 ∧ w1.cell? p8 = some v8 ∧ w1.cell? p9 = some v9 ∧ w1.cell? p10 = some v10 ∧ w1.cell? p11 = some v11 ∧ w1.cell? p12 = some v12 ∧ w1.cell? p13 = some v13 ∧ w1.cell? p14 = some v14 ∧ Kp W0 w1 :=
  ⟨k.cell h.1, k.cell h.2.1, k.cell h.2.2.1, k.cell h.2.2.2.1, k.cell h.2.2.2.2.1, k.cell h.2.2.2.2.2.1, k.cell h.2.2.2.2.2.2.1, k.cell h.2.2.2.2.2.2.2.1, k.cell h.2.2.2.2.2.2.2.2.1, k.cell h.2.2.2.2.2.2.2.2.2.1, k.cell h.2.2.2.2.2.2.2.2.2.2.1, k.cell h.2.2.2.2.2.2.2.2.2.2.2.1, k.cell h.2.2.2.2.2.2.2.2.2.2.2.2.1, k.cell h.2.2.2.2.2.2.2.2.2.2.2.2.2.1, k.cell h.2.2.2.2.2.2.2.2.2.2.2.2.2.2.1, h.2.2.2.2.2.2.2.2.2.2.2.2.2.2.2.trans k⟩
theorem drewz15 {W0 w : World} {p0 p1 p2 p3 p4 p5 p6 p7 p8 p9 p10 p11 p12 p13 p14 : Addr} {v0 v1 v2 v3 v4 v5 v6 v7 v8 v9 v10 v11 v12 v13 v14 : Value} (h : w.cell? p0 = some v0 ∧ w.cell? p1 = some v1 ∧ w.cell? p2 = some v2 ∧ w.cell? p3 = some v3 ∧ w.cell? p4 = some v4 ∧ w.cell? p5 = some v5 ∧ w.cell? p6 = some v6 ∧ w.cell? p7 = some v7 ∧ w.cell? p8 = some v8 ∧ w.cell? p9 = some v9 ∧ w.cell? p10 = some v10 ∧ w.cell? p11 = some v11 ∧ w.cell? p12 = some v12 ∧ w.cell? p13 = some v13 ∧ w.cell? p14 = some v14 ∧ Kp W0 w) : w.drew.cell? p0 = some v0 ∧ w.drew.cell? p1 = some v1 ∧ w.drew.cell? p2 = some v2 ∧ w.drew.cell? p3 = some v3 ∧ w.drew.cell? p4 = some v4 ∧ w.drew.cell? p5 = some v5 ∧ w.drew.cell? p6 = some v6 ∧ w.drew.cell? p7 = some v7 ∧ w.drew.cell? p8 = some v8 ∧ w.drew.cell? p9 = some v9 ∧ w.drew.cell? p10 = some v10 ∧ w.drew.cell? p11 = some v11 ∧ w.drew.cell? p12 = some v12 ∧ w.drew.cell? p13 = some v13 ∧ w.drew.cell? p14 = some v14 ∧ Kp W0 w.drew :=
  ⟨h.1, h.2.1, h.2.2.1, h.2.2.2.1, h.2.2.2.2.1, h.2.2.2.2.2.1, h.2.2.2.2.2.2.1, h.2.2.2.2.2.2.2.1, h.2.2.2.2.2.2.2.2.1, h.2.2.2.2.2.2.2.2.2.1, h.2.2.2.2.2.2.2.2.2.2.1, h.2.2.2.2.2.2.2.2.2.2.2.1, h.2.2.2.2.2.2.2.2.2.2.2.2.1, h.2.2.2.2.2.2.2.2.2.2.2.2.2.1, h.2.2.2.2.2.2.2.2.2.2.2.2.2.2.1, h.2.2.2.2.2.2.2.2.2.2.2.2.2.2.2.drew⟩


/-- The cells of a list of structs. -/
def cellsM : List (List Value × Bool) → List Value
  | [] => []
  | z :: l => z.1 ++ cellsM l
theorem cellsM_snoc : ∀ (l : List (List Value × Bool)) (z : List Value × Bool), cellsM (l ++ [z]) = cellsM l ++ z.1
  | [], z => by simp [cellsM]
  | y :: l, z => by simp [cellsM, cellsM_snoc l z]
theorem cellsM_at {n : Nat} : ∀ (l : List (List Value × Bool)) (i : Nat) (z : List Value × Bool), (∀ y ∈ l, y.1.length = n) → l[i]? = some z → ∀ (j : Nat) (v : Value), z.1[j]? = some v → (cellsM l)[i * n + j]? = some v
  | [], _, _, _, h => by simp at h
  | y :: l, 0, z, hl, h => fun j v hv => by
    simp only [List.getElem?_cons_zero, Option.some.injEq] at h
    subst h
    have hj := (List.getElem?_eq_some_iff.1 hv).1
    rw [cellsM, Nat.zero_mul, Nat.zero_add, List.getElem?_append_left hj]
    exact hv
  | y :: l, i + 1, z, hl, h => fun j v hv => by
    have ih := cellsM_at l i z (fun w hw => hl w (List.mem_cons_of_mem _ hw)) (by simpa using h) j v hv
    have hy := hl y List.mem_cons_self
    have e : (i + 1) * n + j = y.1.length + (i * n + j) := by rw [hy, Nat.add_mul]; omega
    rw [cellsM, e, List.getElem?_append_right (by omega), Nat.add_sub_cancel_left]
    exact ih
theorem cellsM_len {n : Nat} : ∀ (l : List (List Value × Bool)), (∀ y ∈ l, y.1.length = n) → (cellsM l).length = l.length * n
  | [], _ => by simp [cellsM]
  | y :: l, hl => by
    rw [cellsM, List.length_append, hl y List.mem_cons_self, cellsM_len l (fun w hw => hl w (List.mem_cons_of_mem _ hw)), List.length_cons, Nat.add_mul]
    omega
/-- Those directions below q whose step exists: the step's cells and its answer. -/
def stL (b : Nat → Bool) (F : Nat → List Value) (P : Nat → Bool) : Nat → List (List Value × Bool)
  | 0 => []
  | q + 1 => if b q = true then stL b F P q ++ [(F q, P q)] else stL b F P q
theorem stL_len (b : Nat → Bool) (F : Nat → List Value) (P : Nat → Bool) : ∀ q, (stL b F P q).length ≤ q
  | 0 => by simp [stL]
  | q + 1 => by
    have := stL_len b F P q
    unfold stL
    split
    · simp; omega
    · omega
theorem stL_mem {b : Nat → Bool} {F : Nat → List Value} {P : Nat → Bool} : ∀ {q : Nat} {z : List Value × Bool}, z ∈ stL b F P q → ∃ k, k < q ∧ b k = true ∧ z = (F k, P k)
  | 0, _, h => by simp [stL] at h
  | q + 1, z, h => by
    unfold stL at h
    split at h
    · rename_i hb
      rcases List.mem_append.1 h with h | h
      · obtain ⟨k, h1, h2, h3⟩ := stL_mem h
        exact ⟨k, by omega, h2, h3⟩
      · exact ⟨q, by omega, hb, by simpa using h⟩
    · obtain ⟨k, h1, h2, h3⟩ := stL_mem h
      exact ⟨k, by omega, h2, h3⟩
theorem stL_any (b : Nat → Bool) (F : Nat → List Value) (P : Nat → Bool) : ∀ q, ((stL b F P q).any fun z => z.2) = exN (fun k => b k && P k) q
  | 0 => by simp [stL, exN]
  | q + 1 => by
    have ih := stL_any b F P q
    cases hb : b q
    · simp [stL, exN, hb, ih]
    · simp [stL, exN, hb, ih]

/-- A slice of structs of 22 cells. -/
def RdM (w : World) (v : Value) (l : List (List Value × Bool)) : Prop := ∃ A c, v = .slice A l.length c ∧ (0 < l.length → ∃ g off, A = some ⟨g, off, none⟩ ∧ ∀ (k : Nat) (z : List Value × Bool), l[k]? = some z → w.rangeAt g (off + k * 22) z.1)
theorem RdM.keep {w w' : World} {v : Value} {l : List (List Value × Bool)} (h : RdM w v l) (k : Kp w w') : RdM w' v l := by
  obtain ⟨A, c, rfl, h⟩ := h
  refine ⟨A, c, rfl, fun h0 => ?_⟩
  obtain ⟨g, off, rfl, hc⟩ := h h0
  exact ⟨g, off, rfl, fun i z hz => range_keep (hc i z hz) k⟩
def OwnM (w : World) (base : Nat) (v : Value) (l : List (List Value × Bool)) : Prop := (∀ y ∈ l, y.1.length = 22) ∧ w.ownsRow base 97 22 v l.length (cellsM l)
theorem OwnM.nil (w : World) (base : Nat) : OwnM w base (.slice none 0 0) [] := ⟨fun y h => (by cases h), World.ownsRow_nil w base _ 22⟩
theorem OwnM.keep {w w' : World} {base : Nat} {v : Value} {l : List (List Value × Bool)} (h : OwnM w base v l) (k : Kp w w') : OwnM w' base v l := ⟨h.1, ownsRow_keep h.2 k⟩
theorem OwnM.base {w : World} {base b : Nat} {v : Value} {l : List (List Value × Bool)} (h : OwnM w base v l) (hb : b ≤ base) : OwnM w b v l := ⟨h.1, ownsRow_base h.2 hb⟩
theorem OwnM.snoc {w : World} {base : Nat} {v : Value} {l : List (List Value × Bool)} {e : List Value} (p : Bool) (h0 : ∀ y ∈ l, y.1.length = 22) (he : e.length = 22) (h : w.ownsRow base 97 22 v (l.length + 1) (cellsM l ++ e)) : OwnM w base v (l ++ [(e, p)]) := by
  refine ⟨fun y hy => ?_, ?_⟩
  · rcases List.mem_append.1 hy with h | h
    · exact h0 y h
    · obtain rfl : y = (e, p) := by simpa using h
      exact he
  · rw [cellsM_snoc, List.length_append]
    exact h
theorem OwnM.rd {w : World} {base : Nat} {v : Value} {l : List (List Value × Bool)} (h : OwnM w base v l) : RdM w v l := by
  have hlen := cellsM_len l h.1
  have h22 := h.1
  have h := h.2
  rcases h.2 with ⟨rfl, hn⟩ | ⟨g, cap, cur, rfl, hb, hg, hc, hm, hs, ht⟩
  · exact ⟨none, 0, by rw [hn], fun h0 => by omega⟩
  · refine ⟨_, _, rfl, fun _ => ⟨g, 0, rfl, fun i z hz j v hv => ?_⟩⟩
    have hi : i < l.length := (List.getElem?_eq_some_iff.1 hz).1
    have hj := (List.getElem?_eq_some_iff.1 hv).1
    rw [h22 z (List.mem_of_getElem? hz)] at hj
    rw [Nat.zero_add]
    exact (World.ownsRow.cellAt h (i * 22 + j) (by omega)).trans (cellsM_at l i z h22 hz j v hv)
theorem new_row (W : World) (cs : List Value) (T : TypeId) : ∀ (j : Nat) (u : Value), cs[j]? = some u → (W.alloc (.cells cs.toArray T)).cell? ((⟨W.heap.size, 0, none⟩ : Addr).add j) = some u := fun j u h => by
  rw [Addr.add_mid, Nat.zero_add]
  simpa [go_sem] using h
theorem infoStep : (Tryz.prog.info? 97).map (fun i => (i.zero, i.size, i.bytes)) = some (some (.agg #[.int .i64 0, .int .i64 0, .int .i64 0, .int .i64 0, .slice none 0 0, .slice none 0 0, .int .i64 0, .int .i64 0, .int .i64 0, .int .i64 0, .int .i64 0, .int .i64 0, .int .i64 0, .slice none 0 0, .slice none 0 0, .slice none 0 0, .int .i64 0, .int .i64 0, .slice none 0 0, .int .i64 0, .int .i64 0, .int .i64 0]), 22, 272) := by kernel_rfl

set_option maxRecDepth 100000 in
set_option maxHeartbeats 4000000 in
theorem indexM_any (g : Nat) (lb : Array Value) (l : List (List Value × Bool)) (v : Value) (W1 w : World) (HP : ∀ z ∈ l, ∀ w, Kp W1 w → Calls Tryz.prog g (#[.agg z.1.toArray] ++ lb) w fun e w' => e = .returned (.bool z.2) ∧ Kp w w')
    (hg : g = 59) (hk : Kp W1 w) (h22 : ∀ z ∈ l, z.1.length = 22) (hr : RdM w v l) (hl : l.length ≤ 1000) :
    Calls Tryz.prog 89 #[v, .func (.func g) #[] lb] w fun e w' => ∃ R : Int, e = .returned (.int .i64 R) ∧ -1 ≤ R ∧ decide (0 ≤ R) = (l.any fun z => z.2) ∧ Kp w w' := by
  subst hg
  have I22 : Hid ((Tryz.prog.info? 97).map (·.size) = some 22) := Lib.hid (by kernel_rfl)
  obtain ⟨A, cp, rfl, h⟩ := hr
  have HA := Lib.hid h
  have HPP := Lib.hid HP
  have H22 := Lib.hid h22
  clear h HP h22
  generalize hn : l.length = n at *
  have HN := Lib.hid hn
  clear hn
  go_enter Tryz.func89, Tryz.ntmps89
  go_wp2_with fail
  go_loopw [5, 8] (fun _ i wr => ∃ k : Nat, k ≤ n ∧ i = .int .i64 k ∧ Hid (((l.take k).any fun z => z.2) = false) ∧ Kp w wr) (fun _ i _ => n - (intOf i).toNat)
  case atStart => exact ⟨0, by omega, rfl, Lib.hid rfl, Kp.refl w⟩
  case round =>
    obtain ⟨k, hkn, rfl, hE, kr⟩ := hrel
    by_cases hlt : k < n
    · obtain ⟨g', off, rfl, hc⟩ := HA.out (by omega)
      obtain ⟨z, hz⟩ : ∃ z, l[k]? = some z := ⟨l[k]'(by have := HN.out; omega), List.getElem?_eq_getElem _⟩
      have r0 := range_keep (hc k z hz) kr
      have HI : Hid ((Tryz.prog.info? 97).map (·.size) = some z.1.length) := Lib.hid (by rw [H22.out z (List.mem_of_getElem? hz)]; exact I22.out)
      have HC := Lib.hid (HPP.out z (List.mem_of_getElem? hz))
      have hlt' : (k : Int) < n := by omega
      cases hok : z.2
      · have HE2 : Hid (((l.take (k + 1)).any fun z => z.2) = false) := Lib.hid (by
          rw [List.take_add_one, hz, List.any_append, hE.out]
          simp [hok])
        rw [hok] at HC
        clear hc hz hok
        generalize z.1 = zs at *
        go_wp2_with (first | ((with_reducible refine load_m r0 Tryz.underlying97 ?_ ?_ ?_ ?_ ?_); exact HI.out; rfl; rfl; rfl) | (go_at_call 59; refine (HC.out _ (hk.trans kr)).mono ?_; rintro e2 w2 ⟨rfl, k2⟩))
        go_roundw
        case rel => exact ⟨k + 1, by omega, by go_num, HE2, kr.trans k2⟩
        case measure => simp [intOf]; omega
      · have HE2 : Hid ((l.any fun z => z.2) = true) := Lib.hid (List.any_eq_true.2 ⟨z, List.mem_of_getElem? hz, hok⟩)
        rw [hok] at HC
        clear hc hz hok
        generalize z.1 = zs at *
        go_wp2_with (first | ((with_reducible refine load_m r0 Tryz.underlying97 ?_ ?_ ?_ ?_ ?_); exact HI.out; rfl; rfl; rfl) | (go_at_call 59; refine (HC.out _ (hk.trans kr)).mono ?_; rintro e2 w2 ⟨rfl, k2⟩))
        go_ret
        exact ⟨(k : Int), rfl, by omega, by rw [HE2.out]; simp, kr.trans k2⟩
    · obtain rfl : k = n := by omega
      have HE2 : Hid ((l.any fun z => z.2) = false) := Lib.hid (by
        have := hE.out
        rwa [List.take_of_length_le (by have := HN.out; omega)] at this)
      go_wp2_with fail
      go_ret
      exact ⟨-1, rfl, by omega, by rw [HE2.out]; rfl, kr⟩

set_option maxRecDepth 100000 in
set_option maxHeartbeats 4000000 in
theorem containsM_any (g : Nat) (lb : Array Value) (l : List (List Value × Bool)) (v : Value) (W1 w : World) (HP : ∀ z ∈ l, ∀ w, Kp W1 w → Calls Tryz.prog g (#[.agg z.1.toArray] ++ lb) w fun e w' => e = .returned (.bool z.2) ∧ Kp w w')
    (hg : g = 59) (hk : Kp W1 w) (h22 : ∀ z ∈ l, z.1.length = 22) (hr : RdM w v l) (hl : l.length ≤ 1000) :
    Calls Tryz.prog 57 #[v, .func (.func g) #[] lb] w fun e w' => e = .returned (.bool (l.any fun z => z.2)) ∧ Kp w w' := by
  have C1 := Lib.hid (indexM_any g lb l v W1 w HP hg hk h22 hr hl)
  generalize (l.any fun z => z.2) = B at C1 ⊢
  clear HP hk hr h22 hg
  go_enter Tryz.func57, Tryz.ntmps57
  go_wp2_with fail
  refine C1.out.mono ?_
  rintro e1 w1 ⟨R, rfl, hR, hB, k1⟩
  have HB := Lib.hid hB
  clear hB
  go_wp2_with fail
  go_ret
  exact ⟨ret_bool HB.out, k1⟩

set_option maxRecDepth 100000 in
set_option maxHeartbeats 4000000 in
theorem stepsFrom_s (At Ak : Option Addr) (nt nk ct ck : Nat) (l : List Ter) (m : List Knd) (a b c d e W H : Int) (Ax Ar Ay : Option Addr) (nx cx nr cr ny cy : Nat) (lt lr ld : List Int) (T Z : Int) (Au : Option Addr) (nu cu : Nat) (us : List Uni) (k : Nat) (sx kx ax tx : Int) (i : Int) (P : Nat → Bool) (w : World) (ht : Tab w) (hB : BrdAt w At Ak nt nk l m (.slice Ax nx cx) (.slice Ar nr cr) (.slice Ay ny cy) lt lr ld) (hS : StaAt w (.slice Au nu cu) us) (hz : us[k]? = some ⟨sx, kx, ax, tx⟩) (hss : sx = 0 ∨ sx = 1) (g1 : 1 ≤ W) (g2 : W ≤ 10) (g3 : 1 ≤ H) (g4 : H ≤ 10) (hi : onI W H i = true) :
    Calls Tryz.prog 58 #[bv (.slice At nt ct) (.slice Ak nk ck) a b c d e W H (.slice Ax nx cx) (.slice Ar nr cr) (.slice Ay ny cy), sv T Z (.slice Au nu cu), .int .i64 (k : Int), .int .i64 i] w fun e' w' => ∃ v, e' = .returned v ∧ OwnM w' w.heap.size v (stL (fun q : Nat => nbM W H i (q : Int)) (fun q : Nat => [.int .i64 sx, .int .i64 kx, .int .i64 ax, .int .i64 tx, .slice At nt ct, .slice Ak nk ck, .int .i64 a, .int .i64 b, .int .i64 c, .int .i64 d, .int .i64 e, .int .i64 W, .int .i64 H, .slice Ax nx cx, .slice Ar nr cr, .slice Ay ny cy, .int .i64 T, .int .i64 Z, .slice Au nu cu, .int .i64 (1 - sx), .int .i64 i, .int .i64 (nbI W i (q : Int))]) P 6) ∧ Kp w w' := by
  have KA : Kp w ((w.alloc (.cells #[.slice At nt ct, .slice Ak nk ck, .int .i64 a, .int .i64 b, .int .i64 c, .int .i64 d, .int .i64 e, .int .i64 W, .int .i64 H, .slice Ax nx cx, .slice Ar nr cr, .slice Ay ny cy] 44)).alloc (.cells #[.int .i64 T, .int .i64 Z, .slice Au nu cu] 48)) := ((Kp.refl w).alloc _).alloc _
  have s0 : cb12 ((w.alloc (.cells #[.slice At nt ct, .slice Ak nk ck, .int .i64 a, .int .i64 b, .int .i64 c, .int .i64 d, .int .i64 e, .int .i64 W, .int .i64 H, .slice Ax nx cx, .slice Ar nr cr, .slice Ay ny cy] 44)).alloc (.cells #[.int .i64 T, .int .i64 Z, .slice Au nu cu] 48)) (w.heap.size) (.slice At nt ct) (.slice Ak nk ck) (.int .i64 a) (.int .i64 b) (.int .i64 c) (.int .i64 d) (.int .i64 e) (.int .i64 W) (.int .i64 H) (.slice Ax nx cx) (.slice Ar nr cr) (.slice Ay ny cy) (cb3 ((w.alloc (.cells #[.slice At nt ct, .slice Ak nk ck, .int .i64 a, .int .i64 b, .int .i64 c, .int .i64 d, .int .i64 e, .int .i64 W, .int .i64 H, .slice Ax nx cx, .slice Ar nr cr, .slice Ay ny cy] 44)).alloc (.cells #[.int .i64 T, .int .i64 Z, .slice Au nu cu] 48)) (w.heap.size + 1) (.int .i64 T) (.int .i64 Z) (.slice Au nu cu) (Kp w ((w.alloc (.cells #[.slice At nt ct, .slice Ak nk ck, .int .i64 a, .int .i64 b, .int .i64 c, .int .i64 d, .int .i64 e, .int .i64 W, .int .i64 H, .slice Ax nx cx, .slice Ar nr cr, .slice Ay ny cy] 44)).alloc (.cells #[.int .i64 T, .int .i64 Z, .slice Au nu cu] 48)))) := ⟨by simp [go_sem], by simp [go_sem], by simp [go_sem], by simp [go_sem], by simp [go_sem], by simp [go_sem], by simp [go_sem], by simp [go_sem], by simp [go_sem], by simp [go_sem], by simp [go_sem], by simp [go_sem], by simp [go_sem], by simp [go_sem], by simp [go_sem], KA⟩
  have HT := Lib.hid ht
  have HB := Lib.hid hB
  have HS := Lib.hid hS
  have I22 : Hid ((Tryz.prog.info? 97).map (·.size) = some 22) := Lib.hid (by kernel_rfl)
  obtain ⟨j0, hj0, hz0, hs0, hb0⟩ := info_parts infoStep
  have CS : Hid (∀ q : Nat, q < 6 → ∀ w, Tab w → BrdAt w At Ak nt nk l m (.slice Ax nx cx) (.slice Ar nr cr) (.slice Ay ny cy) lt lr ld → StaAt w (.slice Au nu cu) us → Calls Tryz.prog 83 #[bv (.slice At nt ct) (.slice Ak nk ck) a b c d e W H (.slice Ax nx cx) (.slice Ar nr cr) (.slice Ay ny cy), sv T Z (.slice Au nu cu), .int .i64 (k : Int), .int .i64 i, .int .i64 (q : Int)] w fun e' w' => e' = .returned (.tuple #[.agg #[.int .i64 sx, .int .i64 kx, .int .i64 ax, .int .i64 tx, .slice At nt ct, .slice Ak nk ck, .int .i64 a, .int .i64 b, .int .i64 c, .int .i64 d, .int .i64 e, .int .i64 W, .int .i64 H, .slice Ax nx cx, .slice Ar nr cr, .slice Ay ny cy, .int .i64 T, .int .i64 Z, .slice Au nu cu, .int .i64 (1 - sx), .int .i64 i, .int .i64 (vI (nbM W H i (q : Int)) (nbI W i (q : Int)))], .bool (nbM W H i (q : Int))]) ∧ Kp w w') := Lib.hid fun q hq w ht hB hS => by
    have hnb : nbB W H i (q : Int) = nbM W H i (q : Int) := by unfold nbB; rw [hi, dirB_mk (by omega) (by omega)]; rfl
    have := stepOf_any At Ak nt nk ct ck l m a b c d e W H (.slice Ax nx cx) (.slice Ar nr cr) (.slice Ay ny cy) lt lr ld T Z (.slice Au nu cu) us k sx kx ax tx i (q : Int) _ _ w ht hB hS hz hss g1 g2 g3 g4 rfl rfl
    rw [hnb] at this
    exact this
  obtain ⟨F, hF⟩ : ∃ F : Nat → List Value, F = (fun q : Nat => [.int .i64 sx, .int .i64 kx, .int .i64 ax, .int .i64 tx, .slice At nt ct, .slice Ak nk ck, .int .i64 a, .int .i64 b, .int .i64 c, .int .i64 d, .int .i64 e, .int .i64 W, .int .i64 H, .slice Ax nx cx, .slice Ar nr cr, .slice Ay ny cy, .int .i64 T, .int .i64 Z, .slice Au nu cu, .int .i64 (1 - sx), .int .i64 i, .int .i64 (nbI W i (q : Int))]) := ⟨_, rfl⟩
  have HF : Hid (∀ q : Nat, F q = [.int .i64 sx, .int .i64 kx, .int .i64 ax, .int .i64 tx, .slice At nt ct, .slice Ak nk ck, .int .i64 a, .int .i64 b, .int .i64 c, .int .i64 d, .int .i64 e, .int .i64 W, .int .i64 H, .slice Ax nx cx, .slice Ar nr cr, .slice Ay ny cy, .int .i64 T, .int .i64 Z, .slice Au nu cu, .int .i64 (1 - sx), .int .i64 i, .int .i64 (nbI W i (q : Int))]) := Lib.hid fun q => by rw [hF]
  rw [← hF]
  obtain ⟨bq, hb⟩ : ∃ b : Nat → Bool, b = fun q : Nat => nbM W H i (q : Int) := ⟨_, rfl⟩
  have HBQ : Hid (∀ q : Nat, bq q = nbM W H i (q : Int)) := Lib.hid fun q => by rw [hb]
  rw [← hb]
  clear ht hB hS hz hss g1 g2 g3 g4 hi hF hb
  go_enter Tryz.func58, Tryz.ntmps58
  go_upto_region 1 with (fail)
  have hzW : ((w.alloc (.cells #[.slice At nt ct, .slice Ak nk ck, .int .i64 a, .int .i64 b, .int .i64 c, .int .i64 d, .int .i64 e, .int .i64 W, .int .i64 H, .slice Ax nx cx, .slice Ar nr cr, .slice Ay ny cy] 44)).alloc (.cells #[.int .i64 T, .int .i64 Z, .slice Au nu cu] 48)).heap.size = w.heap.size + 2 := by simp
  have HZW := Lib.hid hzW
  clear hzW
  generalize ((w.alloc (.cells #[.slice At nt ct, .slice Ak nk ck, .int .i64 a, .int .i64 b, .int .i64 c, .int .i64 d, .int .i64 e, .int .i64 W, .int .i64 H, .slice Ax nx cx, .slice Ar nr cr, .slice Ay ny cy] 44)).alloc (.cells #[.int .i64 T, .int .i64 Z, .slice Au nu cu] 48)) = W0 at *
  go_wp2_with fail
  go_loopw [9, 10, 11, 12, 13] (fun v _ _ _ sq wx => ∃ q : Nat, q ≤ 6 ∧ sq = .int .i64 q ∧ OwnM wx W0.heap.size v (stL bq F P q) ∧ Kp W0 wx) (fun _ _ _ _ sq _ => 6 - (intOf sq).toNat)
  case atStart => exact ⟨0, by omega, rfl, OwnM.nil _ _, Kp.refl _⟩
  case round =>
    obtain ⟨q, hqn, rfl, ho, kr⟩ := hrel
    by_cases hlt : q < 6
    · have hlt' : (q : Int) < 6 := by omega
      have sr := keepz15 kr s0
      have HO := Lib.hid ho
      have hln := stL_len bq F P q
      have CQ := Lib.hid (CS.out q hlt)
      have hbq := HBQ.out q
      clear ho
      cases hm : nbM W H i (q : Int)
      · rw [hm] at CQ hbq
        have HL : Hid (stL bq F P (q + 1) = stL bq F P q) := Lib.hid (by simp [stL, hbq])
        generalize vI false (nbI W i (q : Int)) = tq at CQ
        clear hm hbq
        go_wp2_with fail
        refine (CQ.out _ (HT.out.keep sr.2.2.2.2.2.2.2.2.2.2.2.2.2.2.2) (HB.out.keep sr.2.2.2.2.2.2.2.2.2.2.2.2.2.2.2) (HS.out.keep sr.2.2.2.2.2.2.2.2.2.2.2.2.2.2.2)).mono ?_
        rintro e1 w1 ⟨rfl, k1⟩
        have kq := kr.trans k1
        have t1 : World.there (w1.alloc (.cells #[.int .i64 0, .int .i64 0, .int .i64 0, .int .i64 0, .slice none 0 0, .slice none 0 0, .int .i64 0, .int .i64 0, .int .i64 0, .int .i64 0, .int .i64 0, .int .i64 0, .int .i64 0, .slice none 0 0, .slice none 0 0, .slice none 0 0, .int .i64 0, .int .i64 0, .slice none 0 0, .int .i64 0, .int .i64 0, .int .i64 0] 97)) w1.heap.size 0 (#[.int .i64 sx, .int .i64 kx, .int .i64 ax, .int .i64 tx, .slice At nt ct, .slice Ak nk ck, .int .i64 a, .int .i64 b, .int .i64 c, .int .i64 d, .int .i64 e, .int .i64 W, .int .i64 H, .slice Ax nx cx, .slice Ar nr cr, .slice Ay ny cy, .int .i64 T, .int .i64 Z, .slice Au nu cu, .int .i64 (1 - sx), .int .i64 i, .int .i64 tq] : Array Value).size := there_fresh w1 [.int .i64 0, .int .i64 0, .int .i64 0, .int .i64 0, .slice none 0 0, .slice none 0 0, .int .i64 0, .int .i64 0, .int .i64 0, .int .i64 0, .int .i64 0, .int .i64 0, .int .i64 0, .slice none 0 0, .slice none 0 0, .slice none 0 0, .int .i64 0, .int .i64 0, .slice none 0 0, .int .i64 0, .int .i64 0, .int .i64 0] 97
        obtain ⟨W9, hW9⟩ : ∃ W9, W9 = (w1.alloc (.cells #[.int .i64 0, .int .i64 0, .int .i64 0, .int .i64 0, .slice none 0 0, .slice none 0 0, .int .i64 0, .int .i64 0, .int .i64 0, .int .i64 0, .int .i64 0, .int .i64 0, .int .i64 0, .slice none 0 0, .slice none 0 0, .slice none 0 0, .int .i64 0, .int .i64 0, .slice none 0 0, .int .i64 0, .int .i64 0, .int .i64 0] 97)).setCells w1.heap.size 0 (#[.int .i64 sx, .int .i64 kx, .int .i64 ax, .int .i64 tx, .slice At nt ct, .slice Ak nk ck, .int .i64 a, .int .i64 b, .int .i64 c, .int .i64 d, .int .i64 e, .int .i64 W, .int .i64 H, .slice Ax nx cx, .slice Ar nr cr, .slice Ay ny cy, .int .i64 T, .int .i64 Z, .slice Au nu cu, .int .i64 (1 - sx), .int .i64 i, .int .i64 tq] : Array Value).toList := ⟨_, rfl⟩
        have r9 : World.rangeAt W9 w1.heap.size 0 [.int .i64 sx, .int .i64 kx, .int .i64 ax, .int .i64 tx, .slice At nt ct, .slice Ak nk ck, .int .i64 a, .int .i64 b, .int .i64 c, .int .i64 d, .int .i64 e, .int .i64 W, .int .i64 H, .slice Ax nx cx, .slice Ar nr cr, .slice Ay ny cy, .int .i64 T, .int .i64 Z, .slice Au nu cu, .int .i64 (1 - sx), .int .i64 i, .int .i64 tq] := by
          rw [hW9]
          exact World.rangeAt_setCells_same _ _ _ _ t1
        have K9 : Kp W0 W9 := by
          rw [hW9]
          exact kp_cells kq.size _ _ _ (kq.alloc _)
        have H9 : Kp w1 W9 := by
          rw [hW9]
          exact kp_cells (Nat.le_refl _) _ _ _ ((Kp.refl w1).alloc _)
        have HW9 := Lib.hid hW9
        clear hW9
        have O9 := Lib.hid (HO.out.keep (k1.trans H9))
        clear sr kr k1 H9 HO CQ
        go_wp2_with (first | ((with_reducible refine store_m t1 ?_ ?_ ?_ ?_ ?_ ?_); exact I22.out; (simp [Value.oneCell']); rfl; rfl; rfl; rw [← HW9.out]) | ((with_reducible refine load_m r9 Tryz.underlying97 ?_ ?_ ?_ ?_ ?_); exact I22.out; rfl; rfl; rfl))
        go_roundw
        case rel => exact ⟨q + 1, by omega, by go_num, by rw [HL.out]; exact O9.out, K9⟩
        case measure => simp [intOf]; omega
      · rw [hm] at CQ hbq
        have HL : Hid (stL bq F P (q + 1) = stL bq F P q ++ [(F q, P q)]) := Lib.hid (by simp [stL, hbq])
        have HQ := HF.out q
        rw [vI_true] at CQ
        generalize nbI W i (q : Int) = tq at CQ HQ
        have HQH := Lib.hid HQ
        clear hm hbq HQ
        go_wp2_with fail
        refine (CQ.out _ (HT.out.keep sr.2.2.2.2.2.2.2.2.2.2.2.2.2.2.2) (HB.out.keep sr.2.2.2.2.2.2.2.2.2.2.2.2.2.2.2) (HS.out.keep sr.2.2.2.2.2.2.2.2.2.2.2.2.2.2.2)).mono ?_
        rintro e1 w1 ⟨rfl, k1⟩
        have kq := kr.trans k1
        have t1 : World.there (w1.alloc (.cells #[.int .i64 0, .int .i64 0, .int .i64 0, .int .i64 0, .slice none 0 0, .slice none 0 0, .int .i64 0, .int .i64 0, .int .i64 0, .int .i64 0, .int .i64 0, .int .i64 0, .int .i64 0, .slice none 0 0, .slice none 0 0, .slice none 0 0, .int .i64 0, .int .i64 0, .slice none 0 0, .int .i64 0, .int .i64 0, .int .i64 0] 97)) w1.heap.size 0 (#[.int .i64 sx, .int .i64 kx, .int .i64 ax, .int .i64 tx, .slice At nt ct, .slice Ak nk ck, .int .i64 a, .int .i64 b, .int .i64 c, .int .i64 d, .int .i64 e, .int .i64 W, .int .i64 H, .slice Ax nx cx, .slice Ar nr cr, .slice Ay ny cy, .int .i64 T, .int .i64 Z, .slice Au nu cu, .int .i64 (1 - sx), .int .i64 i, .int .i64 tq] : Array Value).size := there_fresh w1 [.int .i64 0, .int .i64 0, .int .i64 0, .int .i64 0, .slice none 0 0, .slice none 0 0, .int .i64 0, .int .i64 0, .int .i64 0, .int .i64 0, .int .i64 0, .int .i64 0, .int .i64 0, .slice none 0 0, .slice none 0 0, .slice none 0 0, .int .i64 0, .int .i64 0, .slice none 0 0, .int .i64 0, .int .i64 0, .int .i64 0] 97
        obtain ⟨W9, hW9⟩ : ∃ W9, W9 = (w1.alloc (.cells #[.int .i64 0, .int .i64 0, .int .i64 0, .int .i64 0, .slice none 0 0, .slice none 0 0, .int .i64 0, .int .i64 0, .int .i64 0, .int .i64 0, .int .i64 0, .int .i64 0, .int .i64 0, .slice none 0 0, .slice none 0 0, .slice none 0 0, .int .i64 0, .int .i64 0, .slice none 0 0, .int .i64 0, .int .i64 0, .int .i64 0] 97)).setCells w1.heap.size 0 (#[.int .i64 sx, .int .i64 kx, .int .i64 ax, .int .i64 tx, .slice At nt ct, .slice Ak nk ck, .int .i64 a, .int .i64 b, .int .i64 c, .int .i64 d, .int .i64 e, .int .i64 W, .int .i64 H, .slice Ax nx cx, .slice Ar nr cr, .slice Ay ny cy, .int .i64 T, .int .i64 Z, .slice Au nu cu, .int .i64 (1 - sx), .int .i64 i, .int .i64 tq] : Array Value).toList := ⟨_, rfl⟩
        have r9 : World.rangeAt W9 w1.heap.size 0 [.int .i64 sx, .int .i64 kx, .int .i64 ax, .int .i64 tx, .slice At nt ct, .slice Ak nk ck, .int .i64 a, .int .i64 b, .int .i64 c, .int .i64 d, .int .i64 e, .int .i64 W, .int .i64 H, .slice Ax nx cx, .slice Ar nr cr, .slice Ay ny cy, .int .i64 T, .int .i64 Z, .slice Au nu cu, .int .i64 (1 - sx), .int .i64 i, .int .i64 tq] := by
          rw [hW9]
          exact World.rangeAt_setCells_same _ _ _ _ t1
        have K9 : Kp W0 W9 := by
          rw [hW9]
          exact kp_cells kq.size _ _ _ (kq.alloc _)
        have H9 : Kp w1 W9 := by
          rw [hW9]
          exact kp_cells (Nat.le_refl _) _ _ _ ((Kp.refl w1).alloc _)
        have HW9 := Lib.hid hW9
        clear hW9
        have O9 := HO.out.keep (k1.trans H9)
        have HO9 := Lib.hid O9.2
        have H22 := Lib.hid O9.1
        clear sr kr k1 H9 HO CQ O9
        generalize hL : stL bq F P q = L at HO9 H22 HL hln
        generalize hM : L.length = M at HO9 hln
        have HM := Lib.hid hM
        clear hL hM
        go_wp2_with (first | ((with_reducible refine store_m t1 ?_ ?_ ?_ ?_ ?_ ?_); exact I22.out; (simp [Value.oneCell']); rfl; rfl; rfl; rw [← HW9.out]) | ((with_reducible refine load_m r9 Tryz.underlying97 ?_ ?_ ?_ ?_ ?_); exact I22.out; rfl; rfl; rfl) | (at_builtin; refine wpList_append_own_at _ rfl (.tmp 26) (.tmp 28) 95 rfl W0.heap.size 97 j0 (.agg #[.int .i64 0, .int .i64 0, .int .i64 0, .int .i64 0, .slice none 0 0, .slice none 0 0, .int .i64 0, .int .i64 0, .int .i64 0, .int .i64 0, .int .i64 0, .int .i64 0, .int .i64 0, .slice none 0 0, .slice none 0 0, .slice none 0 0, .int .i64 0, .int .i64 0, .slice none 0 0, .int .i64 0, .int .i64 0, .int .i64 0]) 22 272 Tryz.underlying95 hj0 hz0 hs0 hb0 rfl (by decide) _ M (cellsM L) rfl (World.ownsRow.alloc HO9.out _) ⟨W9.heap.size, 0, none⟩ 1 1 [.int .i64 sx, .int .i64 kx, .int .i64 ax, .int .i64 tx, .slice At nt ct, .slice Ak nk ck, .int .i64 a, .int .i64 b, .int .i64 c, .int .i64 d, .int .i64 e, .int .i64 W, .int .i64 H, .slice Ax nx cx, .slice Ar nr cr, .slice Ay ny cy, .int .i64 T, .int .i64 Z, .slice Au nu cu, .int .i64 (1 - sx), .int .i64 i, .int .i64 tq] rfl rfl (new_row W9 [.int .i64 sx, .int .i64 kx, .int .i64 ax, .int .i64 tx, .slice At nt ct, .slice Ak nk ck, .int .i64 a, .int .i64 b, .int .i64 c, .int .i64 d, .int .i64 e, .int .i64 W, .int .i64 H, .slice Ax nx cx, .slice Ar nr cr, .slice Ay ny cy, .int .i64 T, .int .i64 Z, .slice Au nu cu, .int .i64 (1 - sx), .int .i64 i, .int .i64 tq] 97) (by simp [Value.oneCell']) (by simp only [maxLen]; omega) (by omega) (by have h5 := K9.size; simp; omega) ?_; intro v' w3 hown2 hgrow2 hnil2 hat2; clear hnil2 hat2; have K5 : Kp W0 w3 := (K9.alloc _).grown hgrow2 (fun k e => by have := (World.ownsRow.lt HO9.out k e).1; omega); have O3 := Lib.hid hown2; clear hown2 hgrow2))
        go_roundw
        case rel => exact ⟨q + 1, by omega, by go_num, by rw [HL.out, HQH.out]; exact OwnM.snoc _ H22.out rfl (by rw [HM.out]; exact O3.out), K5⟩
        case measure => simp [intOf]; omega
    · obtain rfl : q = 6 := by omega
      go_wp2_with fail
      go_ret
      exact ⟨_, rfl, ho.base (by have := HZW.out; omega), KA.trans kr⟩

theorem stepsFrom_any (At Ak : Option Addr) (nt nk ct ck : Nat) (l : List Ter) (m : List Knd) (a b c d e W H : Int) (x r y : Value) (lt lr ld : List Int) (T Z : Int) (u : Value) (us : List Uni) (k : Nat) (sx kx ax tx : Int) (i : Int) (P : Nat → Bool) (w : World) (ht : Tab w) (hB : BrdAt w At Ak nt nk l m x r y lt lr ld) (hS : StaAt w u us) (hz : us[k]? = some ⟨sx, kx, ax, tx⟩) (hss : sx = 0 ∨ sx = 1) (g1 : 1 ≤ W) (g2 : W ≤ 10) (g3 : 1 ≤ H) (g4 : H ≤ 10) (hi : onI W H i = true) :
    Calls Tryz.prog 58 #[bv (.slice At nt ct) (.slice Ak nk ck) a b c d e W H x r y, sv T Z u, .int .i64 (k : Int), .int .i64 i] w fun e' w' => ∃ v, e' = .returned v ∧ OwnM w' w.heap.size v (stL (fun q : Nat => nbM W H i (q : Int)) (fun q : Nat => [.int .i64 sx, .int .i64 kx, .int .i64 ax, .int .i64 tx, .slice At nt ct, .slice Ak nk ck, .int .i64 a, .int .i64 b, .int .i64 c, .int .i64 d, .int .i64 e, .int .i64 W, .int .i64 H, x, r, y, .int .i64 T, .int .i64 Z, u, .int .i64 (1 - sx), .int .i64 i, .int .i64 (nbI W i (q : Int))]) P 6) ∧ Kp w w' := by
  obtain ⟨Ax, cx, rfl, _⟩ := hB.L.rt
  obtain ⟨Ar, cr, rfl, _⟩ := hB.L.rr
  obtain ⟨Ay, cy, rfl, _⟩ := hB.L.rd
  obtain ⟨Au, cu, rfl, _⟩ := hS.rd
  exact stepsFrom_s At Ak nt nk ct ck l m a b c d e W H Ax Ar Ay lt.length cx lr.length cr ld.length cy lt lr ld T Z Au us.length cu us k sx kx ax tx i P w ht hB hS hz hss g1 g2 g3 g4 hi

end Go.Proofs.YtiojmbbdcccokaaGreatDoor
