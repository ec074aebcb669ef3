/-
  Terrains' heights as obstacles and whether a hex blocks a sight, both sides; the program's closure. Nothing that was there is changed.
-/
import Derived.Test.YtfohhofpfmbheaaGreatDoorSgM
import Derived.StillTailTactics
import Derived.Deep.Cut
import Derived.Test.YtfohhofpfmbheaaGreatDoorQe
import Derived.Test.YtfohhofpfmbheaaGreatDoorQf
namespace Go.Proofs.YtfohhofpfmbheaaGreatDoor
open Go.RowKit

theorem keep12k {W0 w w1 : World} {p0 p1 p2 p3 p4 p5 p6 p7 p8 p9 p10 p11 : Addr} {v0 v1 v2 v3 v4 v5 v6 v7 v8 v9 v10 v11 : Value} (k : Kp w w1) (h : w.cell? p0 = some v0 ∧ w.cell? p1 = some v1 ∧ w.cell? p2 = some v2 ∧ w.cell? p3 = some v3 ∧ w.cell? p4 = some v4 ∧ w.cell? p5 = some v5 ∧ w.cell? p6 = some v6 ∧ w.cell? p7 = some v7 ∧ w.cell? p8 = some v8 ∧ w.cell? p9 = some v9 ∧ w.cell? p10 = some v10 ∧ w.cell? p11 = some v11 ∧ Kp W0 w) : w1.cell? p0 = some v0 ∧ w1.cell? p1 = some v1 ∧ w1.cell? p2 = some v2 ∧ w1.cell? p3 = some v3 ∧ w1.cell? p4 = some v4 ∧ w1.cell? p5 = some v5 ∧ w1.cell? p6 = some v6 ∧ w1.cell? p7 = some v7 ∧ w1.cell? p8 = some v8 ∧ w1.cell? p9 = some v9 ∧ w1.cell? p10 = some v10 ∧ w1.cell? p11 = some v11 ∧ Kp W0 w1 :=
  ⟨k.cell h.1, k.cell h.2.1, k.cell h.2.2.1, k.cell h.2.2.2.1, k.cell h.2.2.2.2.1, k.cell h.2.2.2.2.2.1, k.cell h.2.2.2.2.2.2.1, k.cell h.2.2.2.2.2.2.2.1, k.cell h.2.2.2.2.2.2.2.2.1, k.cell h.2.2.2.2.2.2.2.2.2.1, k.cell h.2.2.2.2.2.2.2.2.2.2.1, k.cell h.2.2.2.2.2.2.2.2.2.2.2.1, h.2.2.2.2.2.2.2.2.2.2.2.2.trans k⟩
theorem drew12k {W0 w : World} {p0 p1 p2 p3 p4 p5 p6 p7 p8 p9 p10 p11 : Addr} {v0 v1 v2 v3 v4 v5 v6 v7 v8 v9 v10 v11 : Value} (h : w.cell? p0 = some v0 ∧ w.cell? p1 = some v1 ∧ w.cell? p2 = some v2 ∧ w.cell? p3 = some v3 ∧ w.cell? p4 = some v4 ∧ w.cell? p5 = some v5 ∧ w.cell? p6 = some v6 ∧ w.cell? p7 = some v7 ∧ w.cell? p8 = some v8 ∧ w.cell? p9 = some v9 ∧ w.cell? p10 = some v10 ∧ w.cell? p11 = some v11 ∧ Kp W0 w) : w.drew.cell? p0 = some v0 ∧ w.drew.cell? p1 = some v1 ∧ w.drew.cell? p2 = some v2 ∧ w.drew.cell? p3 = some v3 ∧ w.drew.cell? p4 = some v4 ∧ w.drew.cell? p5 = some v5 ∧ w.drew.cell? p6 = some v6 ∧ w.drew.cell? p7 = some v7 ∧ w.drew.cell? p8 = some v8 ∧ w.drew.cell? p9 = some v9 ∧ w.drew.cell? p10 = some v10 ∧ w.drew.cell? p11 = some v11 ∧ Kp W0 w.drew :=
  ⟨h.1, h.2.1, h.2.2.1, h.2.2.2.1, h.2.2.2.2.1, h.2.2.2.2.2.1, h.2.2.2.2.2.2.1, h.2.2.2.2.2.2.2.1, h.2.2.2.2.2.2.2.2.1, h.2.2.2.2.2.2.2.2.2.1, h.2.2.2.2.2.2.2.2.2.2.1, h.2.2.2.2.2.2.2.2.2.2.2.1, h.2.2.2.2.2.2.2.2.2.2.2.2.drew⟩

theorem newT5 {W : World} {b : Nat} {v : Value} {R : Prop} (_h : W.cell? ⟨b, 0, none⟩ = some v ∧ R) : (W.alloc (.cells #[.string ByteArray.empty, .slice none 0 0, .int .i64 0, .int .i64 0, .bool false] 117)).cell? ⟨W.heap.size, 0, none⟩ = some (.string ByteArray.empty) ∧ (W.alloc (.cells #[.string ByteArray.empty, .slice none 0 0, .int .i64 0, .int .i64 0, .bool false] 117)).cell? ⟨W.heap.size, 1, none⟩ = some (.slice none 0 0) ∧ (W.alloc (.cells #[.string ByteArray.empty, .slice none 0 0, .int .i64 0, .int .i64 0, .bool false] 117)).cell? ⟨W.heap.size, 2, none⟩ = some (.int .i64 0) ∧ (W.alloc (.cells #[.string ByteArray.empty, .slice none 0 0, .int .i64 0, .int .i64 0, .bool false] 117)).cell? ⟨W.heap.size, 3, none⟩ = some (.int .i64 0) ∧ (W.alloc (.cells #[.string ByteArray.empty, .slice none 0 0, .int .i64 0, .int .i64 0, .bool false] 117)).cell? ⟨W.heap.size, 4, none⟩ = some (.bool false) ∧ (W.alloc (.cells #[.string ByteArray.empty, .slice none 0 0, .int .i64 0, .int .i64 0, .bool false] 117)).frozen? ⟨W.heap.size, 0, none⟩ = false ∧ (W.alloc (.cells #[.string ByteArray.empty, .slice none 0 0, .int .i64 0, .int .i64 0, .bool false] 117)).frozen? ⟨W.heap.size, 1, none⟩ = false ∧ (W.alloc (.cells #[.string ByteArray.empty, .slice none 0 0, .int .i64 0, .int .i64 0, .bool false] 117)).frozen? ⟨W.heap.size, 2, none⟩ = false ∧ (W.alloc (.cells #[.string ByteArray.empty, .slice none 0 0, .int .i64 0, .int .i64 0, .bool false] 117)).frozen? ⟨W.heap.size, 3, none⟩ = false ∧ (W.alloc (.cells #[.string ByteArray.empty, .slice none 0 0, .int .i64 0, .int .i64 0, .bool false] 117)).frozen? ⟨W.heap.size, 4, none⟩ = false := ⟨by simp [go_sem], by simp [go_sem], by simp [go_sem], by simp [go_sem], by simp [go_sem], by simp [go_sem], by simp [go_sem], by simp [go_sem], by simp [go_sem], by simp [go_sem]⟩
theorem keepT5 {W W' : World} {q : Nat} {v0 v1 v2 v3 v4 : Value} (k : Kp W W') (h : W.cell? ⟨q, 0, none⟩ = some (v0) ∧ W.cell? ⟨q, 1, none⟩ = some (v1) ∧ W.cell? ⟨q, 2, none⟩ = some (v2) ∧ W.cell? ⟨q, 3, none⟩ = some (v3) ∧ W.cell? ⟨q, 4, none⟩ = some (v4) ∧ W.frozen? ⟨q, 0, none⟩ = false ∧ W.frozen? ⟨q, 1, none⟩ = false ∧ W.frozen? ⟨q, 2, none⟩ = false ∧ W.frozen? ⟨q, 3, none⟩ = false ∧ W.frozen? ⟨q, 4, none⟩ = false) : W'.cell? ⟨q, 0, none⟩ = some (v0) ∧ W'.cell? ⟨q, 1, none⟩ = some (v1) ∧ W'.cell? ⟨q, 2, none⟩ = some (v2) ∧ W'.cell? ⟨q, 3, none⟩ = some (v3) ∧ W'.cell? ⟨q, 4, none⟩ = some (v4) ∧ W'.frozen? ⟨q, 0, none⟩ = false ∧ W'.frozen? ⟨q, 1, none⟩ = false ∧ W'.frozen? ⟨q, 2, none⟩ = false ∧ W'.frozen? ⟨q, 3, none⟩ = false ∧ W'.frozen? ⟨q, 4, none⟩ = false :=
  ⟨k.cell h.1, k.cell h.2.1, k.cell h.2.2.1, k.cell h.2.2.2.1, k.cell h.2.2.2.2.1, (k.liv ⟨h.1, h.2.2.2.2.2.1⟩).2, (k.liv ⟨h.2.1, h.2.2.2.2.2.2.1⟩).2, (k.liv ⟨h.2.2.1, h.2.2.2.2.2.2.2.1⟩).2, (k.liv ⟨h.2.2.2.1, h.2.2.2.2.2.2.2.2.1⟩).2, (k.liv ⟨h.2.2.2.2.1, h.2.2.2.2.2.2.2.2.2⟩).2⟩
theorem cellB {w : World} {p : Addr} {v : Value} (h : w.cell? p = some v) : p.block < w.heap.size := by
  rcases Nat.lt_or_ge p.block w.heap.size with h1 | h1
  · exact h1
  · simp [World.cell?, Array.getElem?_eq_none h1] at h

/-- A function value that the call makes: on integers of which S holds it answers p, in all worlds behind W. -/
def PredI (g : Nat) (lb : Array Value) (p : Int → Bool) (S : Int → Prop) (W : World) : Prop := ∀ (x : Int) (w : World), S x → Kp W w → Calls Tryz.prog g (#[.int .i64 x] ++ lb) w fun e w' => e = .returned (.bool (p x)) ∧ Kp w w'
theorem PredI.keep {g : Nat} {lb : Array Value} {p : Int → Bool} {S : Int → Prop} {W W' : World} (h : PredI g lb p S W) (k : Kp W W') : PredI g lb p S W' := fun x w hx hk => h x w hx (k.trans hk)

theorem fieldHgt (nm : ByteArray) (A : Option Addr) (n c : Nat) (s h : Int) (b : Bool) (w : World) : (Instr.field 117 (tv nm A n c s h b) 3).run Tryz.prog w = .ok (.int .i64 h) w := by kernel_rfl

set_option maxRecDepth 100000 in
theorem top_any (nm : ByteArray) (A : Option Addr) (n c : Nat) (s h : Int) (b : Bool) (w : World) (h0 : 0 ≤ h) (h1 : h ≤ 100) :
    Calls Tryz.prog 116 #[tv nm A n c s h b] w fun e' w' => e' = .returned (.int .i64 (if b = true then h + 1 else h)) ∧ Kp w w' := by
  cases b
  · go_enter Tryz.func116, Tryz.ntmps116
    go_wp2_with fail
    go_ret
    exact ⟨ret_int (by simp), (Kp.refl w).alloc _⟩
  · go_enter Tryz.func116, Tryz.ntmps116
    go_wp2_with fail
    go_ret
    exact ⟨ret_int (by simp), (Kp.refl w).alloc _⟩
theorem topX_any (X : Int) (nm : ByteArray) (A : Option Addr) (n c : Nat) (s h : Int) (b : Bool) (w : World) (h0 : 0 ≤ h) (h1 : h ≤ 100) (hX : X = if b = true then h + 1 else h) :
    Calls Tryz.prog 116 #[tv nm A n c s h b] w fun e' w' => e' = .returned (.int .i64 X) ∧ Kp w w' := hX ▸ top_any nm A n c s h b w h0 h1
theorem most_any (a b : Int) (w : World) : Calls Tryz.prog 133 #[.int .i64 a, .int .i64 b] w fun e w' => e = .returned (.int .i64 (max a b)) ∧ w = w' := by
  by_cases h : b < a
  · go_enter Tryz.func133, Tryz.ntmps133
    go_wp2_with fail
    go_ret
    exact ⟨ret_int (by omega), rfl⟩
  · go_enter Tryz.func133, Tryz.ntmps133
    go_wp2_with fail
    go_ret
    exact ⟨ret_int (by omega), rfl⟩

theorem bTerrain_hgt (At Ak : Option Addr) (nt nk ct ck : Nat) (l : List Ter) (m : List Knd) (a b c d e W H : Int) (x r y : Value) (lt lr ld : List Int) (j : Nat) (w : World) (hB : BrdAt w At Ak nt nk l m x r y lt lr ld) (hok : brdOk ⟨l, m, a, b, c, d, e⟩ W H lt lr ld = true) (hm : 0 < m.length) (hj : j < lt.length) :
    Calls Tryz.prog 124 #[bv (.slice At nt ct) (.slice Ak nk ck) a b c d e W H x r y, .int .i64 (j : Int)] w fun e' w' => ∃ (nm : ByteArray) (g o n c : Nat) (s : Int) (bl : Bool), e' = .returned (tv nm (some ⟨g, o, none⟩) n c s (hgtI l lt (j : Int)) bl) ∧ (topI l lt (j : Int) = if bl = true then hgtI l lt (j : Int) + 1 else hgtI l lt (j : Int)) ∧ Kp w w' :=
  (bTerrain_full At Ak nt nk ct ck l m a b c d e W H x r y lt lr ld 0 j w hB hok hm hj).mono fun _ _ ⟨nm, g, o, n, c, s, t, h1, h2, _, _, h5⟩ => ⟨nm, g, o, n, c, s, t.blocks, by rw [hgtI_of h1]; exact h2, by rw [hgtI_of h1]; exact topI_of h1, h5⟩

theorem terrainAt_hgt (At Ak : Option Addr) (nt nk ct ck : Nat) (l : List Ter) (m : List Knd) (a b c d e W H : Int) (x r y : Value) (lt lr ld : List Int) (j : Nat) (w : World) (hB : BrdAt w At Ak nt nk l m x r y lt lr ld) (hok : brdOk ⟨l, m, a, b, c, d, e⟩ W H lt lr ld = true) (hm : 0 < m.length) (hj : j < lt.length) :
    Calls Tryz.prog 114 #[bv (.slice At nt ct) (.slice Ak nk ck) a b c d e W H x r y, .int .i64 (j : Int)] w fun e' w' => ∃ (nm : ByteArray) (g o n c : Nat) (s : Int) (bl : Bool), e' = .returned (tv nm (some ⟨g, o, none⟩) n c s (hgtI l lt (j : Int)) bl) ∧ (topI l lt (j : Int) = if bl = true then hgtI l lt (j : Int) + 1 else hgtI l lt (j : Int)) ∧ Kp w w' :=
  (terrainAt_full At Ak nt nk ct ck l m a b c d e W H x r y lt lr ld 0 j w hB hok hm hj).mono fun _ _ ⟨nm, g, o, n, c, s, t, h1, h2, _, _, h5⟩ => ⟨nm, g, o, n, c, s, t.blocks, by rw [hgtI_of h1]; exact h2, by rw [hgtI_of h1]; exact topI_of h1, h5⟩

theorem hgt_bd {l : List Ter} {m : List Knd} {a b c d e W H : Int} {lt lr ld : List Int} (j : Nat) (hok : brdOk ⟨l, m, a, b, c, d, e⟩ W H lt lr ld = true) : 0 ≤ hgtI l lt (j : Int) ∧ hgtI l lt (j : Int) ≤ 3 := by
  cases ht : terN l lt j with
  | none => simp [hgtI, ht]
  | some t => rw [hgtI_of ht]; exact ter_bd hok ht


set_option maxRecDepth 100000 in
set_option maxHeartbeats 4000000 in
theorem vHeight_any (At Ak : Option Addr) (nt nk ct ck : Nat) (l : List Ter) (m : List Knd) (a b c d e W H : Int) (x r y : Value) (lt lr ld : List Int) (j : Nat) (w : World) (hB : BrdAt w At Ak nt nk l m x r y lt lr ld) (hok : brdOk ⟨l, m, a, b, c, d, e⟩ W H lt lr ld = true) (hm : 0 < m.length) (hj : j < lt.length) :
    Calls Tryz.prog 132 #[bv (.slice At nt ct) (.slice Ak nk ck) a b c d e W H x r y, .int .i64 (j : Int)] w fun e' w' => e' = .returned (.int .i64 (topI l lt (j : Int))) ∧ Kp w w' := by
  have s0 : (w.alloc (.cells #[.slice At nt ct, .slice Ak nk ck, .int .i64 a, .int .i64 b, .int .i64 c, .int .i64 d, .int .i64 e, .int .i64 W, .int .i64 H, x, r, y] 41)).cell? ⟨w.heap.size, 0, none⟩ = some (.slice At nt ct) ∧ (w.alloc (.cells #[.slice At nt ct, .slice Ak nk ck, .int .i64 a, .int .i64 b, .int .i64 c, .int .i64 d, .int .i64 e, .int .i64 W, .int .i64 H, x, r, y] 41)).cell? ⟨w.heap.size, 1, none⟩ = some (.slice Ak nk ck) ∧ (w.alloc (.cells #[.slice At nt ct, .slice Ak nk ck, .int .i64 a, .int .i64 b, .int .i64 c, .int .i64 d, .int .i64 e, .int .i64 W, .int .i64 H, x, r, y] 41)).cell? ⟨w.heap.size, 2, none⟩ = some (.int .i64 a) ∧ (w.alloc (.cells #[.slice At nt ct, .slice Ak nk ck, .int .i64 a, .int .i64 b, .int .i64 c, .int .i64 d, .int .i64 e, .int .i64 W, .int .i64 H, x, r, y] 41)).cell? ⟨w.heap.size, 3, none⟩ = some (.int .i64 b) ∧ (w.alloc (.cells #[.slice At nt ct, .slice Ak nk ck, .int .i64 a, .int .i64 b, .int .i64 c, .int .i64 d, .int .i64 e, .int .i64 W, .int .i64 H, x, r, y] 41)).cell? ⟨w.heap.size, 4, none⟩ = some (.int .i64 c) ∧ (w.alloc (.cells #[.slice At nt ct, .slice Ak nk ck, .int .i64 a, .int .i64 b, .int .i64 c, .int .i64 d, .int .i64 e, .int .i64 W, .int .i64 H, x, r, y] 41)).cell? ⟨w.heap.size, 5, none⟩ = some (.int .i64 d) ∧ (w.alloc (.cells #[.slice At nt ct, .slice Ak nk ck, .int .i64 a, .int .i64 b, .int .i64 c, .int .i64 d, .int .i64 e, .int .i64 W, .int .i64 H, x, r, y] 41)).cell? ⟨w.heap.size, 6, none⟩ = some (.int .i64 e) ∧ (w.alloc (.cells #[.slice At nt ct, .slice Ak nk ck, .int .i64 a, .int .i64 b, .int .i64 c, .int .i64 d, .int .i64 e, .int .i64 W, .int .i64 H, x, r, y] 41)).cell? ⟨w.heap.size, 7, none⟩ = some (.int .i64 W) ∧ (w.alloc (.cells #[.slice At nt ct, .slice Ak nk ck, .int .i64 a, .int .i64 b, .int .i64 c, .int .i64 d, .int .i64 e, .int .i64 W, .int .i64 H, x, r, y] 41)).cell? ⟨w.heap.size, 8, none⟩ = some (.int .i64 H) ∧ (w.alloc (.cells #[.slice At nt ct, .slice Ak nk ck, .int .i64 a, .int .i64 b, .int .i64 c, .int .i64 d, .int .i64 e, .int .i64 W, .int .i64 H, x, r, y] 41)).cell? ⟨w.heap.size, 9, none⟩ = some (x) ∧ (w.alloc (.cells #[.slice At nt ct, .slice Ak nk ck, .int .i64 a, .int .i64 b, .int .i64 c, .int .i64 d, .int .i64 e, .int .i64 W, .int .i64 H, x, r, y] 41)).cell? ⟨w.heap.size, 10, none⟩ = some (r) ∧ (w.alloc (.cells #[.slice At nt ct, .slice Ak nk ck, .int .i64 a, .int .i64 b, .int .i64 c, .int .i64 d, .int .i64 e, .int .i64 W, .int .i64 H, x, r, y] 41)).cell? ⟨w.heap.size, 11, none⟩ = some (y) ∧ Kp w (w.alloc (.cells #[.slice At nt ct, .slice Ak nk ck, .int .i64 a, .int .i64 b, .int .i64 c, .int .i64 d, .int .i64 e, .int .i64 W, .int .i64 H, x, r, y] 41)) := ⟨by simp [go_sem], by simp [go_sem], by simp [go_sem], by simp [go_sem], by simp [go_sem], by simp [go_sem], by simp [go_sem], by simp [go_sem], by simp [go_sem], by simp [go_sem], by simp [go_sem], by simp [go_sem], (Kp.refl w).alloc _⟩
  have HB := Lib.hid hB
  have C1 := Lib.hid (fun (w : World) hB => bTerrain_hgt At Ak nt nk ct ck l m a b c d e W H x r y lt lr ld j w hB hok hm hj)
  obtain ⟨h1, h2⟩ := hgt_bd j hok
  generalize hgtI l lt (j : Int) = h at C1 h1 h2
  clear hB hok hm hj
  go_enter Tryz.func132, Tryz.ntmps132
  go_wp2_with fail
  refine (C1.out _ (HB.out.keep s0.2.2.2.2.2.2.2.2.2.2.2.2)).mono ?_
  rintro e1 w1 ⟨nm, g, o, n, c', s, bl, rfl, t3, k1⟩
  have KW := s0.2.2.2.2.2.2.2.2.2.2.2.2.trans k1
  clear C1 s0 k1
  cases bl
  · go_wp2_with fail
    go_ret
    exact ⟨ret_int (by rw [t3]; simp), KW.alloc _⟩
  · go_wp2_with fail
    go_ret
    exact ⟨ret_int (by rw [t3]; simp), KW.alloc _⟩

set_option maxRecDepth 100000 in
set_option maxHeartbeats 4000000 in
theorem vBlocks_any (At Ak : Option Addr) (nt nk ct ck : Nat) (l : List Ter) (m : List Knd) (a b c d e W H : Int) (x r y : Value) (lt lr ld : List Int) (i k z : Nat) (w : World) (hB : BrdAt w At Ak nt nk l m x r y lt lr ld) (hok : brdOk ⟨l, m, a, b, c, d, e⟩ W H lt lr ld = true) (hm : 0 < m.length) (hi : i < lt.length) (hk : k < lt.length) (hz : z < lt.length) :
    Calls Tryz.prog 113 #[bv (.slice At nt ct) (.slice Ak nk ck) a b c d e W H x r y, .int .i64 (i : Int), .int .i64 (k : Int), .int .i64 (z : Int)] w fun e' w' => e' = .returned (.bool (blkI l lt (i : Int) (k : Int) (z : Int))) ∧ Kp w w' := by
  have s0 : (w.alloc (.cells #[.slice At nt ct, .slice Ak nk ck, .int .i64 a, .int .i64 b, .int .i64 c, .int .i64 d, .int .i64 e, .int .i64 W, .int .i64 H, x, r, y] 41)).cell? ⟨w.heap.size, 0, none⟩ = some (.slice At nt ct) ∧ (w.alloc (.cells #[.slice At nt ct, .slice Ak nk ck, .int .i64 a, .int .i64 b, .int .i64 c, .int .i64 d, .int .i64 e, .int .i64 W, .int .i64 H, x, r, y] 41)).cell? ⟨w.heap.size, 1, none⟩ = some (.slice Ak nk ck) ∧ (w.alloc (.cells #[.slice At nt ct, .slice Ak nk ck, .int .i64 a, .int .i64 b, .int .i64 c, .int .i64 d, .int .i64 e, .int .i64 W, .int .i64 H, x, r, y] 41)).cell? ⟨w.heap.size, 2, none⟩ = some (.int .i64 a) ∧ (w.alloc (.cells #[.slice At nt ct, .slice Ak nk ck, .int .i64 a, .int .i64 b, .int .i64 c, .int .i64 d, .int .i64 e, .int .i64 W, .int .i64 H, x, r, y] 41)).cell? ⟨w.heap.size, 3, none⟩ = some (.int .i64 b) ∧ (w.alloc (.cells #[.slice At nt ct, .slice Ak nk ck, .int .i64 a, .int .i64 b, .int .i64 c, .int .i64 d, .int .i64 e, .int .i64 W, .int .i64 H, x, r, y] 41)).cell? ⟨w.heap.size, 4, none⟩ = some (.int .i64 c) ∧ (w.alloc (.cells #[.slice At nt ct, .slice Ak nk ck, .int .i64 a, .int .i64 b, .int .i64 c, .int .i64 d, .int .i64 e, .int .i64 W, .int .i64 H, x, r, y] 41)).cell? ⟨w.heap.size, 5, none⟩ = some (.int .i64 d) ∧ (w.alloc (.cells #[.slice At nt ct, .slice Ak nk ck, .int .i64 a, .int .i64 b, .int .i64 c, .int .i64 d, .int .i64 e, .int .i64 W, .int .i64 H, x, r, y] 41)).cell? ⟨w.heap.size, 6, none⟩ = some (.int .i64 e) ∧ (w.alloc (.cells #[.slice At nt ct, .slice Ak nk ck, .int .i64 a, .int .i64 b, .int .i64 c, .int .i64 d, .int .i64 e, .int .i64 W, .int .i64 H, x, r, y] 41)).cell? ⟨w.heap.size, 7, none⟩ = some (.int .i64 W) ∧ (w.alloc (.cells #[.slice At nt ct, .slice Ak nk ck, .int .i64 a, .int .i64 b, .int .i64 c, .int .i64 d, .int .i64 e, .int .i64 W, .int .i64 H, x, r, y] 41)).cell? ⟨w.heap.size, 8, none⟩ = some (.int .i64 H) ∧ (w.alloc (.cells #[.slice At nt ct, .slice Ak nk ck, .int .i64 a, .int .i64 b, .int .i64 c, .int .i64 d, .int .i64 e, .int .i64 W, .int .i64 H, x, r, y] 41)).cell? ⟨w.heap.size, 9, none⟩ = some (x) ∧ (w.alloc (.cells #[.slice At nt ct, .slice Ak nk ck, .int .i64 a, .int .i64 b, .int .i64 c, .int .i64 d, .int .i64 e, .int .i64 W, .int .i64 H, x, r, y] 41)).cell? ⟨w.heap.size, 10, none⟩ = some (r) ∧ (w.alloc (.cells #[.slice At nt ct, .slice Ak nk ck, .int .i64 a, .int .i64 b, .int .i64 c, .int .i64 d, .int .i64 e, .int .i64 W, .int .i64 H, x, r, y] 41)).cell? ⟨w.heap.size, 11, none⟩ = some (y) ∧ Kp w (w.alloc (.cells #[.slice At nt ct, .slice Ak nk ck, .int .i64 a, .int .i64 b, .int .i64 c, .int .i64 d, .int .i64 e, .int .i64 W, .int .i64 H, x, r, y] 41)) := ⟨by simp [go_sem], by simp [go_sem], by simp [go_sem], by simp [go_sem], by simp [go_sem], by simp [go_sem], by simp [go_sem], by simp [go_sem], by simp [go_sem], by simp [go_sem], by simp [go_sem], by simp [go_sem], (Kp.refl w).alloc _⟩
  have HB := Lib.hid hB
  have CV := Lib.hid (fun (w : World) hB => vHeight_any At Ak nt nk ct ck l m a b c d e W H x r y lt lr ld z w hB hok hm hz)
  have C1 := Lib.hid (fun (w : World) hB => bTerrain_hgt At Ak nt nk ct ck l m a b c d e W H x r y lt lr ld i w hB hok hm hi)
  have C2 := Lib.hid (fun (w : World) hB => bTerrain_hgt At Ak nt nk ct ck l m a b c d e W H x r y lt lr ld k w hB hok hm hk)
  unfold blkI
  generalize topI l lt (z : Int) = X at CV ⊢
  generalize hgtI l lt (i : Int) = h1 at C1 ⊢
  generalize hgtI l lt (k : Int) = h2 at C2 ⊢
  obtain ⟨I, hI⟩ : ∃ I : Int, I = (i : Int) := ⟨_, rfl⟩
  obtain ⟨K, hK⟩ : ∃ K : Int, K = (k : Int) := ⟨_, rfl⟩
  rw [← hI] at C1 ⊢
  rw [← hK] at C2 ⊢
  clear hB hok hm hi hk hz hI hK
  go_enter Tryz.func113, Tryz.ntmps113
  go_wp2_with fail
  have s1 := drew12k s0
  clear s0
  go_region_held3 (fun w' => w'.cell? ⟨w.heap.size, 0, none⟩ = some (.slice At nt ct) ∧ w'.cell? ⟨w.heap.size, 1, none⟩ = some (.slice Ak nk ck) ∧ w'.cell? ⟨w.heap.size, 2, none⟩ = some (.int .i64 a) ∧ w'.cell? ⟨w.heap.size, 3, none⟩ = some (.int .i64 b) ∧ w'.cell? ⟨w.heap.size, 4, none⟩ = some (.int .i64 c) ∧ w'.cell? ⟨w.heap.size, 5, none⟩ = some (.int .i64 d) ∧ w'.cell? ⟨w.heap.size, 6, none⟩ = some (.int .i64 e) ∧ w'.cell? ⟨w.heap.size, 7, none⟩ = some (.int .i64 W) ∧ w'.cell? ⟨w.heap.size, 8, none⟩ = some (.int .i64 H) ∧ w'.cell? ⟨w.heap.size, 9, none⟩ = some (x) ∧ w'.cell? ⟨w.heap.size, 10, none⟩ = some (r) ∧ w'.cell? ⟨w.heap.size, 11, none⟩ = some (y) ∧ Kp w w') (first | assumption | exact s1)
    (first
      | (go_at_call 132; refine (CV.out _ (HB.out.keep s1.2.2.2.2.2.2.2.2.2.2.2.2)).mono ?_; rintro e1 w1 ⟨rfl, k1⟩; have s2 := keep12k k1 s1)
      | (go_at_call_of 124 I; refine (C1.out _ (HB.out.keep s2.2.2.2.2.2.2.2.2.2.2.2.2)).mono ?_; rintro e2 w2 ⟨nm2, g2, o2, n2, c2, sf2, bl2, rfl, tt2, k2⟩; have hf2 := fun w => fieldHgt nm2 (some ⟨g2, o2, none⟩) n2 c2 sf2 h1 bl2 w; have s3 := keep12k k2 s2)
      | (go_at_call_of 124 K; refine (C2.out _ (HB.out.keep s3.2.2.2.2.2.2.2.2.2.2.2.2)).mono ?_; rintro e3 w3 ⟨nm3, g3, o3, n3, c3, sf3, bl3, rfl, tt3, k3⟩; have hf3 := fun w => fieldHgt nm3 (some ⟨g3, o3, none⟩) n3 c3 sf3 h2 bl3 w; have s4 := keep12k k3 s3)
      | (go_at_call 133; refine (most_any _ _ _).mono ?_; rintro e4 w4 ⟨rfl, rfl⟩))
  all_goals
    go_wp2_with fail
    go_ret
    exact ⟨rfl, s4.2.2.2.2.2.2.2.2.2.2.2.2⟩

set_option maxRecDepth 100000 in
set_option maxHeartbeats 4000000 in
theorem blocker_any (At Ak : Option Addr) (nt nk ct ck : Nat) (l : List Ter) (m : List Knd) (a b c d e W H : Int) (x r y : Value) (lt lr ld : List Int) (B1 B2 : Nat) (h : Int) (z : Nat) (w : World) (hB : BrdAt w At Ak nt nk l m x r y lt lr ld) (hok : brdOk ⟨l, m, a, b, c, d, e⟩ W H lt lr ld = true) (hm : 0 < m.length) (hz : z < lt.length) (hb : (w.cell? ⟨B1, 0, none⟩ = some (.slice At nt ct) ∧ w.cell? ⟨B1, 1, none⟩ = some (.slice Ak nk ck) ∧ w.cell? ⟨B1, 2, none⟩ = some (.int .i64 a) ∧ w.cell? ⟨B1, 3, none⟩ = some (.int .i64 b) ∧ w.cell? ⟨B1, 4, none⟩ = some (.int .i64 c) ∧ w.cell? ⟨B1, 5, none⟩ = some (.int .i64 d) ∧ w.cell? ⟨B1, 6, none⟩ = some (.int .i64 e) ∧ w.cell? ⟨B1, 7, none⟩ = some (.int .i64 W) ∧ w.cell? ⟨B1, 8, none⟩ = some (.int .i64 H) ∧ w.cell? ⟨B1, 9, none⟩ = some (x) ∧ w.cell? ⟨B1, 10, none⟩ = some (r) ∧ w.cell? ⟨B1, 11, none⟩ = some (y)) ∧ w.cell? ⟨B2, 0, none⟩ = some (.int .i64 h)) :
    Calls Tryz.prog 115 #[.int .i64 (z : Int), .pointer (some ⟨B1, 0, none⟩), .pointer (some ⟨B2, 0, none⟩)] w fun e' w' => e' = .returned (.bool (decide (h < topI l lt (z : Int)))) ∧ Kp w w' := by
  have HB := Lib.hid hB
  have C1 := Lib.hid (fun (w : World) hB => terrainAt_hgt At Ak nt nk ct ck l m a b c d e W H x r y lt lr ld z w hB hok hm hz)
  obtain ⟨h1, h2⟩ := hgt_bd z hok
  generalize hgtI l lt (z : Int) = hz' at C1 h1 h2
  generalize topI l lt (z : Int) = X at C1 ⊢
  have s0 : (w.cell? ⟨B1, 0, none⟩ = some (.slice At nt ct) ∧ w.cell? ⟨B1, 1, none⟩ = some (.slice Ak nk ck) ∧ w.cell? ⟨B1, 2, none⟩ = some (.int .i64 a) ∧ w.cell? ⟨B1, 3, none⟩ = some (.int .i64 b) ∧ w.cell? ⟨B1, 4, none⟩ = some (.int .i64 c) ∧ w.cell? ⟨B1, 5, none⟩ = some (.int .i64 d) ∧ w.cell? ⟨B1, 6, none⟩ = some (.int .i64 e) ∧ w.cell? ⟨B1, 7, none⟩ = some (.int .i64 W) ∧ w.cell? ⟨B1, 8, none⟩ = some (.int .i64 H) ∧ w.cell? ⟨B1, 9, none⟩ = some (x) ∧ w.cell? ⟨B1, 10, none⟩ = some (r) ∧ w.cell? ⟨B1, 11, none⟩ = some (y) ∧ w.cell? ⟨B2, 0, none⟩ = some (.int .i64 h)) ∧ Kp w w := ⟨⟨hb.1.1, hb.1.2.1, hb.1.2.2.1, hb.1.2.2.2.1, hb.1.2.2.2.2.1, hb.1.2.2.2.2.2.1, hb.1.2.2.2.2.2.2.1, hb.1.2.2.2.2.2.2.2.1, hb.1.2.2.2.2.2.2.2.2.1, hb.1.2.2.2.2.2.2.2.2.2.1, hb.1.2.2.2.2.2.2.2.2.2.2.1, hb.1.2.2.2.2.2.2.2.2.2.2.2, hb.2⟩, Kp.refl w⟩
  clear hB hok hm hz hb
  go_enter Tryz.func115, Tryz.ntmps115
  go_upto_region 1 with (fail)
  have s1 : (w.drew.cell? ⟨B1, 0, none⟩ = some (.slice At nt ct) ∧ w.drew.cell? ⟨B1, 1, none⟩ = some (.slice Ak nk ck) ∧ w.drew.cell? ⟨B1, 2, none⟩ = some (.int .i64 a) ∧ w.drew.cell? ⟨B1, 3, none⟩ = some (.int .i64 b) ∧ w.drew.cell? ⟨B1, 4, none⟩ = some (.int .i64 c) ∧ w.drew.cell? ⟨B1, 5, none⟩ = some (.int .i64 d) ∧ w.drew.cell? ⟨B1, 6, none⟩ = some (.int .i64 e) ∧ w.drew.cell? ⟨B1, 7, none⟩ = some (.int .i64 W) ∧ w.drew.cell? ⟨B1, 8, none⟩ = some (.int .i64 H) ∧ w.drew.cell? ⟨B1, 9, none⟩ = some (x) ∧ w.drew.cell? ⟨B1, 10, none⟩ = some (r) ∧ w.drew.cell? ⟨B1, 11, none⟩ = some (y) ∧ w.drew.cell? ⟨B2, 0, none⟩ = some (.int .i64 h)) ∧ Kp w w.drew := ⟨s0.1, s0.2.drew⟩
  clear s0
  refine wp_region_held_drew (S := (fun w' => (w'.cell? ⟨B1, 0, none⟩ = some (.slice At nt ct) ∧ w'.cell? ⟨B1, 1, none⟩ = some (.slice Ak nk ck) ∧ w'.cell? ⟨B1, 2, none⟩ = some (.int .i64 a) ∧ w'.cell? ⟨B1, 3, none⟩ = some (.int .i64 b) ∧ w'.cell? ⟨B1, 4, none⟩ = some (.int .i64 c) ∧ w'.cell? ⟨B1, 5, none⟩ = some (.int .i64 d) ∧ w'.cell? ⟨B1, 6, none⟩ = some (.int .i64 e) ∧ w'.cell? ⟨B1, 7, none⟩ = some (.int .i64 W) ∧ w'.cell? ⟨B1, 8, none⟩ = some (.int .i64 H) ∧ w'.cell? ⟨B1, 9, none⟩ = some (x) ∧ w'.cell? ⟨B1, 10, none⟩ = some (r) ∧ w'.cell? ⟨B1, 11, none⟩ = some (y) ∧ w'.cell? ⟨B2, 0, none⟩ = some (.int .i64 h)) ∧ Kp w w')) (by kernel_rfl) ?_ (fun hHeld => ?_)
  · assumption
  generalize w.drew = V at *
  refine wpAnyH_take (i := 0) (oi := ⟨some 5, _, _, _, _, _⟩) (v := ?_) rfl (by kernel_rfl) (by kernel_rfl) (by kernel_rfl) (fun _ _ _ h => h) (Or.inl ⟨by rfl, ?_⟩) (by assumption) ?_
  rotate_left
  · intro w hSw; (try dsimp only at hSw); go_simp; (all_goals with_reducible rfl)
  try simp only [Act.put, List.setIfInBounds_toArray, List.set_cons_zero, List.set_cons_succ]
  refine wpAnyH_take (i := 1) (oi := ⟨some 6, _, _, _, _, _⟩) (v := ?_) rfl (by kernel_rfl) (by kernel_rfl) (by kernel_rfl) (fun _ _ _ h => h) (Or.inl ⟨by rfl, ?_⟩) (by assumption) ?_
  rotate_left
  · intro w hSw; (try dsimp only at hSw); go_simp; (all_goals with_reducible rfl)
  try simp only [Act.put, List.setIfInBounds_toArray, List.set_cons_zero, List.set_cons_succ]
  refine wpAnyH_take (i := 4) (oi := ⟨some 9, _, _, _, _, _⟩) (v := ?_) rfl (by kernel_rfl) (by kernel_rfl) (by kernel_rfl) (fun _ _ _ h => h) (Or.inl ⟨by rfl, ?_⟩) (by assumption) ?_
  rotate_left
  · intro w hSw; (try dsimp only at hSw); go_simp; (all_goals with_reducible rfl)
  try simp only [Act.put, List.setIfInBounds_toArray, List.set_cons_zero, List.set_cons_succ]
  refine wpAnyH_ready (rs := [2]) (by kernel_rfl) (by simp) ?_
  refine (AllReadyH.cons (o := ⟨some 7, _, _, _, _, _⟩) rfl (fun K hK => ?_) AllReadyH.nil)
  go_simp
  refine (C1.out _ (HB.out.keep hHeld.2)).mono ?_
  rintro e2 w2 ⟨nm2, g2, o2, n2, c2, sf2, bl2, rfl, t3, k2⟩
  have T3 := Lib.hid t3
  clear t3
  have hS2 : (w2.cell? ⟨B1, 0, none⟩ = some (.slice At nt ct) ∧ w2.cell? ⟨B1, 1, none⟩ = some (.slice Ak nk ck) ∧ w2.cell? ⟨B1, 2, none⟩ = some (.int .i64 a) ∧ w2.cell? ⟨B1, 3, none⟩ = some (.int .i64 b) ∧ w2.cell? ⟨B1, 4, none⟩ = some (.int .i64 c) ∧ w2.cell? ⟨B1, 5, none⟩ = some (.int .i64 d) ∧ w2.cell? ⟨B1, 6, none⟩ = some (.int .i64 e) ∧ w2.cell? ⟨B1, 7, none⟩ = some (.int .i64 W) ∧ w2.cell? ⟨B1, 8, none⟩ = some (.int .i64 H) ∧ w2.cell? ⟨B1, 9, none⟩ = some (x) ∧ w2.cell? ⟨B1, 10, none⟩ = some (r) ∧ w2.cell? ⟨B1, 11, none⟩ = some (y) ∧ w2.cell? ⟨B2, 0, none⟩ = some (.int .i64 h)) ∧ Kp w w2 := ⟨⟨k2.cell hHeld.1.1, k2.cell hHeld.1.2.1, k2.cell hHeld.1.2.2.1, k2.cell hHeld.1.2.2.2.1, k2.cell hHeld.1.2.2.2.2.1, k2.cell hHeld.1.2.2.2.2.2.1, k2.cell hHeld.1.2.2.2.2.2.2.1, k2.cell hHeld.1.2.2.2.2.2.2.2.1, k2.cell hHeld.1.2.2.2.2.2.2.2.2.1, k2.cell hHeld.1.2.2.2.2.2.2.2.2.2.1, k2.cell hHeld.1.2.2.2.2.2.2.2.2.2.2.1, k2.cell hHeld.1.2.2.2.2.2.2.2.2.2.2.2.1, k2.cell hHeld.1.2.2.2.2.2.2.2.2.2.2.2.2⟩, hHeld.2.trans k2⟩
  go_wp2_with fail
  refine hK.out _ _ ?_ (fun hHeld => ?_)
  · (try dsimp only); (first | assumption)
  clear hK K
  try simp only [Act.put, List.setIfInBounds_toArray, List.set_cons_zero, List.set_cons_succ]
  refine wpAnyH_ready (rs := [3]) (by kernel_rfl) (by simp) ?_
  refine (AllReadyH.cons (o := ⟨some 8, _, _, _, _, _⟩) rfl (fun K hK => ?_) AllReadyH.nil)
  go_simp
  refine (topX_any X nm2 _ n2 c2 sf2 hz' bl2 _ (by omega) (by omega) T3.out).mono ?_
  rintro e3 w3 ⟨rfl, k3⟩
  have hS3 : (w3.cell? ⟨B1, 0, none⟩ = some (.slice At nt ct) ∧ w3.cell? ⟨B1, 1, none⟩ = some (.slice Ak nk ck) ∧ w3.cell? ⟨B1, 2, none⟩ = some (.int .i64 a) ∧ w3.cell? ⟨B1, 3, none⟩ = some (.int .i64 b) ∧ w3.cell? ⟨B1, 4, none⟩ = some (.int .i64 c) ∧ w3.cell? ⟨B1, 5, none⟩ = some (.int .i64 d) ∧ w3.cell? ⟨B1, 6, none⟩ = some (.int .i64 e) ∧ w3.cell? ⟨B1, 7, none⟩ = some (.int .i64 W) ∧ w3.cell? ⟨B1, 8, none⟩ = some (.int .i64 H) ∧ w3.cell? ⟨B1, 9, none⟩ = some (x) ∧ w3.cell? ⟨B1, 10, none⟩ = some (r) ∧ w3.cell? ⟨B1, 11, none⟩ = some (y) ∧ w3.cell? ⟨B2, 0, none⟩ = some (.int .i64 h)) ∧ Kp w w3 := ⟨⟨k3.cell hHeld.1.1, k3.cell hHeld.1.2.1, k3.cell hHeld.1.2.2.1, k3.cell hHeld.1.2.2.2.1, k3.cell hHeld.1.2.2.2.2.1, k3.cell hHeld.1.2.2.2.2.2.1, k3.cell hHeld.1.2.2.2.2.2.2.1, k3.cell hHeld.1.2.2.2.2.2.2.2.1, k3.cell hHeld.1.2.2.2.2.2.2.2.2.1, k3.cell hHeld.1.2.2.2.2.2.2.2.2.2.1, k3.cell hHeld.1.2.2.2.2.2.2.2.2.2.2.1, k3.cell hHeld.1.2.2.2.2.2.2.2.2.2.2.2.1, k3.cell hHeld.1.2.2.2.2.2.2.2.2.2.2.2.2⟩, hHeld.2.trans k3⟩
  go_wp2_with fail
  refine hK.out _ _ ?_ (fun hHeld => ?_)
  · (try dsimp only); (first | assumption)
  clear hK K
  try simp only [Act.put, List.setIfInBounds_toArray, List.set_cons_zero, List.set_cons_succ]
  refine wpAnyH_take (i := 5) (oi := ⟨some 10, _, _, _, _, _⟩) (v := ?_) rfl (by kernel_rfl) (by kernel_rfl) (by kernel_rfl) (fun _ _ _ h => h) (Or.inl ⟨by rfl, ?_⟩) (by assumption) ?_
  rotate_left
  · intro w hSw; (try dsimp only at hSw); go_simp; (all_goals with_reducible rfl)
  try simp only [Act.put, List.setIfInBounds_toArray, List.set_cons_zero, List.set_cons_succ]
  refine wpAnyH_take (i := 6) (oi := ⟨some 4, _, _, _, _, _⟩) (v := ?_) rfl (by kernel_rfl) (by kernel_rfl) (by kernel_rfl) (fun _ _ _ h => h) (Or.inl ⟨by rfl, ?_⟩) (by assumption) ?_
  rotate_left
  · intro w hSw; (try dsimp only at hSw); go_simp; (all_goals with_reducible rfl)
  try simp only [Act.put, List.setIfInBounds_toArray, List.set_cons_zero, List.set_cons_succ]
  refine wpAnyH_done (by kernel_rfl) ?_ _
  go_wp2_with fail
  go_ret
  exact ⟨rfl, hHeld.2⟩

theorem cell_set_same {w : World} {q : Nat} {v u : Value} (h : w.cell? ⟨q, 0, none⟩ = some v) : (w.setCell ⟨q, 0, none⟩ u).cell? ⟨q, 0, none⟩ = some u := by
  simp [go_sem, h]
theorem new12k {W : World} {b : Nat} {v : Value} {R : Prop} (_h : W.cell? ⟨b, 0, none⟩ = some v ∧ R) : (W.alloc (.cells #[.int .i64 0] 3)).cell? ⟨W.heap.size, 0, none⟩ = some (.int .i64 0) ∧ (W.alloc (.cells #[.int .i64 0] 3)).frozen? ⟨W.heap.size, 0, none⟩ = false := ⟨by simp [go_sem], by simp [go_sem]⟩
theorem set12k {w W : World} {q : Nat} {v0 v1 v2 v3 v4 v5 v6 v7 v8 v9 v10 v11 u : Value} (hq : w.heap.size < q) (h : W.cell? ⟨w.heap.size, 0, none⟩ = some v0 ∧ W.cell? ⟨w.heap.size, 1, none⟩ = some v1 ∧ W.cell? ⟨w.heap.size, 2, none⟩ = some v2 ∧ W.cell? ⟨w.heap.size, 3, none⟩ = some v3 ∧ W.cell? ⟨w.heap.size, 4, none⟩ = some v4 ∧ W.cell? ⟨w.heap.size, 5, none⟩ = some v5 ∧ W.cell? ⟨w.heap.size, 6, none⟩ = some v6 ∧ W.cell? ⟨w.heap.size, 7, none⟩ = some v7 ∧ W.cell? ⟨w.heap.size, 8, none⟩ = some v8 ∧ W.cell? ⟨w.heap.size, 9, none⟩ = some v9 ∧ W.cell? ⟨w.heap.size, 10, none⟩ = some v10 ∧ W.cell? ⟨w.heap.size, 11, none⟩ = some v11 ∧ Kp w W) :
    (W.setCell ⟨q, 0, none⟩ u).cell? ⟨w.heap.size, 0, none⟩ = some v0 ∧ (W.setCell ⟨q, 0, none⟩ u).cell? ⟨w.heap.size, 1, none⟩ = some v1 ∧ (W.setCell ⟨q, 0, none⟩ u).cell? ⟨w.heap.size, 2, none⟩ = some v2 ∧ (W.setCell ⟨q, 0, none⟩ u).cell? ⟨w.heap.size, 3, none⟩ = some v3 ∧ (W.setCell ⟨q, 0, none⟩ u).cell? ⟨w.heap.size, 4, none⟩ = some v4 ∧ (W.setCell ⟨q, 0, none⟩ u).cell? ⟨w.heap.size, 5, none⟩ = some v5 ∧ (W.setCell ⟨q, 0, none⟩ u).cell? ⟨w.heap.size, 6, none⟩ = some v6 ∧ (W.setCell ⟨q, 0, none⟩ u).cell? ⟨w.heap.size, 7, none⟩ = some v7 ∧ (W.setCell ⟨q, 0, none⟩ u).cell? ⟨w.heap.size, 8, none⟩ = some v8 ∧ (W.setCell ⟨q, 0, none⟩ u).cell? ⟨w.heap.size, 9, none⟩ = some v9 ∧ (W.setCell ⟨q, 0, none⟩ u).cell? ⟨w.heap.size, 10, none⟩ = some v10 ∧ (W.setCell ⟨q, 0, none⟩ u).cell? ⟨w.heap.size, 11, none⟩ = some v11 ∧ Kp w (W.setCell ⟨q, 0, none⟩ u) := by
  have ne : ∀ z : Nat, (W.setCell ⟨q, 0, none⟩ u).cell? ⟨w.heap.size, z, none⟩ = W.cell? ⟨w.heap.size, z, none⟩ := fun z => World.cell?_setCell_other _ _ _ _ (fun e => by simp only [Addr.mk.injEq] at e; omega)
  simp only [ne]
  exact ⟨h.1, h.2.1, h.2.2.1, h.2.2.2.1, h.2.2.2.2.1, h.2.2.2.2.2.1, h.2.2.2.2.2.2.1, h.2.2.2.2.2.2.2.1, h.2.2.2.2.2.2.2.2.1, h.2.2.2.2.2.2.2.2.2.1, h.2.2.2.2.2.2.2.2.2.2.1, h.2.2.2.2.2.2.2.2.2.2.2.1, (h.2.2.2.2.2.2.2.2.2.2.2.2).setCell (Nat.le_of_lt hq) u⟩
theorem cells12k {w W : World} {v0 v1 v2 v3 v4 v5 v6 v7 v8 v9 v10 v11 : Value} (h : W.cell? ⟨w.heap.size, 0, none⟩ = some v0 ∧ W.cell? ⟨w.heap.size, 1, none⟩ = some v1 ∧ W.cell? ⟨w.heap.size, 2, none⟩ = some v2 ∧ W.cell? ⟨w.heap.size, 3, none⟩ = some v3 ∧ W.cell? ⟨w.heap.size, 4, none⟩ = some v4 ∧ W.cell? ⟨w.heap.size, 5, none⟩ = some v5 ∧ W.cell? ⟨w.heap.size, 6, none⟩ = some v6 ∧ W.cell? ⟨w.heap.size, 7, none⟩ = some v7 ∧ W.cell? ⟨w.heap.size, 8, none⟩ = some v8 ∧ W.cell? ⟨w.heap.size, 9, none⟩ = some v9 ∧ W.cell? ⟨w.heap.size, 10, none⟩ = some v10 ∧ W.cell? ⟨w.heap.size, 11, none⟩ = some v11 ∧ Kp w W) :
    W.cell? ⟨w.heap.size, 0, none⟩ = some v0 ∧ W.cell? ⟨w.heap.size, 1, none⟩ = some v1 ∧ W.cell? ⟨w.heap.size, 2, none⟩ = some v2 ∧ W.cell? ⟨w.heap.size, 3, none⟩ = some v3 ∧ W.cell? ⟨w.heap.size, 4, none⟩ = some v4 ∧ W.cell? ⟨w.heap.size, 5, none⟩ = some v5 ∧ W.cell? ⟨w.heap.size, 6, none⟩ = some v6 ∧ W.cell? ⟨w.heap.size, 7, none⟩ = some v7 ∧ W.cell? ⟨w.heap.size, 8, none⟩ = some v8 ∧ W.cell? ⟨w.heap.size, 9, none⟩ = some v9 ∧ W.cell? ⟨w.heap.size, 10, none⟩ = some v10 ∧ W.cell? ⟨w.heap.size, 11, none⟩ = some v11 := ⟨h.1, h.2.1, h.2.2.1, h.2.2.2.1, h.2.2.2.2.1, h.2.2.2.2.2.1, h.2.2.2.2.2.2.1, h.2.2.2.2.2.2.2.1, h.2.2.2.2.2.2.2.2.1, h.2.2.2.2.2.2.2.2.2.1, h.2.2.2.2.2.2.2.2.2.2.1, h.2.2.2.2.2.2.2.2.2.2.2.1⟩
theorem blockPred (At Ak : Option Addr) (nt nk ct ck : Nat) (l : List Ter) (m : List Knd) (a b c d e W H : Int) (x r y : Value) (lt lr ld : List Int) (p q : Nat) (W0 : World) (hB : BrdAt W0 At Ak nt nk l m x r y lt lr ld) (hok : brdOk ⟨l, m, a, b, c, d, e⟩ W H lt lr ld = true) (hm : 0 < m.length) (i k : Int) (hb : W0.cell? ⟨p, 0, none⟩ = some (.slice At nt ct) ∧ W0.cell? ⟨p, 1, none⟩ = some (.slice Ak nk ck) ∧ W0.cell? ⟨p, 2, none⟩ = some (.int .i64 a) ∧ W0.cell? ⟨p, 3, none⟩ = some (.int .i64 b) ∧ W0.cell? ⟨p, 4, none⟩ = some (.int .i64 c) ∧ W0.cell? ⟨p, 5, none⟩ = some (.int .i64 d) ∧ W0.cell? ⟨p, 6, none⟩ = some (.int .i64 e) ∧ W0.cell? ⟨p, 7, none⟩ = some (.int .i64 W) ∧ W0.cell? ⟨p, 8, none⟩ = some (.int .i64 H) ∧ W0.cell? ⟨p, 9, none⟩ = some (x) ∧ W0.cell? ⟨p, 10, none⟩ = some (r) ∧ W0.cell? ⟨p, 11, none⟩ = some (y)) (hq : W0.cell? ⟨q, 0, none⟩ = some (.int .i64 (max (hgtI l lt i) (hgtI l lt k)))) :
    PredI 115 #[.pointer (some ⟨p, 0, none⟩), .pointer (some ⟨q, 0, none⟩)] (blkI l lt i k) (fun x => ∃ z : Nat, z < lt.length ∧ x = z) W0 := fun x' u ⟨z, hz, hx⟩ ku => by
  subst hx
  exact blocker_any At Ak nt nk ct ck l m a b c d e W H x r y lt lr ld p q _ z u (hB.keep ku) hok hm hz ⟨⟨ku.cell hb.1, ku.cell hb.2.1, ku.cell hb.2.2.1, ku.cell hb.2.2.2.1, ku.cell hb.2.2.2.2.1, ku.cell hb.2.2.2.2.2.1, ku.cell hb.2.2.2.2.2.2.1, ku.cell hb.2.2.2.2.2.2.2.1, ku.cell hb.2.2.2.2.2.2.2.2.1, ku.cell hb.2.2.2.2.2.2.2.2.2.1, ku.cell hb.2.2.2.2.2.2.2.2.2.2.1, ku.cell hb.2.2.2.2.2.2.2.2.2.2.2⟩, ku.cell hq⟩

set_option maxRecDepth 100000 in
set_option maxHeartbeats 4000000 in
theorem blockerBetween_any (At Ak : Option Addr) (nt nk ct ck : Nat) (l : List Ter) (m : List Knd) (a b c d e W H : Int) (x r y : Value) (lt lr ld : List Int) (i k : Nat) (w : World) (hB : BrdAt w At Ak nt nk l m x r y lt lr ld) (hok : brdOk ⟨l, m, a, b, c, d, e⟩ W H lt lr ld = true) (hm : 0 < m.length) (hi : i < lt.length) (hk : k < lt.length) :
    Calls Tryz.prog 87 #[bv (.slice At nt ct) (.slice Ak nk ck) a b c d e W H x r y, .int .i64 (i : Int), .int .i64 (k : Int)] w fun e' w' => ∃ lb, e' = .returned (.func (.func 115) #[] lb) ∧ PredI 115 lb (blkI l lt (i : Int) (k : Int)) (fun x => ∃ z : Nat, z < lt.length ∧ x = z) w' ∧ Kp w w' := by
  have s0 : (w.alloc (.cells #[.slice At nt ct, .slice Ak nk ck, .int .i64 a, .int .i64 b, .int .i64 c, .int .i64 d, .int .i64 e, .int .i64 W, .int .i64 H, x, r, y] 41)).cell? ⟨w.heap.size, 0, none⟩ = some (.slice At nt ct) ∧ (w.alloc (.cells #[.slice At nt ct, .slice Ak nk ck, .int .i64 a, .int .i64 b, .int .i64 c, .int .i64 d, .int .i64 e, .int .i64 W, .int .i64 H, x, r, y] 41)).cell? ⟨w.heap.size, 1, none⟩ = some (.slice Ak nk ck) ∧ (w.alloc (.cells #[.slice At nt ct, .slice Ak nk ck, .int .i64 a, .int .i64 b, .int .i64 c, .int .i64 d, .int .i64 e, .int .i64 W, .int .i64 H, x, r, y] 41)).cell? ⟨w.heap.size, 2, none⟩ = some (.int .i64 a) ∧ (w.alloc (.cells #[.slice At nt ct, .slice Ak nk ck, .int .i64 a, .int .i64 b, .int .i64 c, .int .i64 d, .int .i64 e, .int .i64 W, .int .i64 H, x, r, y] 41)).cell? ⟨w.heap.size, 3, none⟩ = some (.int .i64 b) ∧ (w.alloc (.cells #[.slice At nt ct, .slice Ak nk ck, .int .i64 a, .int .i64 b, .int .i64 c, .int .i64 d, .int .i64 e, .int .i64 W, .int .i64 H, x, r, y] 41)).cell? ⟨w.heap.size, 4, none⟩ = some (.int .i64 c) ∧ (w.alloc (.cells #[.slice At nt ct, .slice Ak nk ck, .int .i64 a, .int .i64 b, .int .i64 c, .int .i64 d, .int .i64 e, .int .i64 W, .int .i64 H, x, r, y] 41)).cell? ⟨w.heap.size, 5, none⟩ = some (.int .i64 d) ∧ (w.alloc (.cells #[.slice At nt ct, .slice Ak nk ck, .int .i64 a, .int .i64 b, .int .i64 c, .int .i64 d, .int .i64 e, .int .i64 W, .int .i64 H, x, r, y] 41)).cell? ⟨w.heap.size, 6, none⟩ = some (.int .i64 e) ∧ (w.alloc (.cells #[.slice At nt ct, .slice Ak nk ck, .int .i64 a, .int .i64 b, .int .i64 c, .int .i64 d, .int .i64 e, .int .i64 W, .int .i64 H, x, r, y] 41)).cell? ⟨w.heap.size, 7, none⟩ = some (.int .i64 W) ∧ (w.alloc (.cells #[.slice At nt ct, .slice Ak nk ck, .int .i64 a, .int .i64 b, .int .i64 c, .int .i64 d, .int .i64 e, .int .i64 W, .int .i64 H, x, r, y] 41)).cell? ⟨w.heap.size, 8, none⟩ = some (.int .i64 H) ∧ (w.alloc (.cells #[.slice At nt ct, .slice Ak nk ck, .int .i64 a, .int .i64 b, .int .i64 c, .int .i64 d, .int .i64 e, .int .i64 W, .int .i64 H, x, r, y] 41)).cell? ⟨w.heap.size, 9, none⟩ = some (x) ∧ (w.alloc (.cells #[.slice At nt ct, .slice Ak nk ck, .int .i64 a, .int .i64 b, .int .i64 c, .int .i64 d, .int .i64 e, .int .i64 W, .int .i64 H, x, r, y] 41)).cell? ⟨w.heap.size, 10, none⟩ = some (r) ∧ (w.alloc (.cells #[.slice At nt ct, .slice Ak nk ck, .int .i64 a, .int .i64 b, .int .i64 c, .int .i64 d, .int .i64 e, .int .i64 W, .int .i64 H, x, r, y] 41)).cell? ⟨w.heap.size, 11, none⟩ = some (y) ∧ Kp w (w.alloc (.cells #[.slice At nt ct, .slice Ak nk ck, .int .i64 a, .int .i64 b, .int .i64 c, .int .i64 d, .int .i64 e, .int .i64 W, .int .i64 H, x, r, y] 41)) := ⟨by simp [go_sem], by simp [go_sem], by simp [go_sem], by simp [go_sem], by simp [go_sem], by simp [go_sem], by simp [go_sem], by simp [go_sem], by simp [go_sem], by simp [go_sem], by simp [go_sem], by simp [go_sem], (Kp.refl w).alloc _⟩
  have HB := Lib.hid hB
  have HOK := Lib.hid hok
  have HM := Lib.hid hm
  have C1 := Lib.hid (fun (w : World) hB => terrainAt_hgt At Ak nt nk ct ck l m a b c d e W H x r y lt lr ld i w hB hok hm hi)
  have C2 := Lib.hid (fun (w : World) hB => terrainAt_hgt At Ak nt nk ct ck l m a b c d e W H x r y lt lr ld k w hB hok hm hk)
  obtain ⟨h1, e1⟩ : ∃ h, h = hgtI l lt (i : Int) := ⟨_, rfl⟩
  obtain ⟨h2, e2⟩ : ∃ h, h = hgtI l lt (k : Int) := ⟨_, rfl⟩
  have E1 := Lib.hid e1
  have E2 := Lib.hid e2
  rw [← e1] at C1
  rw [← e2] at C2
  clear hB hok hm hi hk e1 e2
  by_cases hc : h1 < h2
  · go_enter Tryz.func87, Tryz.ntmps87
    go_upto_region 1 with (fail)
    have s1 := drew12k s0
    clear s0
    refine wp_region_held_drew (S := (fun w' => w'.cell? ⟨w.heap.size, 0, none⟩ = some (.slice At nt ct) ∧ w'.cell? ⟨w.heap.size, 1, none⟩ = some (.slice Ak nk ck) ∧ w'.cell? ⟨w.heap.size, 2, none⟩ = some (.int .i64 a) ∧ w'.cell? ⟨w.heap.size, 3, none⟩ = some (.int .i64 b) ∧ w'.cell? ⟨w.heap.size, 4, none⟩ = some (.int .i64 c) ∧ w'.cell? ⟨w.heap.size, 5, none⟩ = some (.int .i64 d) ∧ w'.cell? ⟨w.heap.size, 6, none⟩ = some (.int .i64 e) ∧ w'.cell? ⟨w.heap.size, 7, none⟩ = some (.int .i64 W) ∧ w'.cell? ⟨w.heap.size, 8, none⟩ = some (.int .i64 H) ∧ w'.cell? ⟨w.heap.size, 9, none⟩ = some (x) ∧ w'.cell? ⟨w.heap.size, 10, none⟩ = some (r) ∧ w'.cell? ⟨w.heap.size, 11, none⟩ = some (y) ∧ Kp w w')) (by kernel_rfl) ?_ (fun hHeld => ?_)
    · assumption
    generalize (w.alloc (.cells #[.slice At nt ct, .slice Ak nk ck, .int .i64 a, .int .i64 b, .int .i64 c, .int .i64 d, .int .i64 e, .int .i64 W, .int .i64 H, x, r, y] 41)).drew = V at *
    refine wpAnyH_take (i := 0) (oi := ⟨some 8, _, _, _, _, _⟩) (v := ?_) rfl (by kernel_rfl) (by kernel_rfl) (by kernel_rfl) (fun _ _ _ h => h) (Or.inl ⟨by rfl, ?_⟩) (by assumption) ?_
    rotate_left
    · intro w hSw; (try dsimp only at hSw); go_simp; (all_goals with_reducible rfl)
    try simp only [Act.put, List.setIfInBounds_toArray, List.set_cons_zero, List.set_cons_succ]
    refine wpAnyH_take (i := 1) (oi := ⟨some 9, _, _, _, _, _⟩) (v := ?_) rfl (by kernel_rfl) (by kernel_rfl) (by kernel_rfl) (fun _ _ _ h => h) (Or.inl ⟨by rfl, ?_⟩) (by assumption) ?_
    rotate_left
    · intro w hSw; (try dsimp only at hSw); go_simp; (all_goals with_reducible rfl)
    try simp only [Act.put, List.setIfInBounds_toArray, List.set_cons_zero, List.set_cons_succ]
    refine wpAnyH_take (i := 4) (oi := ⟨some 12, _, _, _, _, _⟩) (v := ?_) rfl (by kernel_rfl) (by kernel_rfl) (by kernel_rfl) (fun _ _ _ h => h) (Or.inl ⟨by rfl, ?_⟩) (by assumption) ?_
    rotate_left
    · intro w hSw; (try dsimp only at hSw); go_simp; (all_goals with_reducible rfl)
    try simp only [Act.put, List.setIfInBounds_toArray, List.set_cons_zero, List.set_cons_succ]
    refine wpAnyH_take (i := 5) (oi := ⟨some 13, _, _, _, _, _⟩) (v := ?_) rfl (by kernel_rfl) (by kernel_rfl) (by kernel_rfl) (fun _ _ _ h => h) (Or.inl ⟨by rfl, ?_⟩) (by assumption) ?_
    rotate_left
    · intro w hSw; (try dsimp only at hSw); go_simp; (all_goals with_reducible rfl)
    try simp only [Act.put, List.setIfInBounds_toArray, List.set_cons_zero, List.set_cons_succ]
    refine wpAnyH_ready (rs := [2, 9]) (by kernel_rfl) (by simp) ?_
    refine (AllReadyH.cons (o := ⟨some 10, _, _, _, _, _⟩) rfl (fun K hK => ?_) (AllReadyH.cons (o := ⟨some 7, _, _, _, _, _⟩) rfl (fun K hK => ?_) AllReadyH.nil))
    · go_simp
      refine (C1.out _ (HB.out.keep hHeld.2.2.2.2.2.2.2.2.2.2.2.2)).mono ?_
      rintro e2 w2 ⟨nm2, g2, o2, n2, c2, sf2, bl2, rfl, tt2, k2⟩
      have hf2 := fun w => fieldHgt nm2 (some ⟨g2, o2, none⟩) n2 c2 sf2 h1 bl2 w
      have hS2 := keep12k k2 hHeld
      try (have bx := k2.liv bx)
      clear tt2 k2
      go_wp2_with fail
      refine hK.out _ _ ?_ (fun hHeld => ?_)
      · (try dsimp only); (first | assumption | exact keep12k ((Kp.refl _).alloc _) hS6)
      clear hK K
      try simp only [Act.put, List.setIfInBounds_toArray, List.set_cons_zero, List.set_cons_succ]
      refine wpAnyH_take (i := 3) (oi := ⟨some 11, _, _, _, _, _⟩) (v := ?_) rfl (by kernel_rfl) (by kernel_rfl) (by kernel_rfl) (fun _ _ _ h => h) (Or.inl ⟨by rfl, ?_⟩) (by assumption) ?_
      rotate_left
      · intro w hSw; (try dsimp only at hSw); go_simp; (all_goals with_reducible rfl)
      try simp only [Act.put, List.setIfInBounds_toArray, List.set_cons_zero, List.set_cons_succ]
      refine wpAnyH_ready (rs := [6, 9]) (by kernel_rfl) (by simp) ?_
      refine (AllReadyH.cons (o := ⟨some 14, _, _, _, _, _⟩) rfl (fun K hK => ?_) (AllReadyH.cons (o := ⟨some 7, _, _, _, _, _⟩) rfl (fun K hK => ?_) AllReadyH.nil))
      · go_simp
        refine (C2.out _ (HB.out.keep hHeld.2.2.2.2.2.2.2.2.2.2.2.2)).mono ?_
        rintro e6 w6 ⟨nm6, g6, o6, n6, c6, sf6, bl6, rfl, tt6, k6⟩
        have hf6 := fun w => fieldHgt nm6 (some ⟨g6, o6, none⟩) n6 c6 sf6 h2 bl6 w
        have hS6 := keep12k k6 hHeld
        try (have bx := k6.liv bx)
        clear tt6 k6
        go_wp2_with fail
        refine hK.out _ _ ?_ (fun hHeld => ?_)
        · (try dsimp only); (first | assumption | exact keep12k ((Kp.refl _).alloc _) hS6)
        clear hK K
        try simp only [Act.put, List.setIfInBounds_toArray, List.set_cons_zero, List.set_cons_succ]
        refine wpAnyH_take (i := 7) (oi := ⟨some 15, _, _, _, _, _⟩) (v := ?_) rfl (by kernel_rfl) (by kernel_rfl) (by kernel_rfl) (fun _ _ _ h => h) (Or.inl ⟨by rfl, ?_⟩) (by assumption) ?_
        rotate_left
        · intro w hSw; (try dsimp only at hSw); go_simp; (all_goals with_reducible rfl)
        try simp only [Act.put, List.setIfInBounds_toArray, List.set_cons_zero, List.set_cons_succ]
        refine wpAnyH_take (i := 8) (oi := ⟨some 16, _, _, _, _, _⟩) (v := ?_) rfl (by kernel_rfl) (by kernel_rfl) (by kernel_rfl) (fun _ _ _ h => h) (Or.inl ⟨by rfl, ?_⟩) (by assumption) ?_
        rotate_left
        · intro w hSw; (try dsimp only at hSw); go_simp; (all_goals with_reducible rfl)
        try simp only [Act.put, List.setIfInBounds_toArray, List.set_cons_zero, List.set_cons_succ]
        refine wpAnyH_ready (rs := [9]) (by kernel_rfl) (by simp) ?_
        refine (AllReadyH.cons (o := ⟨some 7, _, _, _, _, _⟩) rfl (fun K hK => ?_) AllReadyH.nil)
        go_simp
        go_wp2_with fail
        have hS9 := keep12k ((Kp.refl _).alloc (.cells #[.int .i64 0] 3)) hHeld
        have bx := new12k hHeld
        have hlt := cellB hHeld.1
        refine hK.out _ _ ?_ (fun hHeld => ?_)
        · (try dsimp only); (first | assumption | exact keep12k ((Kp.refl _).alloc _) hS6)
        clear hK K
        try simp only [Act.put, List.setIfInBounds_toArray, List.set_cons_zero, List.set_cons_succ]
        refine wpAnyH_ready (rs := [10]) (by kernel_rfl) (by simp) ?_
        refine (AllReadyH.cons (o := ⟨none, _, _, _, _, _⟩) rfl (fun K hK => ?_) AllReadyH.nil)
        go_simp
        obtain ⟨bx1, bx2⟩ := bx
        go_wp2_with fail
        have hS10 := set12k (u := .int .i64 h2) hlt hHeld
        have bx3 := cell_set_same (u := .int .i64 h2) bx1
        refine hK.out _ _ ?_ (fun hHeld => ?_)
        · (try dsimp only); (first | assumption | exact keep12k ((Kp.refl _).alloc _) hS6)
        clear hK K
        try simp only [Act.put, List.setIfInBounds_toArray, List.set_cons_zero, List.set_cons_succ]
        refine wpAnyH_done (by kernel_rfl) ?_ _
        go_wp2_with fail
        go_ret
        exact ⟨_, rfl, blockPred At Ak nt nk ct ck l m a b c d e W H x r y lt lr ld _ _ _ (HB.out.keep hHeld.2.2.2.2.2.2.2.2.2.2.2.2) HOK.out HM.out _ _ (cells12k hHeld) (by rw [← E1.out, ← E2.out, show max h1 h2 = h2 by omega]; first | exact bx3 | simp [go_sem]), hHeld.2.2.2.2.2.2.2.2.2.2.2.2⟩
      · go_simp
        go_wp2_with fail
        have hS9 := keep12k ((Kp.refl _).alloc (.cells #[.int .i64 0] 3)) hHeld
        have bx := new12k hHeld
        have hlt := cellB hHeld.1
        refine hK.out _ _ ?_ (fun hHeld => ?_)
        · (try dsimp only); (first | assumption | exact keep12k ((Kp.refl _).alloc _) hS6)
        clear hK K
        try simp only [Act.put, List.setIfInBounds_toArray, List.set_cons_zero, List.set_cons_succ]
        refine wpAnyH_ready (rs := [6]) (by kernel_rfl) (by simp) ?_
        refine (AllReadyH.cons (o := ⟨some 14, _, _, _, _, _⟩) rfl (fun K hK => ?_) AllReadyH.nil)
        go_simp
        refine (C2.out _ (HB.out.keep hHeld.2.2.2.2.2.2.2.2.2.2.2.2)).mono ?_
        rintro e6 w6 ⟨nm6, g6, o6, n6, c6, sf6, bl6, rfl, tt6, k6⟩
        have hf6 := fun w => fieldHgt nm6 (some ⟨g6, o6, none⟩) n6 c6 sf6 h2 bl6 w
        have hS6 := keep12k k6 hHeld
        try (have bx := k6.liv bx)
        clear tt6 k6
        go_wp2_with fail
        refine hK.out _ _ ?_ (fun hHeld => ?_)
        · (try dsimp only); (first | assumption | exact keep12k ((Kp.refl _).alloc _) hS6)
        clear hK K
        try simp only [Act.put, List.setIfInBounds_toArray, List.set_cons_zero, List.set_cons_succ]
        refine wpAnyH_take (i := 7) (oi := ⟨some 15, _, _, _, _, _⟩) (v := ?_) rfl (by kernel_rfl) (by kernel_rfl) (by kernel_rfl) (fun _ _ _ h => h) (Or.inl ⟨by rfl, ?_⟩) (by assumption) ?_
        rotate_left
        · intro w hSw; (try dsimp only at hSw); go_simp; (all_goals with_reducible rfl)
        try simp only [Act.put, List.setIfInBounds_toArray, List.set_cons_zero, List.set_cons_succ]
        refine wpAnyH_take (i := 8) (oi := ⟨some 16, _, _, _, _, _⟩) (v := ?_) rfl (by kernel_rfl) (by kernel_rfl) (by kernel_rfl) (fun _ _ _ h => h) (Or.inl ⟨by rfl, ?_⟩) (by assumption) ?_
        rotate_left
        · intro w hSw; (try dsimp only at hSw); go_simp; (all_goals with_reducible rfl)
        try simp only [Act.put, List.setIfInBounds_toArray, List.set_cons_zero, List.set_cons_succ]
        refine wpAnyH_ready (rs := [10]) (by kernel_rfl) (by simp) ?_
        refine (AllReadyH.cons (o := ⟨none, _, _, _, _, _⟩) rfl (fun K hK => ?_) AllReadyH.nil)
        go_simp
        obtain ⟨bx1, bx2⟩ := bx
        go_wp2_with fail
        have hS10 := set12k (u := .int .i64 h2) hlt hHeld
        have bx3 := cell_set_same (u := .int .i64 h2) bx1
        refine hK.out _ _ ?_ (fun hHeld => ?_)
        · (try dsimp only); (first | assumption | exact keep12k ((Kp.refl _).alloc _) hS6)
        clear hK K
        try simp only [Act.put, List.setIfInBounds_toArray, List.set_cons_zero, List.set_cons_succ]
        refine wpAnyH_done (by kernel_rfl) ?_ _
        go_wp2_with fail
        go_ret
        exact ⟨_, rfl, blockPred At Ak nt nk ct ck l m a b c d e W H x r y lt lr ld _ _ _ (HB.out.keep hHeld.2.2.2.2.2.2.2.2.2.2.2.2) HOK.out HM.out _ _ (cells12k hHeld) (by rw [← E1.out, ← E2.out, show max h1 h2 = h2 by omega]; first | exact bx3 | simp [go_sem]), hHeld.2.2.2.2.2.2.2.2.2.2.2.2⟩
    · go_simp
      go_wp2_with fail
      have hS9 := keep12k ((Kp.refl _).alloc (.cells #[.int .i64 0] 3)) hHeld
      have bx := new12k hHeld
      have hlt := cellB hHeld.1
      refine hK.out _ _ ?_ (fun hHeld => ?_)
      · (try dsimp only); (first | assumption | exact keep12k ((Kp.refl _).alloc _) hS6)
      clear hK K
      try simp only [Act.put, List.setIfInBounds_toArray, List.set_cons_zero, List.set_cons_succ]
      refine wpAnyH_ready (rs := [2]) (by kernel_rfl) (by simp) ?_
      refine (AllReadyH.cons (o := ⟨some 10, _, _, _, _, _⟩) rfl (fun K hK => ?_) AllReadyH.nil)
      go_simp
      refine (C1.out _ (HB.out.keep hHeld.2.2.2.2.2.2.2.2.2.2.2.2)).mono ?_
      rintro e2 w2 ⟨nm2, g2, o2, n2, c2, sf2, bl2, rfl, tt2, k2⟩
      have hf2 := fun w => fieldHgt nm2 (some ⟨g2, o2, none⟩) n2 c2 sf2 h1 bl2 w
      have hS2 := keep12k k2 hHeld
      try (have bx := k2.liv bx)
      clear tt2 k2
      go_wp2_with fail
      refine hK.out _ _ ?_ (fun hHeld => ?_)
      · (try dsimp only); (first | assumption | exact keep12k ((Kp.refl _).alloc _) hS6)
      clear hK K
      try simp only [Act.put, List.setIfInBounds_toArray, List.set_cons_zero, List.set_cons_succ]
      refine wpAnyH_take (i := 3) (oi := ⟨some 11, _, _, _, _, _⟩) (v := ?_) rfl (by kernel_rfl) (by kernel_rfl) (by kernel_rfl) (fun _ _ _ h => h) (Or.inl ⟨by rfl, ?_⟩) (by assumption) ?_
      rotate_left
      · intro w hSw; (try dsimp only at hSw); go_simp; (all_goals with_reducible rfl)
      try simp only [Act.put, List.setIfInBounds_toArray, List.set_cons_zero, List.set_cons_succ]
      refine wpAnyH_ready (rs := [6]) (by kernel_rfl) (by simp) ?_
      refine (AllReadyH.cons (o := ⟨some 14, _, _, _, _, _⟩) rfl (fun K hK => ?_) AllReadyH.nil)
      go_simp
      refine (C2.out _ (HB.out.keep hHeld.2.2.2.2.2.2.2.2.2.2.2.2)).mono ?_
      rintro e6 w6 ⟨nm6, g6, o6, n6, c6, sf6, bl6, rfl, tt6, k6⟩
      have hf6 := fun w => fieldHgt nm6 (some ⟨g6, o6, none⟩) n6 c6 sf6 h2 bl6 w
      have hS6 := keep12k k6 hHeld
      try (have bx := k6.liv bx)
      clear tt6 k6
      go_wp2_with fail
      refine hK.out _ _ ?_ (fun hHeld => ?_)
      · (try dsimp only); (first | assumption | exact keep12k ((Kp.refl _).alloc _) hS6)
      clear hK K
      try simp only [Act.put, List.setIfInBounds_toArray, List.set_cons_zero, List.set_cons_succ]
      refine wpAnyH_take (i := 7) (oi := ⟨some 15, _, _, _, _, _⟩) (v := ?_) rfl (by kernel_rfl) (by kernel_rfl) (by kernel_rfl) (fun _ _ _ h => h) (Or.inl ⟨by rfl, ?_⟩) (by assumption) ?_
      rotate_left
      · intro w hSw; (try dsimp only at hSw); go_simp; (all_goals with_reducible rfl)
      try simp only [Act.put, List.setIfInBounds_toArray, List.set_cons_zero, List.set_cons_succ]
      refine wpAnyH_take (i := 8) (oi := ⟨some 16, _, _, _, _, _⟩) (v := ?_) rfl (by kernel_rfl) (by kernel_rfl) (by kernel_rfl) (fun _ _ _ h => h) (Or.inl ⟨by rfl, ?_⟩) (by assumption) ?_
      rotate_left
      · intro w hSw; (try dsimp only at hSw); go_simp; (all_goals with_reducible rfl)
      try simp only [Act.put, List.setIfInBounds_toArray, List.set_cons_zero, List.set_cons_succ]
      refine wpAnyH_ready (rs := [10]) (by kernel_rfl) (by simp) ?_
      refine (AllReadyH.cons (o := ⟨none, _, _, _, _, _⟩) rfl (fun K hK => ?_) AllReadyH.nil)
      go_simp
      obtain ⟨bx1, bx2⟩ := bx
      go_wp2_with fail
      have hS10 := set12k (u := .int .i64 h2) hlt hHeld
      have bx3 := cell_set_same (u := .int .i64 h2) bx1
      refine hK.out _ _ ?_ (fun hHeld => ?_)
      · (try dsimp only); (first | assumption | exact keep12k ((Kp.refl _).alloc _) hS6)
      clear hK K
      try simp only [Act.put, List.setIfInBounds_toArray, List.set_cons_zero, List.set_cons_succ]
      refine wpAnyH_done (by kernel_rfl) ?_ _
      go_wp2_with fail
      go_ret
      exact ⟨_, rfl, blockPred At Ak nt nk ct ck l m a b c d e W H x r y lt lr ld _ _ _ (HB.out.keep hHeld.2.2.2.2.2.2.2.2.2.2.2.2) HOK.out HM.out _ _ (cells12k hHeld) (by rw [← E1.out, ← E2.out, show max h1 h2 = h2 by omega]; first | exact bx3 | simp [go_sem]), hHeld.2.2.2.2.2.2.2.2.2.2.2.2⟩
  · go_enter Tryz.func87, Tryz.ntmps87
    go_upto_region 1 with (fail)
    have s1 := drew12k s0
    clear s0
    refine wp_region_held_drew (S := (fun w' => w'.cell? ⟨w.heap.size, 0, none⟩ = some (.slice At nt ct) ∧ w'.cell? ⟨w.heap.size, 1, none⟩ = some (.slice Ak nk ck) ∧ w'.cell? ⟨w.heap.size, 2, none⟩ = some (.int .i64 a) ∧ w'.cell? ⟨w.heap.size, 3, none⟩ = some (.int .i64 b) ∧ w'.cell? ⟨w.heap.size, 4, none⟩ = some (.int .i64 c) ∧ w'.cell? ⟨w.heap.size, 5, none⟩ = some (.int .i64 d) ∧ w'.cell? ⟨w.heap.size, 6, none⟩ = some (.int .i64 e) ∧ w'.cell? ⟨w.heap.size, 7, none⟩ = some (.int .i64 W) ∧ w'.cell? ⟨w.heap.size, 8, none⟩ = some (.int .i64 H) ∧ w'.cell? ⟨w.heap.size, 9, none⟩ = some (x) ∧ w'.cell? ⟨w.heap.size, 10, none⟩ = some (r) ∧ w'.cell? ⟨w.heap.size, 11, none⟩ = some (y) ∧ Kp w w')) (by kernel_rfl) ?_ (fun hHeld => ?_)
    · assumption
    generalize (w.alloc (.cells #[.slice At nt ct, .slice Ak nk ck, .int .i64 a, .int .i64 b, .int .i64 c, .int .i64 d, .int .i64 e, .int .i64 W, .int .i64 H, x, r, y] 41)).drew = V at *
    refine wpAnyH_take (i := 0) (oi := ⟨some 8, _, _, _, _, _⟩) (v := ?_) rfl (by kernel_rfl) (by kernel_rfl) (by kernel_rfl) (fun _ _ _ h => h) (Or.inl ⟨by rfl, ?_⟩) (by assumption) ?_
    rotate_left
    · intro w hSw; (try dsimp only at hSw); go_simp; (all_goals with_reducible rfl)
    try simp only [Act.put, List.setIfInBounds_toArray, List.set_cons_zero, List.set_cons_succ]
    refine wpAnyH_take (i := 1) (oi := ⟨some 9, _, _, _, _, _⟩) (v := ?_) rfl (by kernel_rfl) (by kernel_rfl) (by kernel_rfl) (fun _ _ _ h => h) (Or.inl ⟨by rfl, ?_⟩) (by assumption) ?_
    rotate_left
    · intro w hSw; (try dsimp only at hSw); go_simp; (all_goals with_reducible rfl)
    try simp only [Act.put, List.setIfInBounds_toArray, List.set_cons_zero, List.set_cons_succ]
    refine wpAnyH_take (i := 4) (oi := ⟨some 12, _, _, _, _, _⟩) (v := ?_) rfl (by kernel_rfl) (by kernel_rfl) (by kernel_rfl) (fun _ _ _ h => h) (Or.inl ⟨by rfl, ?_⟩) (by assumption) ?_
    rotate_left
    · intro w hSw; (try dsimp only at hSw); go_simp; (all_goals with_reducible rfl)
    try simp only [Act.put, List.setIfInBounds_toArray, List.set_cons_zero, List.set_cons_succ]
    refine wpAnyH_take (i := 5) (oi := ⟨some 13, _, _, _, _, _⟩) (v := ?_) rfl (by kernel_rfl) (by kernel_rfl) (by kernel_rfl) (fun _ _ _ h => h) (Or.inl ⟨by rfl, ?_⟩) (by assumption) ?_
    rotate_left
    · intro w hSw; (try dsimp only at hSw); go_simp; (all_goals with_reducible rfl)
    try simp only [Act.put, List.setIfInBounds_toArray, List.set_cons_zero, List.set_cons_succ]
    refine wpAnyH_ready (rs := [2, 9]) (by kernel_rfl) (by simp) ?_
    refine (AllReadyH.cons (o := ⟨some 10, _, _, _, _, _⟩) rfl (fun K hK => ?_) (AllReadyH.cons (o := ⟨some 7, _, _, _, _, _⟩) rfl (fun K hK => ?_) AllReadyH.nil))
    · go_simp
      refine (C1.out _ (HB.out.keep hHeld.2.2.2.2.2.2.2.2.2.2.2.2)).mono ?_
      rintro e2 w2 ⟨nm2, g2, o2, n2, c2, sf2, bl2, rfl, tt2, k2⟩
      have hf2 := fun w => fieldHgt nm2 (some ⟨g2, o2, none⟩) n2 c2 sf2 h1 bl2 w
      have hS2 := keep12k k2 hHeld
      try (have bx := k2.liv bx)
      clear tt2 k2
      go_wp2_with fail
      refine hK.out _ _ ?_ (fun hHeld => ?_)
      · (try dsimp only); (first | assumption | exact keep12k ((Kp.refl _).alloc _) hS6)
      clear hK K
      try simp only [Act.put, List.setIfInBounds_toArray, List.set_cons_zero, List.set_cons_succ]
      refine wpAnyH_take (i := 3) (oi := ⟨some 11, _, _, _, _, _⟩) (v := ?_) rfl (by kernel_rfl) (by kernel_rfl) (by kernel_rfl) (fun _ _ _ h => h) (Or.inl ⟨by rfl, ?_⟩) (by assumption) ?_
      rotate_left
      · intro w hSw; (try dsimp only at hSw); go_simp; (all_goals with_reducible rfl)
      try simp only [Act.put, List.setIfInBounds_toArray, List.set_cons_zero, List.set_cons_succ]
      refine wpAnyH_ready (rs := [6, 9]) (by kernel_rfl) (by simp) ?_
      refine (AllReadyH.cons (o := ⟨some 14, _, _, _, _, _⟩) rfl (fun K hK => ?_) (AllReadyH.cons (o := ⟨some 7, _, _, _, _, _⟩) rfl (fun K hK => ?_) AllReadyH.nil))
      · go_simp
        refine (C2.out _ (HB.out.keep hHeld.2.2.2.2.2.2.2.2.2.2.2.2)).mono ?_
        rintro e6 w6 ⟨nm6, g6, o6, n6, c6, sf6, bl6, rfl, tt6, k6⟩
        have hf6 := fun w => fieldHgt nm6 (some ⟨g6, o6, none⟩) n6 c6 sf6 h2 bl6 w
        have hS6 := keep12k k6 hHeld
        try (have bx := k6.liv bx)
        clear tt6 k6
        go_wp2_with fail
        refine hK.out _ _ ?_ (fun hHeld => ?_)
        · (try dsimp only); (first | assumption | exact keep12k ((Kp.refl _).alloc _) hS6)
        clear hK K
        try simp only [Act.put, List.setIfInBounds_toArray, List.set_cons_zero, List.set_cons_succ]
        refine wpAnyH_take (i := 7) (oi := ⟨some 15, _, _, _, _, _⟩) (v := ?_) rfl (by kernel_rfl) (by kernel_rfl) (by kernel_rfl) (fun _ _ _ h => h) (Or.inl ⟨by rfl, ?_⟩) (by assumption) ?_
        rotate_left
        · intro w hSw; (try dsimp only at hSw); go_simp; (all_goals with_reducible rfl)
        try simp only [Act.put, List.setIfInBounds_toArray, List.set_cons_zero, List.set_cons_succ]
        refine wpAnyH_take (i := 8) (oi := ⟨some 16, _, _, _, _, _⟩) (v := ?_) rfl (by kernel_rfl) (by kernel_rfl) (by kernel_rfl) (fun _ _ _ h => h) (Or.inl ⟨by rfl, ?_⟩) (by assumption) ?_
        rotate_left
        · intro w hSw; (try dsimp only at hSw); go_simp; (all_goals with_reducible rfl)
        try simp only [Act.put, List.setIfInBounds_toArray, List.set_cons_zero, List.set_cons_succ]
        refine wpAnyH_ready (rs := [9]) (by kernel_rfl) (by simp) ?_
        refine (AllReadyH.cons (o := ⟨some 7, _, _, _, _, _⟩) rfl (fun K hK => ?_) AllReadyH.nil)
        go_simp
        go_wp2_with fail
        have hS9 := keep12k ((Kp.refl _).alloc (.cells #[.int .i64 0] 3)) hHeld
        have bx := new12k hHeld
        have hlt := cellB hHeld.1
        refine hK.out _ _ ?_ (fun hHeld => ?_)
        · (try dsimp only); (first | assumption | exact keep12k ((Kp.refl _).alloc _) hS6)
        clear hK K
        try simp only [Act.put, List.setIfInBounds_toArray, List.set_cons_zero, List.set_cons_succ]
        refine wpAnyH_ready (rs := [10]) (by kernel_rfl) (by simp) ?_
        refine (AllReadyH.cons (o := ⟨none, _, _, _, _, _⟩) rfl (fun K hK => ?_) AllReadyH.nil)
        go_simp
        obtain ⟨bx1, bx2⟩ := bx
        go_wp2_with fail
        have hS10 := set12k (u := .int .i64 h1) hlt hHeld
        have bx3 := cell_set_same (u := .int .i64 h1) bx1
        refine hK.out _ _ ?_ (fun hHeld => ?_)
        · (try dsimp only); (first | assumption | exact keep12k ((Kp.refl _).alloc _) hS6)
        clear hK K
        try simp only [Act.put, List.setIfInBounds_toArray, List.set_cons_zero, List.set_cons_succ]
        refine wpAnyH_done (by kernel_rfl) ?_ _
        go_wp2_with fail
        go_ret
        exact ⟨_, rfl, blockPred At Ak nt nk ct ck l m a b c d e W H x r y lt lr ld _ _ _ (HB.out.keep hHeld.2.2.2.2.2.2.2.2.2.2.2.2) HOK.out HM.out _ _ (cells12k hHeld) (by rw [← E1.out, ← E2.out, show max h1 h2 = h1 by omega]; first | exact bx3 | simp [go_sem]), hHeld.2.2.2.2.2.2.2.2.2.2.2.2⟩
      · go_simp
        go_wp2_with fail
        have hS9 := keep12k ((Kp.refl _).alloc (.cells #[.int .i64 0] 3)) hHeld
        have bx := new12k hHeld
        have hlt := cellB hHeld.1
        refine hK.out _ _ ?_ (fun hHeld => ?_)
        · (try dsimp only); (first | assumption | exact keep12k ((Kp.refl _).alloc _) hS6)
        clear hK K
        try simp only [Act.put, List.setIfInBounds_toArray, List.set_cons_zero, List.set_cons_succ]
        refine wpAnyH_ready (rs := [6]) (by kernel_rfl) (by simp) ?_
        refine (AllReadyH.cons (o := ⟨some 14, _, _, _, _, _⟩) rfl (fun K hK => ?_) AllReadyH.nil)
        go_simp
        refine (C2.out _ (HB.out.keep hHeld.2.2.2.2.2.2.2.2.2.2.2.2)).mono ?_
        rintro e6 w6 ⟨nm6, g6, o6, n6, c6, sf6, bl6, rfl, tt6, k6⟩
        have hf6 := fun w => fieldHgt nm6 (some ⟨g6, o6, none⟩) n6 c6 sf6 h2 bl6 w
        have hS6 := keep12k k6 hHeld
        try (have bx := k6.liv bx)
        clear tt6 k6
        go_wp2_with fail
        refine hK.out _ _ ?_ (fun hHeld => ?_)
        · (try dsimp only); (first | assumption | exact keep12k ((Kp.refl _).alloc _) hS6)
        clear hK K
        try simp only [Act.put, List.setIfInBounds_toArray, List.set_cons_zero, List.set_cons_succ]
        refine wpAnyH_take (i := 7) (oi := ⟨some 15, _, _, _, _, _⟩) (v := ?_) rfl (by kernel_rfl) (by kernel_rfl) (by kernel_rfl) (fun _ _ _ h => h) (Or.inl ⟨by rfl, ?_⟩) (by assumption) ?_
        rotate_left
        · intro w hSw; (try dsimp only at hSw); go_simp; (all_goals with_reducible rfl)
        try simp only [Act.put, List.setIfInBounds_toArray, List.set_cons_zero, List.set_cons_succ]
        refine wpAnyH_take (i := 8) (oi := ⟨some 16, _, _, _, _, _⟩) (v := ?_) rfl (by kernel_rfl) (by kernel_rfl) (by kernel_rfl) (fun _ _ _ h => h) (Or.inl ⟨by rfl, ?_⟩) (by assumption) ?_
        rotate_left
        · intro w hSw; (try dsimp only at hSw); go_simp; (all_goals with_reducible rfl)
        try simp only [Act.put, List.setIfInBounds_toArray, List.set_cons_zero, List.set_cons_succ]
        refine wpAnyH_ready (rs := [10]) (by kernel_rfl) (by simp) ?_
        refine (AllReadyH.cons (o := ⟨none, _, _, _, _, _⟩) rfl (fun K hK => ?_) AllReadyH.nil)
        go_simp
        obtain ⟨bx1, bx2⟩ := bx
        go_wp2_with fail
        have hS10 := set12k (u := .int .i64 h1) hlt hHeld
        have bx3 := cell_set_same (u := .int .i64 h1) bx1
        refine hK.out _ _ ?_ (fun hHeld => ?_)
        · (try dsimp only); (first | assumption | exact keep12k ((Kp.refl _).alloc _) hS6)
        clear hK K
        try simp only [Act.put, List.setIfInBounds_toArray, List.set_cons_zero, List.set_cons_succ]
        refine wpAnyH_done (by kernel_rfl) ?_ _
        go_wp2_with fail
        go_ret
        exact ⟨_, rfl, blockPred At Ak nt nk ct ck l m a b c d e W H x r y lt lr ld _ _ _ (HB.out.keep hHeld.2.2.2.2.2.2.2.2.2.2.2.2) HOK.out HM.out _ _ (cells12k hHeld) (by rw [← E1.out, ← E2.out, show max h1 h2 = h1 by omega]; first | exact bx3 | simp [go_sem]), hHeld.2.2.2.2.2.2.2.2.2.2.2.2⟩
    · go_simp
      go_wp2_with fail
      have hS9 := keep12k ((Kp.refl _).alloc (.cells #[.int .i64 0] 3)) hHeld
      have bx := new12k hHeld
      have hlt := cellB hHeld.1
      refine hK.out _ _ ?_ (fun hHeld => ?_)
      · (try dsimp only); (first | assumption | exact keep12k ((Kp.refl _).alloc _) hS6)
      clear hK K
      try simp only [Act.put, List.setIfInBounds_toArray, List.set_cons_zero, List.set_cons_succ]
      refine wpAnyH_ready (rs := [2]) (by kernel_rfl) (by simp) ?_
      refine (AllReadyH.cons (o := ⟨some 10, _, _, _, _, _⟩) rfl (fun K hK => ?_) AllReadyH.nil)
      go_simp
      refine (C1.out _ (HB.out.keep hHeld.2.2.2.2.2.2.2.2.2.2.2.2)).mono ?_
      rintro e2 w2 ⟨nm2, g2, o2, n2, c2, sf2, bl2, rfl, tt2, k2⟩
      have hf2 := fun w => fieldHgt nm2 (some ⟨g2, o2, none⟩) n2 c2 sf2 h1 bl2 w
      have hS2 := keep12k k2 hHeld
      try (have bx := k2.liv bx)
      clear tt2 k2
      go_wp2_with fail
      refine hK.out _ _ ?_ (fun hHeld => ?_)
      · (try dsimp only); (first | assumption | exact keep12k ((Kp.refl _).alloc _) hS6)
      clear hK K
      try simp only [Act.put, List.setIfInBounds_toArray, List.set_cons_zero, List.set_cons_succ]
      refine wpAnyH_take (i := 3) (oi := ⟨some 11, _, _, _, _, _⟩) (v := ?_) rfl (by kernel_rfl) (by kernel_rfl) (by kernel_rfl) (fun _ _ _ h => h) (Or.inl ⟨by rfl, ?_⟩) (by assumption) ?_
      rotate_left
      · intro w hSw; (try dsimp only at hSw); go_simp; (all_goals with_reducible rfl)
      try simp only [Act.put, List.setIfInBounds_toArray, List.set_cons_zero, List.set_cons_succ]
      refine wpAnyH_ready (rs := [6]) (by kernel_rfl) (by simp) ?_
      refine (AllReadyH.cons (o := ⟨some 14, _, _, _, _, _⟩) rfl (fun K hK => ?_) AllReadyH.nil)
      go_simp
      refine (C2.out _ (HB.out.keep hHeld.2.2.2.2.2.2.2.2.2.2.2.2)).mono ?_
      rintro e6 w6 ⟨nm6, g6, o6, n6, c6, sf6, bl6, rfl, tt6, k6⟩
      have hf6 := fun w => fieldHgt nm6 (some ⟨g6, o6, none⟩) n6 c6 sf6 h2 bl6 w
      have hS6 := keep12k k6 hHeld
      try (have bx := k6.liv bx)
      clear tt6 k6
      go_wp2_with fail
      refine hK.out _ _ ?_ (fun hHeld => ?_)
      · (try dsimp only); (first | assumption | exact keep12k ((Kp.refl _).alloc _) hS6)
      clear hK K
      try simp only [Act.put, List.setIfInBounds_toArray, List.set_cons_zero, List.set_cons_succ]
      refine wpAnyH_take (i := 7) (oi := ⟨some 15, _, _, _, _, _⟩) (v := ?_) rfl (by kernel_rfl) (by kernel_rfl) (by kernel_rfl) (fun _ _ _ h => h) (Or.inl ⟨by rfl, ?_⟩) (by assumption) ?_
      rotate_left
      · intro w hSw; (try dsimp only at hSw); go_simp; (all_goals with_reducible rfl)
      try simp only [Act.put, List.setIfInBounds_toArray, List.set_cons_zero, List.set_cons_succ]
      refine wpAnyH_take (i := 8) (oi := ⟨some 16, _, _, _, _, _⟩) (v := ?_) rfl (by kernel_rfl) (by kernel_rfl) (by kernel_rfl) (fun _ _ _ h => h) (Or.inl ⟨by rfl, ?_⟩) (by assumption) ?_
      rotate_left
      · intro w hSw; (try dsimp only at hSw); go_simp; (all_goals with_reducible rfl)
      try simp only [Act.put, List.setIfInBounds_toArray, List.set_cons_zero, List.set_cons_succ]
      refine wpAnyH_ready (rs := [10]) (by kernel_rfl) (by simp) ?_
      refine (AllReadyH.cons (o := ⟨none, _, _, _, _, _⟩) rfl (fun K hK => ?_) AllReadyH.nil)
      go_simp
      obtain ⟨bx1, bx2⟩ := bx
      go_wp2_with fail
      have hS10 := set12k (u := .int .i64 h1) hlt hHeld
      have bx3 := cell_set_same (u := .int .i64 h1) bx1
      refine hK.out _ _ ?_ (fun hHeld => ?_)
      · (try dsimp only); (first | assumption | exact keep12k ((Kp.refl _).alloc _) hS6)
      clear hK K
      try simp only [Act.put, List.setIfInBounds_toArray, List.set_cons_zero, List.set_cons_succ]
      refine wpAnyH_done (by kernel_rfl) ?_ _
      go_wp2_with fail
      go_ret
      exact ⟨_, rfl, blockPred At Ak nt nk ct ck l m a b c d e W H x r y lt lr ld _ _ _ (HB.out.keep hHeld.2.2.2.2.2.2.2.2.2.2.2.2) HOK.out HM.out _ _ (cells12k hHeld) (by rw [← E1.out, ← E2.out, show max h1 h2 = h1 by omega]; first | exact bx3 | simp [go_sem]), hHeld.2.2.2.2.2.2.2.2.2.2.2.2⟩

end Go.Proofs.YtfohhofpfmbheaaGreatDoor
