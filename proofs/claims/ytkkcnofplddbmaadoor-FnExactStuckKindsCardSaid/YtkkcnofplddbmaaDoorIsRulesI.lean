/-
  The program's test of rules returns what a plain function on lists says, and changes nothing that was there. The ranges hold what the program's text lays.
-/
import Derived.Test.YtkkcnofplddbmaaDoorRulI
namespace Go.Proofs.YtkkcnofplddbmaaDoor
open Go.RowKit

/-- What rules are in memory: two slices that read as lists, and bounds. -/
structure RulAt (w : World) (At Ak : Option Addr) (nt nk : Nat) (l : List Ter) (m : List Knd) : Prop where
  rt : RdT w At nt l
  rk : RdK w Ak nk m
  bt : nt ≤ 1048576
  bk : nk ≤ 1048576
  bc : ∀ x ∈ l, x.cost.length ≤ 1048576 ∧ x.name.size ≤ 1048576
  bn : ∀ x ∈ m, x.name.size ≤ 1048576
theorem RulAt.keep {w w' : World} {At Ak : Option Addr} {nt nk : Nat} {l : List Ter} {m : List Knd} (h : RulAt w At Ak nt nk l m) (k : Kp w w') : RulAt w' At Ak nt nk l m :=
  ⟨h.rt.keep k, h.rk.keep k, h.bt, h.bk, h.bc, h.bn⟩

set_option maxRecDepth 100000 in
set_option maxHeartbeats 2000000 in
theorem isRules_no1 (At Ak : Option Addr) (nt nk ct ck : Nat) (l : List Ter) (m : List Knd) (a b c d e : Int) (w : World) (hs : Spans w) (h : RulAt w At Ak nt nk l m) (h1 : spB 1 6 nt = false) :
    Calls Tryd.prog 16 #[rv (.slice At nt ct) (.slice Ak nk ck) a b c d e] w fun e' w' => e' = .returned (.bool false) ∧ Kp w w' := by
  have s0 : (w.alloc (.cells #[.slice At nt ct, .slice Ak nk ck, .int .i64 a, .int .i64 b, .int .i64 c, .int .i64 d, .int .i64 e] 31)).cell? ⟨w.heap.size, 0, none⟩ = some (.slice At nt ct) ∧ (w.alloc (.cells #[.slice At nt ct, .slice Ak nk ck, .int .i64 a, .int .i64 b, .int .i64 c, .int .i64 d, .int .i64 e] 31)).cell? ⟨w.heap.size, 1, none⟩ = some (.slice Ak nk ck) ∧ (w.alloc (.cells #[.slice At nt ct, .slice Ak nk ck, .int .i64 a, .int .i64 b, .int .i64 c, .int .i64 d, .int .i64 e] 31)).cell? ⟨w.heap.size, 2, none⟩ = some (.int .i64 a) ∧ (w.alloc (.cells #[.slice At nt ct, .slice Ak nk ck, .int .i64 a, .int .i64 b, .int .i64 c, .int .i64 d, .int .i64 e] 31)).cell? ⟨w.heap.size, 3, none⟩ = some (.int .i64 b) ∧ (w.alloc (.cells #[.slice At nt ct, .slice Ak nk ck, .int .i64 a, .int .i64 b, .int .i64 c, .int .i64 d, .int .i64 e] 31)).cell? ⟨w.heap.size, 4, none⟩ = some (.int .i64 c) ∧ (w.alloc (.cells #[.slice At nt ct, .slice Ak nk ck, .int .i64 a, .int .i64 b, .int .i64 c, .int .i64 d, .int .i64 e] 31)).cell? ⟨w.heap.size, 5, none⟩ = some (.int .i64 d) ∧ (w.alloc (.cells #[.slice At nt ct, .slice Ak nk ck, .int .i64 a, .int .i64 b, .int .i64 c, .int .i64 d, .int .i64 e] 31)).cell? ⟨w.heap.size, 6, none⟩ = some (.int .i64 e) ∧ (w.alloc (.cells #[.slice At nt ct, .slice Ak nk ck, .int .i64 a, .int .i64 b, .int .i64 c, .int .i64 d, .int .i64 e] 31)).cell? ⟨0, 0, none⟩ = some (.int .i64 1) ∧ (w.alloc (.cells #[.slice At nt ct, .slice Ak nk ck, .int .i64 a, .int .i64 b, .int .i64 c, .int .i64 d, .int .i64 e] 31)).cell? ⟨0, 1, none⟩ = some (.int .i64 6) ∧ (w.alloc (.cells #[.slice At nt ct, .slice Ak nk ck, .int .i64 a, .int .i64 b, .int .i64 c, .int .i64 d, .int .i64 e] 31)).cell? ⟨1, 0, none⟩ = some (.int .i64 1) ∧ (w.alloc (.cells #[.slice At nt ct, .slice Ak nk ck, .int .i64 a, .int .i64 b, .int .i64 c, .int .i64 d, .int .i64 e] 31)).cell? ⟨1, 1, none⟩ = some (.int .i64 4) ∧ Kp w (w.alloc (.cells #[.slice At nt ct, .slice Ak nk ck, .int .i64 a, .int .i64 b, .int .i64 c, .int .i64 d, .int .i64 e] 31)) :=
    ⟨by simp [go_sem], by simp [go_sem], by simp [go_sem], by simp [go_sem], by simp [go_sem], by simp [go_sem], by simp [go_sem], ((Kp.refl w).alloc _).cell hs.terrains.1, ((Kp.refl w).alloc _).cell hs.terrains.2, ((Kp.refl w).alloc _).cell hs.kinds.1, ((Kp.refl w).alloc _).cell hs.kinds.2, (Kp.refl w).alloc _⟩
  have HS := Lib.hid hs
  have HL := Lib.hid h
  have hb1 := h.bt
  have hb2 := h.bk
  clear hs h
  go_enter Tryd.func16, Tryd.ntmps16
  go_wp2_with fail
  generalize w.alloc (.cells #[.slice At nt ct, .slice Ak nk ck, .int .i64 a, .int .i64 b, .int .i64 c, .int .i64 d, .int .i64 e] 31) = W0 at *
  refine (has_any _ _ _ _).mono ?_
  rintro e1 w1 ⟨rfl, k1⟩
  have s1 : w1.cell? ⟨w.heap.size, 0, none⟩ = some (.slice At nt ct) ∧ w1.cell? ⟨w.heap.size, 1, none⟩ = some (.slice Ak nk ck) ∧ w1.cell? ⟨w.heap.size, 2, none⟩ = some (.int .i64 a) ∧ w1.cell? ⟨w.heap.size, 3, none⟩ = some (.int .i64 b) ∧ w1.cell? ⟨w.heap.size, 4, none⟩ = some (.int .i64 c) ∧ w1.cell? ⟨w.heap.size, 5, none⟩ = some (.int .i64 d) ∧ w1.cell? ⟨w.heap.size, 6, none⟩ = some (.int .i64 e) ∧ w1.cell? ⟨0, 0, none⟩ = some (.int .i64 1) ∧ w1.cell? ⟨0, 1, none⟩ = some (.int .i64 6) ∧ w1.cell? ⟨1, 0, none⟩ = some (.int .i64 1) ∧ w1.cell? ⟨1, 1, none⟩ = some (.int .i64 4) ∧ Kp w w1 := ⟨k1.cell s0.1, k1.cell s0.2.1, k1.cell s0.2.2.1, k1.cell s0.2.2.2.1, k1.cell s0.2.2.2.2.1, k1.cell s0.2.2.2.2.2.1, k1.cell s0.2.2.2.2.2.2.1, k1.cell s0.2.2.2.2.2.2.2.1, k1.cell s0.2.2.2.2.2.2.2.2.1, k1.cell s0.2.2.2.2.2.2.2.2.2.1, k1.cell s0.2.2.2.2.2.2.2.2.2.2.1, s0.2.2.2.2.2.2.2.2.2.2.2.trans k1⟩
  have K1 : Kp W0 w1 := k1
  clear k1
  go_wp2_with fail
  go_ret
  exact ⟨rfl, s1.2.2.2.2.2.2.2.2.2.2.2⟩

set_option maxRecDepth 100000 in
set_option maxHeartbeats 2000000 in
theorem isRules_no2 (At Ak : Option Addr) (nt nk ct ck : Nat) (l : List Ter) (m : List Knd) (a b c d e : Int) (w : World) (hs : Spans w) (h : RulAt w At Ak nt nk l m) (h1 : spB 1 6 nt = true) (h2 : spB 1 4 nk = false) :
    Calls Tryd.prog 16 #[rv (.slice At nt ct) (.slice Ak nk ck) a b c d e] w fun e' w' => e' = .returned (.bool false) ∧ Kp w w' := by
  have s0 : (w.alloc (.cells #[.slice At nt ct, .slice Ak nk ck, .int .i64 a, .int .i64 b, .int .i64 c, .int .i64 d, .int .i64 e] 31)).cell? ⟨w.heap.size, 0, none⟩ = some (.slice At nt ct) ∧ (w.alloc (.cells #[.slice At nt ct, .slice Ak nk ck, .int .i64 a, .int .i64 b, .int .i64 c, .int .i64 d, .int .i64 e] 31)).cell? ⟨w.heap.size, 1, none⟩ = some (.slice Ak nk ck) ∧ (w.alloc (.cells #[.slice At nt ct, .slice Ak nk ck, .int .i64 a, .int .i64 b, .int .i64 c, .int .i64 d, .int .i64 e] 31)).cell? ⟨w.heap.size, 2, none⟩ = some (.int .i64 a) ∧ (w.alloc (.cells #[.slice At nt ct, .slice Ak nk ck, .int .i64 a, .int .i64 b, .int .i64 c, .int .i64 d, .int .i64 e] 31)).cell? ⟨w.heap.size, 3, none⟩ = some (.int .i64 b) ∧ (w.alloc (.cells #[.slice At nt ct, .slice Ak nk ck, .int .i64 a, .int .i64 b, .int .i64 c, .int .i64 d, .int .i64 e] 31)).cell? ⟨w.heap.size, 4, none⟩ = some (.int .i64 c) ∧ (w.alloc (.cells #[.slice At nt ct, .slice Ak nk ck, .int .i64 a, .int .i64 b, .int .i64 c, .int .i64 d, .int .i64 e] 31)).cell? ⟨w.heap.size, 5, none⟩ = some (.int .i64 d) ∧ (w.alloc (.cells #[.slice At nt ct, .slice Ak nk ck, .int .i64 a, .int .i64 b, .int .i64 c, .int .i64 d, .int .i64 e] 31)).cell? ⟨w.heap.size, 6, none⟩ = some (.int .i64 e) ∧ (w.alloc (.cells #[.slice At nt ct, .slice Ak nk ck, .int .i64 a, .int .i64 b, .int .i64 c, .int .i64 d, .int .i64 e] 31)).cell? ⟨0, 0, none⟩ = some (.int .i64 1) ∧ (w.alloc (.cells #[.slice At nt ct, .slice Ak nk ck, .int .i64 a, .int .i64 b, .int .i64 c, .int .i64 d, .int .i64 e] 31)).cell? ⟨0, 1, none⟩ = some (.int .i64 6) ∧ (w.alloc (.cells #[.slice At nt ct, .slice Ak nk ck, .int .i64 a, .int .i64 b, .int .i64 c, .int .i64 d, .int .i64 e] 31)).cell? ⟨1, 0, none⟩ = some (.int .i64 1) ∧ (w.alloc (.cells #[.slice At nt ct, .slice Ak nk ck, .int .i64 a, .int .i64 b, .int .i64 c, .int .i64 d, .int .i64 e] 31)).cell? ⟨1, 1, none⟩ = some (.int .i64 4) ∧ Kp w (w.alloc (.cells #[.slice At nt ct, .slice Ak nk ck, .int .i64 a, .int .i64 b, .int .i64 c, .int .i64 d, .int .i64 e] 31)) :=
    ⟨by simp [go_sem], by simp [go_sem], by simp [go_sem], by simp [go_sem], by simp [go_sem], by simp [go_sem], by simp [go_sem], ((Kp.refl w).alloc _).cell hs.terrains.1, ((Kp.refl w).alloc _).cell hs.terrains.2, ((Kp.refl w).alloc _).cell hs.kinds.1, ((Kp.refl w).alloc _).cell hs.kinds.2, (Kp.refl w).alloc _⟩
  have HS := Lib.hid hs
  have HL := Lib.hid h
  have hb1 := h.bt
  have hb2 := h.bk
  clear hs h
  go_enter Tryd.func16, Tryd.ntmps16
  go_wp2_with fail
  generalize w.alloc (.cells #[.slice At nt ct, .slice Ak nk ck, .int .i64 a, .int .i64 b, .int .i64 c, .int .i64 d, .int .i64 e] 31) = W0 at *
  refine (has_any _ _ _ _).mono ?_
  rintro e1 w1 ⟨rfl, k1⟩
  have s1 : w1.cell? ⟨w.heap.size, 0, none⟩ = some (.slice At nt ct) ∧ w1.cell? ⟨w.heap.size, 1, none⟩ = some (.slice Ak nk ck) ∧ w1.cell? ⟨w.heap.size, 2, none⟩ = some (.int .i64 a) ∧ w1.cell? ⟨w.heap.size, 3, none⟩ = some (.int .i64 b) ∧ w1.cell? ⟨w.heap.size, 4, none⟩ = some (.int .i64 c) ∧ w1.cell? ⟨w.heap.size, 5, none⟩ = some (.int .i64 d) ∧ w1.cell? ⟨w.heap.size, 6, none⟩ = some (.int .i64 e) ∧ w1.cell? ⟨0, 0, none⟩ = some (.int .i64 1) ∧ w1.cell? ⟨0, 1, none⟩ = some (.int .i64 6) ∧ w1.cell? ⟨1, 0, none⟩ = some (.int .i64 1) ∧ w1.cell? ⟨1, 1, none⟩ = some (.int .i64 4) ∧ Kp w w1 := ⟨k1.cell s0.1, k1.cell s0.2.1, k1.cell s0.2.2.1, k1.cell s0.2.2.2.1, k1.cell s0.2.2.2.2.1, k1.cell s0.2.2.2.2.2.1, k1.cell s0.2.2.2.2.2.2.1, k1.cell s0.2.2.2.2.2.2.2.1, k1.cell s0.2.2.2.2.2.2.2.2.1, k1.cell s0.2.2.2.2.2.2.2.2.2.1, k1.cell s0.2.2.2.2.2.2.2.2.2.2.1, s0.2.2.2.2.2.2.2.2.2.2.2.trans k1⟩
  have K1 : Kp W0 w1 := k1
  clear k1
  go_wp2_with fail
  refine (has_any _ _ _ _).mono ?_
  rintro e2 w2 ⟨rfl, k2⟩
  have s2 : w2.cell? ⟨w.heap.size, 0, none⟩ = some (.slice At nt ct) ∧ w2.cell? ⟨w.heap.size, 1, none⟩ = some (.slice Ak nk ck) ∧ w2.cell? ⟨w.heap.size, 2, none⟩ = some (.int .i64 a) ∧ w2.cell? ⟨w.heap.size, 3, none⟩ = some (.int .i64 b) ∧ w2.cell? ⟨w.heap.size, 4, none⟩ = some (.int .i64 c) ∧ w2.cell? ⟨w.heap.size, 5, none⟩ = some (.int .i64 d) ∧ w2.cell? ⟨w.heap.size, 6, none⟩ = some (.int .i64 e) ∧ w2.cell? ⟨0, 0, none⟩ = some (.int .i64 1) ∧ w2.cell? ⟨0, 1, none⟩ = some (.int .i64 6) ∧ w2.cell? ⟨1, 0, none⟩ = some (.int .i64 1) ∧ w2.cell? ⟨1, 1, none⟩ = some (.int .i64 4) ∧ Kp w w2 := ⟨k2.cell s1.1, k2.cell s1.2.1, k2.cell s1.2.2.1, k2.cell s1.2.2.2.1, k2.cell s1.2.2.2.2.1, k2.cell s1.2.2.2.2.2.1, k2.cell s1.2.2.2.2.2.2.1, k2.cell s1.2.2.2.2.2.2.2.1, k2.cell s1.2.2.2.2.2.2.2.2.1, k2.cell s1.2.2.2.2.2.2.2.2.2.1, k2.cell s1.2.2.2.2.2.2.2.2.2.2.1, s1.2.2.2.2.2.2.2.2.2.2.2.trans k2⟩
  have K2 : Kp W0 w2 := K1.trans k2
  clear s1 K1 k2
  go_wp2_with fail
  go_ret
  exact ⟨rfl, s2.2.2.2.2.2.2.2.2.2.2.2⟩

set_option maxRecDepth 100000 in
set_option maxHeartbeats 2000000 in
theorem isRules_no3 (At Ak : Option Addr) (nt nk ct ck : Nat) (l : List Ter) (m : List Knd) (a b c d e : Int) (w : World) (hs : Spans w) (h : RulAt w At Ak nt nk l m) (h1 : spB 1 6 nt = true) (h2 : spB 1 4 nk = true) (h3 : limB a b c d e = false) :
    Calls Tryd.prog 16 #[rv (.slice At nt ct) (.slice Ak nk ck) a b c d e] w fun e' w' => e' = .returned (.bool false) ∧ Kp w w' := by
  have s0 : (w.alloc (.cells #[.slice At nt ct, .slice Ak nk ck, .int .i64 a, .int .i64 b, .int .i64 c, .int .i64 d, .int .i64 e] 31)).cell? ⟨w.heap.size, 0, none⟩ = some (.slice At nt ct) ∧ (w.alloc (.cells #[.slice At nt ct, .slice Ak nk ck, .int .i64 a, .int .i64 b, .int .i64 c, .int .i64 d, .int .i64 e] 31)).cell? ⟨w.heap.size, 1, none⟩ = some (.slice Ak nk ck) ∧ (w.alloc (.cells #[.slice At nt ct, .slice Ak nk ck, .int .i64 a, .int .i64 b, .int .i64 c, .int .i64 d, .int .i64 e] 31)).cell? ⟨w.heap.size, 2, none⟩ = some (.int .i64 a) ∧ (w.alloc (.cells #[.slice At nt ct, .slice Ak nk ck, .int .i64 a, .int .i64 b, .int .i64 c, .int .i64 d, .int .i64 e] 31)).cell? ⟨w.heap.size, 3, none⟩ = some (.int .i64 b) ∧ (w.alloc (.cells #[.slice At nt ct, .slice Ak nk ck, .int .i64 a, .int .i64 b, .int .i64 c, .int .i64 d, .int .i64 e] 31)).cell? ⟨w.heap.size, 4, none⟩ = some (.int .i64 c) ∧ (w.alloc (.cells #[.slice At nt ct, .slice Ak nk ck, .int .i64 a, .int .i64 b, .int .i64 c, .int .i64 d, .int .i64 e] 31)).cell? ⟨w.heap.size, 5, none⟩ = some (.int .i64 d) ∧ (w.alloc (.cells #[.slice At nt ct, .slice Ak nk ck, .int .i64 a, .int .i64 b, .int .i64 c, .int .i64 d, .int .i64 e] 31)).cell? ⟨w.heap.size, 6, none⟩ = some (.int .i64 e) ∧ (w.alloc (.cells #[.slice At nt ct, .slice Ak nk ck, .int .i64 a, .int .i64 b, .int .i64 c, .int .i64 d, .int .i64 e] 31)).cell? ⟨0, 0, none⟩ = some (.int .i64 1) ∧ (w.alloc (.cells #[.slice At nt ct, .slice Ak nk ck, .int .i64 a, .int .i64 b, .int .i64 c, .int .i64 d, .int .i64 e] 31)).cell? ⟨0, 1, none⟩ = some (.int .i64 6) ∧ (w.alloc (.cells #[.slice At nt ct, .slice Ak nk ck, .int .i64 a, .int .i64 b, .int .i64 c, .int .i64 d, .int .i64 e] 31)).cell? ⟨1, 0, none⟩ = some (.int .i64 1) ∧ (w.alloc (.cells #[.slice At nt ct, .slice Ak nk ck, .int .i64 a, .int .i64 b, .int .i64 c, .int .i64 d, .int .i64 e] 31)).cell? ⟨1, 1, none⟩ = some (.int .i64 4) ∧ Kp w (w.alloc (.cells #[.slice At nt ct, .slice Ak nk ck, .int .i64 a, .int .i64 b, .int .i64 c, .int .i64 d, .int .i64 e] 31)) :=
    ⟨by simp [go_sem], by simp [go_sem], by simp [go_sem], by simp [go_sem], by simp [go_sem], by simp [go_sem], by simp [go_sem], ((Kp.refl w).alloc _).cell hs.terrains.1, ((Kp.refl w).alloc _).cell hs.terrains.2, ((Kp.refl w).alloc _).cell hs.kinds.1, ((Kp.refl w).alloc _).cell hs.kinds.2, (Kp.refl w).alloc _⟩
  have HS := Lib.hid hs
  have HL := Lib.hid h
  have hb1 := h.bt
  have hb2 := h.bk
  clear hs h
  go_enter Tryd.func16, Tryd.ntmps16
  go_wp2_with fail
  generalize w.alloc (.cells #[.slice At nt ct, .slice Ak nk ck, .int .i64 a, .int .i64 b, .int .i64 c, .int .i64 d, .int .i64 e] 31) = W0 at *
  refine (has_any _ _ _ _).mono ?_
  rintro e1 w1 ⟨rfl, k1⟩
  have s1 : w1.cell? ⟨w.heap.size, 0, none⟩ = some (.slice At nt ct) ∧ w1.cell? ⟨w.heap.size, 1, none⟩ = some (.slice Ak nk ck) ∧ w1.cell? ⟨w.heap.size, 2, none⟩ = some (.int .i64 a) ∧ w1.cell? ⟨w.heap.size, 3, none⟩ = some (.int .i64 b) ∧ w1.cell? ⟨w.heap.size, 4, none⟩ = some (.int .i64 c) ∧ w1.cell? ⟨w.heap.size, 5, none⟩ = some (.int .i64 d) ∧ w1.cell? ⟨w.heap.size, 6, none⟩ = some (.int .i64 e) ∧ w1.cell? ⟨0, 0, none⟩ = some (.int .i64 1) ∧ w1.cell? ⟨0, 1, none⟩ = some (.int .i64 6) ∧ w1.cell? ⟨1, 0, none⟩ = some (.int .i64 1) ∧ w1.cell? ⟨1, 1, none⟩ = some (.int .i64 4) ∧ Kp w w1 := ⟨k1.cell s0.1, k1.cell s0.2.1, k1.cell s0.2.2.1, k1.cell s0.2.2.2.1, k1.cell s0.2.2.2.2.1, k1.cell s0.2.2.2.2.2.1, k1.cell s0.2.2.2.2.2.2.1, k1.cell s0.2.2.2.2.2.2.2.1, k1.cell s0.2.2.2.2.2.2.2.2.1, k1.cell s0.2.2.2.2.2.2.2.2.2.1, k1.cell s0.2.2.2.2.2.2.2.2.2.2.1, s0.2.2.2.2.2.2.2.2.2.2.2.trans k1⟩
  have K1 : Kp W0 w1 := k1
  clear k1
  go_wp2_with fail
  refine (has_any _ _ _ _).mono ?_
  rintro e2 w2 ⟨rfl, k2⟩
  have s2 : w2.cell? ⟨w.heap.size, 0, none⟩ = some (.slice At nt ct) ∧ w2.cell? ⟨w.heap.size, 1, none⟩ = some (.slice Ak nk ck) ∧ w2.cell? ⟨w.heap.size, 2, none⟩ = some (.int .i64 a) ∧ w2.cell? ⟨w.heap.size, 3, none⟩ = some (.int .i64 b) ∧ w2.cell? ⟨w.heap.size, 4, none⟩ = some (.int .i64 c) ∧ w2.cell? ⟨w.heap.size, 5, none⟩ = some (.int .i64 d) ∧ w2.cell? ⟨w.heap.size, 6, none⟩ = some (.int .i64 e) ∧ w2.cell? ⟨0, 0, none⟩ = some (.int .i64 1) ∧ w2.cell? ⟨0, 1, none⟩ = some (.int .i64 6) ∧ w2.cell? ⟨1, 0, none⟩ = some (.int .i64 1) ∧ w2.cell? ⟨1, 1, none⟩ = some (.int .i64 4) ∧ Kp w w2 := ⟨k2.cell s1.1, k2.cell s1.2.1, k2.cell s1.2.2.1, k2.cell s1.2.2.2.1, k2.cell s1.2.2.2.2.1, k2.cell s1.2.2.2.2.2.1, k2.cell s1.2.2.2.2.2.2.1, k2.cell s1.2.2.2.2.2.2.2.1, k2.cell s1.2.2.2.2.2.2.2.2.1, k2.cell s1.2.2.2.2.2.2.2.2.2.1, k2.cell s1.2.2.2.2.2.2.2.2.2.2.1, s1.2.2.2.2.2.2.2.2.2.2.2.trans k2⟩
  have K2 : Kp W0 w2 := K1.trans k2
  clear s1 K1 k2
  go_wp2_with fail
  refine (hasLimits_any _ _ _ _ _ _ _ _ (HS.out.keep s2.2.2.2.2.2.2.2.2.2.2.2)).mono ?_
  rintro e3 w3 ⟨rfl, k3⟩
  have s3 : w3.cell? ⟨w.heap.size, 0, none⟩ = some (.slice At nt ct) ∧ w3.cell? ⟨w.heap.size, 1, none⟩ = some (.slice Ak nk ck) ∧ w3.cell? ⟨w.heap.size, 2, none⟩ = some (.int .i64 a) ∧ w3.cell? ⟨w.heap.size, 3, none⟩ = some (.int .i64 b) ∧ w3.cell? ⟨w.heap.size, 4, none⟩ = some (.int .i64 c) ∧ w3.cell? ⟨w.heap.size, 5, none⟩ = some (.int .i64 d) ∧ w3.cell? ⟨w.heap.size, 6, none⟩ = some (.int .i64 e) ∧ w3.cell? ⟨0, 0, none⟩ = some (.int .i64 1) ∧ w3.cell? ⟨0, 1, none⟩ = some (.int .i64 6) ∧ w3.cell? ⟨1, 0, none⟩ = some (.int .i64 1) ∧ w3.cell? ⟨1, 1, none⟩ = some (.int .i64 4) ∧ Kp w w3 := ⟨k3.cell s2.1, k3.cell s2.2.1, k3.cell s2.2.2.1, k3.cell s2.2.2.2.1, k3.cell s2.2.2.2.2.1, k3.cell s2.2.2.2.2.2.1, k3.cell s2.2.2.2.2.2.2.1, k3.cell s2.2.2.2.2.2.2.2.1, k3.cell s2.2.2.2.2.2.2.2.2.1, k3.cell s2.2.2.2.2.2.2.2.2.2.1, k3.cell s2.2.2.2.2.2.2.2.2.2.2.1, s2.2.2.2.2.2.2.2.2.2.2.2.trans k3⟩
  have K3 : Kp W0 w3 := K2.trans k3
  clear s2 K2 k3
  go_wp2_with fail
  go_ret
  exact ⟨rfl, s3.2.2.2.2.2.2.2.2.2.2.2⟩

set_option maxRecDepth 100000 in
set_option maxHeartbeats 4000000 in
theorem isRules_yes (At Ak : Option Addr) (nt nk ct ck : Nat) (l : List Ter) (m : List Knd) (a b c d e : Int) (w : World) (hs : Spans w) (h : RulAt w At Ak nt nk l m) (h1 : spB 1 6 nt = true) (h2 : spB 1 4 nk = true) (h3 : limB a b c d e = true) :
    Calls Tryd.prog 16 #[rv (.slice At nt ct) (.slice Ak nk ck) a b c d e] w fun e' w' => e' = .returned (.bool (l.all (numT nk) && (m.all numK && (namesOk (tNames l) && namesOk (kNames m))))) ∧ Kp w w' := by
  have n6 : nt ≤ 1000 ∧ nk ≤ 1000 := by
    simp only [spB, Bool.and_eq_true, decide_eq_true_eq] at h1 h2
    omega
  obtain ⟨n6, n4⟩ := n6
  have s0 : (w.alloc (.cells #[.slice At nt ct, .slice Ak nk ck, .int .i64 a, .int .i64 b, .int .i64 c, .int .i64 d, .int .i64 e] 31)).cell? ⟨w.heap.size, 0, none⟩ = some (.slice At nt ct) ∧ (w.alloc (.cells #[.slice At nt ct, .slice Ak nk ck, .int .i64 a, .int .i64 b, .int .i64 c, .int .i64 d, .int .i64 e] 31)).cell? ⟨w.heap.size, 1, none⟩ = some (.slice Ak nk ck) ∧ (w.alloc (.cells #[.slice At nt ct, .slice Ak nk ck, .int .i64 a, .int .i64 b, .int .i64 c, .int .i64 d, .int .i64 e] 31)).cell? ⟨w.heap.size, 2, none⟩ = some (.int .i64 a) ∧ (w.alloc (.cells #[.slice At nt ct, .slice Ak nk ck, .int .i64 a, .int .i64 b, .int .i64 c, .int .i64 d, .int .i64 e] 31)).cell? ⟨w.heap.size, 3, none⟩ = some (.int .i64 b) ∧ (w.alloc (.cells #[.slice At nt ct, .slice Ak nk ck, .int .i64 a, .int .i64 b, .int .i64 c, .int .i64 d, .int .i64 e] 31)).cell? ⟨w.heap.size, 4, none⟩ = some (.int .i64 c) ∧ (w.alloc (.cells #[.slice At nt ct, .slice Ak nk ck, .int .i64 a, .int .i64 b, .int .i64 c, .int .i64 d, .int .i64 e] 31)).cell? ⟨w.heap.size, 5, none⟩ = some (.int .i64 d) ∧ (w.alloc (.cells #[.slice At nt ct, .slice Ak nk ck, .int .i64 a, .int .i64 b, .int .i64 c, .int .i64 d, .int .i64 e] 31)).cell? ⟨w.heap.size, 6, none⟩ = some (.int .i64 e) ∧ (w.alloc (.cells #[.slice At nt ct, .slice Ak nk ck, .int .i64 a, .int .i64 b, .int .i64 c, .int .i64 d, .int .i64 e] 31)).cell? ⟨0, 0, none⟩ = some (.int .i64 1) ∧ (w.alloc (.cells #[.slice At nt ct, .slice Ak nk ck, .int .i64 a, .int .i64 b, .int .i64 c, .int .i64 d, .int .i64 e] 31)).cell? ⟨0, 1, none⟩ = some (.int .i64 6) ∧ (w.alloc (.cells #[.slice At nt ct, .slice Ak nk ck, .int .i64 a, .int .i64 b, .int .i64 c, .int .i64 d, .int .i64 e] 31)).cell? ⟨1, 0, none⟩ = some (.int .i64 1) ∧ (w.alloc (.cells #[.slice At nt ct, .slice Ak nk ck, .int .i64 a, .int .i64 b, .int .i64 c, .int .i64 d, .int .i64 e] 31)).cell? ⟨1, 1, none⟩ = some (.int .i64 4) ∧ Kp w (w.alloc (.cells #[.slice At nt ct, .slice Ak nk ck, .int .i64 a, .int .i64 b, .int .i64 c, .int .i64 d, .int .i64 e] 31)) :=
    ⟨by simp [go_sem], by simp [go_sem], by simp [go_sem], by simp [go_sem], by simp [go_sem], by simp [go_sem], by simp [go_sem], ((Kp.refl w).alloc _).cell hs.terrains.1, ((Kp.refl w).alloc _).cell hs.terrains.2, ((Kp.refl w).alloc _).cell hs.kinds.1, ((Kp.refl w).alloc _).cell hs.kinds.2, (Kp.refl w).alloc _⟩
  have HS := Lib.hid hs
  have HL := Lib.hid h
  have hb1 := h.bt
  have hb2 := h.bk
  clear hs h
  obtain ⟨R, hR⟩ : ∃ R, R = l.all (numT nk) := ⟨_, rfl⟩
  obtain ⟨Q, hQ⟩ : ∃ Q, Q = m.all numK := ⟨_, rfl⟩
  obtain ⟨B1, hB1⟩ : ∃ B, B = namesOk (tNames l) := ⟨_, rfl⟩
  obtain ⟨B2, hB2⟩ : ∃ B, B = namesOk (kNames m) := ⟨_, rfl⟩
  rw [← hR, ← hQ, ← hB1, ← hB2]
  have HR := Lib.hid hR
  have HQ := Lib.hid hQ
  have HB1 := Lib.hid hB1
  have HB2 := Lib.hid hB2
  have HNt := Lib.hid HL.out.rt.1
  have HNk := Lib.hid HL.out.rk.1
  have HAt := Lib.hid HL.out.rt.2
  have HAk := Lib.hid HL.out.rk.2
  clear hR hQ hB1 hB2
  go_enter Tryd.func16, Tryd.ntmps16
  go_wp2_with fail
  generalize w.alloc (.cells #[.slice At nt ct, .slice Ak nk ck, .int .i64 a, .int .i64 b, .int .i64 c, .int .i64 d, .int .i64 e] 31) = W0 at *
  refine (has_any _ _ _ _).mono ?_
  rintro e1 w1 ⟨rfl, k1⟩
  have s1 : w1.cell? ⟨w.heap.size, 0, none⟩ = some (.slice At nt ct) ∧ w1.cell? ⟨w.heap.size, 1, none⟩ = some (.slice Ak nk ck) ∧ w1.cell? ⟨w.heap.size, 2, none⟩ = some (.int .i64 a) ∧ w1.cell? ⟨w.heap.size, 3, none⟩ = some (.int .i64 b) ∧ w1.cell? ⟨w.heap.size, 4, none⟩ = some (.int .i64 c) ∧ w1.cell? ⟨w.heap.size, 5, none⟩ = some (.int .i64 d) ∧ w1.cell? ⟨w.heap.size, 6, none⟩ = some (.int .i64 e) ∧ w1.cell? ⟨0, 0, none⟩ = some (.int .i64 1) ∧ w1.cell? ⟨0, 1, none⟩ = some (.int .i64 6) ∧ w1.cell? ⟨1, 0, none⟩ = some (.int .i64 1) ∧ w1.cell? ⟨1, 1, none⟩ = some (.int .i64 4) ∧ Kp w w1 := ⟨k1.cell s0.1, k1.cell s0.2.1, k1.cell s0.2.2.1, k1.cell s0.2.2.2.1, k1.cell s0.2.2.2.2.1, k1.cell s0.2.2.2.2.2.1, k1.cell s0.2.2.2.2.2.2.1, k1.cell s0.2.2.2.2.2.2.2.1, k1.cell s0.2.2.2.2.2.2.2.2.1, k1.cell s0.2.2.2.2.2.2.2.2.2.1, k1.cell s0.2.2.2.2.2.2.2.2.2.2.1, s0.2.2.2.2.2.2.2.2.2.2.2.trans k1⟩
  have K1 : Kp W0 w1 := k1
  clear k1
  go_wp2_with fail
  refine (has_any _ _ _ _).mono ?_
  rintro e2 w2 ⟨rfl, k2⟩
  have s2 : w2.cell? ⟨w.heap.size, 0, none⟩ = some (.slice At nt ct) ∧ w2.cell? ⟨w.heap.size, 1, none⟩ = some (.slice Ak nk ck) ∧ w2.cell? ⟨w.heap.size, 2, none⟩ = some (.int .i64 a) ∧ w2.cell? ⟨w.heap.size, 3, none⟩ = some (.int .i64 b) ∧ w2.cell? ⟨w.heap.size, 4, none⟩ = some (.int .i64 c) ∧ w2.cell? ⟨w.heap.size, 5, none⟩ = some (.int .i64 d) ∧ w2.cell? ⟨w.heap.size, 6, none⟩ = some (.int .i64 e) ∧ w2.cell? ⟨0, 0, none⟩ = some (.int .i64 1) ∧ w2.cell? ⟨0, 1, none⟩ = some (.int .i64 6) ∧ w2.cell? ⟨1, 0, none⟩ = some (.int .i64 1) ∧ w2.cell? ⟨1, 1, none⟩ = some (.int .i64 4) ∧ Kp w w2 := ⟨k2.cell s1.1, k2.cell s1.2.1, k2.cell s1.2.2.1, k2.cell s1.2.2.2.1, k2.cell s1.2.2.2.2.1, k2.cell s1.2.2.2.2.2.1, k2.cell s1.2.2.2.2.2.2.1, k2.cell s1.2.2.2.2.2.2.2.1, k2.cell s1.2.2.2.2.2.2.2.2.1, k2.cell s1.2.2.2.2.2.2.2.2.2.1, k2.cell s1.2.2.2.2.2.2.2.2.2.2.1, s1.2.2.2.2.2.2.2.2.2.2.2.trans k2⟩
  have K2 : Kp W0 w2 := K1.trans k2
  clear s1 K1 k2
  go_wp2_with fail
  refine (hasLimits_any _ _ _ _ _ _ _ _ (HS.out.keep s2.2.2.2.2.2.2.2.2.2.2.2)).mono ?_
  rintro e3 w3 ⟨rfl, k3⟩
  have s3 : w3.cell? ⟨w.heap.size, 0, none⟩ = some (.slice At nt ct) ∧ w3.cell? ⟨w.heap.size, 1, none⟩ = some (.slice Ak nk ck) ∧ w3.cell? ⟨w.heap.size, 2, none⟩ = some (.int .i64 a) ∧ w3.cell? ⟨w.heap.size, 3, none⟩ = some (.int .i64 b) ∧ w3.cell? ⟨w.heap.size, 4, none⟩ = some (.int .i64 c) ∧ w3.cell? ⟨w.heap.size, 5, none⟩ = some (.int .i64 d) ∧ w3.cell? ⟨w.heap.size, 6, none⟩ = some (.int .i64 e) ∧ w3.cell? ⟨0, 0, none⟩ = some (.int .i64 1) ∧ w3.cell? ⟨0, 1, none⟩ = some (.int .i64 6) ∧ w3.cell? ⟨1, 0, none⟩ = some (.int .i64 1) ∧ w3.cell? ⟨1, 1, none⟩ = some (.int .i64 4) ∧ Kp w w3 := ⟨k3.cell s2.1, k3.cell s2.2.1, k3.cell s2.2.2.1, k3.cell s2.2.2.2.1, k3.cell s2.2.2.2.2.1, k3.cell s2.2.2.2.2.2.1, k3.cell s2.2.2.2.2.2.2.1, k3.cell s2.2.2.2.2.2.2.2.1, k3.cell s2.2.2.2.2.2.2.2.2.1, k3.cell s2.2.2.2.2.2.2.2.2.2.1, k3.cell s2.2.2.2.2.2.2.2.2.2.2.1, s2.2.2.2.2.2.2.2.2.2.2.2.trans k3⟩
  have K3 : Kp W0 w3 := K2.trans k3
  clear s2 K2 k3
  go_wp2_with fail
  clear s0
  go_loopw [4, 29] (fun _ i wr => ∃ k : Nat, k ≤ nt ∧ i = .int .i64 k ∧ Hid ((l.drop k).all (numT nk) = R) ∧ Kp w3 wr) (fun _ i _ => nt - (intOf i).toNat)
  case atStart => exact ⟨0, by omega, rfl, Lib.hid HR.out.symm, Kp.refl _⟩
  case round =>
    obtain ⟨k, hk, rfl, hE, kr⟩ := hrel
    have K0 : Kp w wr := s3.2.2.2.2.2.2.2.2.2.2.2.trans kr
    by_cases hlt : k < nt
    · have hlt' : (k : Int) < nt := by omega
      obtain ⟨g, off, rfl, hc⟩ := HAt.out (by omega)
      obtain ⟨x, hx⟩ : ∃ x, l[k]? = some x := ⟨l[k]'(by have := HNt.out; omega), List.getElem?_eq_getElem _⟩
      obtain ⟨Ac, cc, ⟨a0, a1, a2, a3, a4⟩, hri⟩ := (hc k x hx).keep K0
      have HX := Lib.hid (dropA hx)
      have hcb := (HL.out.bc x (List.mem_of_getElem? hx)).1
      obtain ⟨nm, cs, sh, hg, bl⟩ := x
      simp only at a0 a1 a2 a3 a4 hri hcb
      have c1 := kr.cell s3.2.1
      have hz := cell_lt c1
      generalize hnc : cs.length = nc at a1 hri hcb
      have HNC2 := Lib.hid hnc
      clear hc hx hnc
      have KA : Kp wr (wr.alloc (.cells #[.string nm, .slice Ac nc cc, .int .i64 sh, .int .i64 hg, .bool bl] 79)) := (Kp.refl wr).alloc _
      have HRI := Lib.hid (hri.keep KA)
      clear hri
      cases hok : numT nk ⟨nm, cs, sh, hg, bl⟩
      · have HE2 : Hid (R = false) := Lib.hid (by rw [← hE.out, HX.out]; exact allA_no hok)
        go_wp2_with fail
        refine (tNumbers_any _ _ _ _ _ _ _ cs _ _ (HS.out.keep (K0.trans KA)) HNC2.out HRI.out hcb (by omega)).mono ?_
        rintro e4 w4 ⟨rfl, k4⟩
        rw [hok]
        go_wp2_with fail
        go_ret
        exact ⟨ret_bool (by rw [HE2.out]; rfl), (K0.trans KA).trans k4⟩
      · have HE2 : Hid ((l.drop (k + 1)).all (numT nk) = R) := Lib.hid (by rw [← hE.out, HX.out]; exact (allA_go hok).symm)
        go_wp2_with fail
        refine (tNumbers_any _ _ _ _ _ _ _ cs _ _ (HS.out.keep (K0.trans KA)) HNC2.out HRI.out hcb (by omega)).mono ?_
        rintro e4 w4 ⟨rfl, k4⟩
        rw [hok]
        go_wp2_with fail
        go_roundw
        case rel => exact ⟨k + 1, by omega, by go_num, HE2, (kr.trans KA).trans k4⟩
        case measure => simp [intOf]; omega
    · obtain rfl : k = nt := by omega
      have HR1 : Hid (R = true) := Lib.hid (by rw [← hE.out, List.drop_of_length_le (by rw [HNt.out]; omega)]; rfl)
      have c1 := kr.cell s3.2.1
      go_wp2_with fail
      go_loopw [6, 43] (fun _ i wx => ∃ j : Nat, j ≤ nk ∧ i = .int .i64 j ∧ Hid ((m.drop j).all numK = Q) ∧ Kp w3 wx) (fun _ i _ => nk - (intOf i).toNat)
      case atStart => exact ⟨0, by omega, rfl, Lib.hid HQ.out.symm, kr⟩
      case round =>
        clear c1 K0 kr hE
        obtain ⟨j, hj, rfl, hE, kr⟩ := hrel
        have K0 : Kp w wr := s3.2.2.2.2.2.2.2.2.2.2.2.trans kr
        by_cases hlt : j < nk
        · have hlt' : (j : Int) < nk := by omega
          obtain ⟨g, off, rfl, hc⟩ := HAk.out (by omega)
          obtain ⟨x, hx⟩ : ∃ x, m[j]? = some x := ⟨m[j]'(by have := HNk.out; omega), List.getElem?_eq_getElem _⟩
          obtain ⟨a0, a1, a2, a3, a4, a5⟩ := (hc j x hx).keep K0
          have HX := Lib.hid (dropA hx)
          obtain ⟨nm, ks, km, kt, kz, kw⟩ := x
          simp only at a0 a1 a2 a3 a4 a5
          clear hc hx
          have KA : Kp wr (wr.alloc (.cells #[.string nm, .int .i64 ks, .int .i64 km, .int .i64 kt, .bool kz, .int .i64 kw] 81)) := (Kp.refl wr).alloc _
          cases hok : numK ⟨nm, ks, km, kt, kz, kw⟩
          · have HE2 : Hid (Q = false) := Lib.hid (by rw [← hE.out, HX.out]; exact allA_no hok)
            go_wp2_with fail
            refine (kNumbers_any _ _ _ _ _ _ _ (HS.out.keep (K0.trans KA))).mono ?_
            rintro e4 w4 ⟨rfl, k4⟩
            rw [hok]
            go_wp2_with fail
            go_ret
            exact ⟨ret_bool (by rw [HR1.out, HE2.out]; rfl), (K0.trans KA).trans k4⟩
          · have HE2 : Hid ((m.drop (j + 1)).all numK = Q) := Lib.hid (by rw [← hE.out, HX.out]; exact (allA_go hok).symm)
            go_wp2_with fail
            refine (kNumbers_any _ _ _ _ _ _ _ (HS.out.keep (K0.trans KA))).mono ?_
            rintro e4 w4 ⟨rfl, k4⟩
            rw [hok]
            go_wp2_with fail
            go_roundw
            case rel => exact ⟨j + 1, by omega, by go_num, HE2, (kr.trans KA).trans k4⟩
            case measure => simp [intOf]; omega
        · obtain rfl : j = nk := by omega
          have HQ1 : Hid (Q = true) := Lib.hid (by rw [← hE.out, List.drop_of_length_le (by rw [HNk.out]; omega)]; rfl)
          have b0 := kr.cell s3.1
          have b1 := kr.cell s3.2.1
          have b2 := kr.cell s3.2.2.1
          have b3 := kr.cell s3.2.2.2.1
          have b4 := kr.cell s3.2.2.2.2.1
          have b5 := kr.cell s3.2.2.2.2.2.1
          have b6 := kr.cell s3.2.2.2.2.2.2.1
          cases hn1 : B1
          · have HZ : Hid (namesOk (tNames l) = false) := Lib.hid (by rw [← HB1.out, hn1])
            go_wp2_with fail
            refine (terrainNames_any _ _ _ l _ _ _ _ _ _ _ (HL.out.keep K0).rt n6).mono ?_
            rintro e5 w5 ⟨An, cn, rfl, hrs, hnc, hcc, k5⟩
            go_wp2_with fail
            refine (areNames_any _ _ _ (tNames l) _ (by have := HNt.out; simpa [tNames] using this) hrs hb1 hnc hcc).mono ?_
            rintro e6 w6 ⟨rfl, rfl⟩
            rw [HZ.out]
            go_wp2_with fail
            go_ret
            exact ⟨ret_bool (by rw [HR1.out, HQ1.out, hn1]; rfl), K0.trans k5⟩
          · have HZ : Hid (namesOk (tNames l) = true) := Lib.hid (by rw [← HB1.out, hn1])
            go_wp2_with fail
            refine (terrainNames_any _ _ _ l _ _ _ _ _ _ _ (HL.out.keep K0).rt n6).mono ?_
            rintro e5 w5 ⟨An, cn, rfl, hrs, hnc, hcc, k5⟩
            have HRS := Lib.hid hrs
            have d0 := k5.cell b0
            have d1 := k5.cell b1
            have d2 := k5.cell b2
            have d3 := k5.cell b3
            have d4 := k5.cell b4
            have d5 := k5.cell b5
            have d6 := k5.cell b6
            clear hrs b0 b1 b2 b3 b4 b5 b6
            go_wp2_with fail
            refine (areNames_any _ _ _ (tNames l) _ (by have := HNt.out; simpa [tNames] using this) HRS.out hb1 hnc hcc).mono ?_
            rintro e6 w6 ⟨rfl, rfl⟩
            rw [HZ.out]
            go_wp2_with fail
            refine (kindNames_any _ _ _ m _ _ _ _ _ _ _ (HL.out.keep (K0.trans k5)).rk n4).mono ?_
            rintro e7 w7 ⟨Am, cm, rfl, hrs2, hnc2, hcc2, k7⟩
            have HRS2 := Lib.hid hrs2
            clear hrs2
            go_wp2_with fail
            refine (areNames_any _ _ _ (kNames m) _ (by have := HNk.out; simpa [kNames] using this) HRS2.out hb2 hnc2 hcc2).mono ?_
            rintro e8 w8 ⟨rfl, rfl⟩
            rw [← HB2.out]
            go_wp2_with fail
            go_ret
            exact ⟨ret_bool (by rw [HR1.out, HQ1.out, hn1]; rfl), (K0.trans k5).trans k7⟩

theorem isRules_any (At Ak : Option Addr) (nt nk ct ck : Nat) (l : List Ter) (m : List Knd) (a b c d e : Int) (w : World) (hs : Spans w) (h : RulAt w At Ak nt nk l m) :
    Calls Tryd.prog 16 #[rv (.slice At nt ct) (.slice Ak nk ck) a b c d e] w fun e' w' => e' = .returned (.bool (rulOk ⟨l, m, a, b, c, d, e⟩)) ∧ Kp w w' := by
  unfold rulOk
  simp only [h.rt.1, h.rk.1]
  cases h1 : spB 1 6 nt
  · exact isRules_no1 At Ak nt nk ct ck l m a b c d e w hs h h1
  · cases h2 : spB 1 4 nk
    · exact isRules_no2 At Ak nt nk ct ck l m a b c d e w hs h h1 h2
    · cases h3 : limB a b c d e
      · exact isRules_no3 At Ak nt nk ct ck l m a b c d e w hs h h1 h2 h3
      · exact isRules_yes At Ak nt nk ct ck l m a b c d e w hs h h1 h2 h3

end Go.Proofs.YtkkcnofplddbmaaDoor
