/-
  The places of names of terrains and kinds, as the program and as the reference find them. Nothing that was there is changed. The ranges hold what the program's text lays.
-/
import Derived.Test.YtkkcnofplddbmaaDoorRulS
import Derived.Test.YtkkcnofplddbmaaDoorIsRulesI
import Derived.Test.YtkkcnofplddbmaaDoorRulR
namespace Go.Proofs.YtkkcnofplddbmaaDoor
open Go.RowKit

theorem indexOfName_any (v : Value) (l : List ByteArray) (nm : ByteArray) (w : World) (h : RdS w v l) (hl : l.length ≤ 1048576) :
    Calls Tryd.prog 65 #[v, .string nm] w fun e w' => e = .returned (ib (decide (0 ≤ idxS l nm)) (idxS l nm)) ∧ w = w' := by
  have C := Lib.hid (indexS_any v l nm w h hl)
  generalize idxS l nm = X at C
  clear h hl
  by_cases hx : X < 0
  · have e : decide (0 ≤ X) = false := by simp; omega
    rw [e]
    go_enter Tryd.func65, Tryd.ntmps65
    go_wp2_with fail
    refine C.out.mono ?_
    rintro e1 w1 ⟨rfl, rfl⟩
    go_wp2_with fail
    go_ret2
    exact ⟨rfl, rfl⟩
  · have e : decide (0 ≤ X) = true := by simp; omega
    rw [e]
    go_enter Tryd.func65, Tryd.ntmps65
    go_wp2_with fail
    refine C.out.mono ?_
    rintro e1 w1 ⟨rfl, rfl⟩
    go_wp2_with fail
    go_ret2
    exact ⟨rfl, rfl⟩


set_option maxRecDepth 100000 in
set_option maxHeartbeats 1000000 in
theorem terrainNamed_any (At Ak : Option Addr) (nt nk ct ck : Nat) (l : List Ter) (m : List Knd) (a b c d e : Int) (nm : ByteArray) (w : World) (hs : Spans w) (h : RulAt w At Ak nt nk l m) :
    Calls Tryd.prog 24 #[rv (.slice At nt ct) (.slice Ak nk ck) a b c d e, .string nm] w fun e' w' => e' = .returned (ib (rulOk ⟨l, m, a, b, c, d, e⟩ && decide (0 ≤ idxS (tNames l) nm)) (idxS (tNames l) nm)) ∧ Kp w w' := by
  have KA : Kp w (w.alloc (.cells #[.slice At nt ct, .slice Ak nk ck, .int .i64 a, .int .i64 b, .int .i64 c, .int .i64 d, .int .i64 e] 31)) := (Kp.refl w).alloc _
  have C1 := Lib.hid (isRules_any At Ak nt nk ct ck l m a b c d e _ (hs.keep KA) (h.keep KA))
  have HL := Lib.hid h
  have hn : nt ≤ 6 ∨ rulOk ⟨l, m, a, b, c, d, e⟩ = false := by
    by_cases hx : nt ≤ 6
    · exact .inl hx
    · refine .inr ?_
      have := h.rt.1
      cases hr : rulOk ⟨l, m, a, b, c, d, e⟩
      · rfl
      · simp [rulOk, spB] at hr
        omega
  cases hr : rulOk ⟨l, m, a, b, c, d, e⟩
  · rw [hr] at C1
    clear hs h hr hn
    go_enter Tryd.func24, Tryd.ntmps24
    go_wp2_with fail
    refine C1.out.mono ?_
    rintro e1 w1 ⟨rfl, k1⟩
    go_wp2_with fail
    go_ret2
    exact ⟨rfl, KA.trans k1⟩
  · rw [hr] at C1 hn
    have hn' : nt ≤ 6 := by
      rcases hn with h | h
      · exact h
      · cases h
    have HC := Lib.hid (fun (w : World) (v : Value) (h : RdS w v (tNames l)) => indexOfName_any v (tNames l) nm w h (by have := HL.out.rt.1; simp [tNames]; omega))
    generalize idxS (tNames l) nm = X at HC
    have s0 : (w.alloc (.cells #[.slice At nt ct, .slice Ak nk ck, .int .i64 a, .int .i64 b, .int .i64 c, .int .i64 d, .int .i64 e] 31)).cell? ⟨w.heap.size, 0, none⟩ = some (.slice At nt ct) ∧ (w.alloc (.cells #[.slice At nt ct, .slice Ak nk ck, .int .i64 a, .int .i64 b, .int .i64 c, .int .i64 d, .int .i64 e] 31)).cell? ⟨w.heap.size, 1, none⟩ = some (.slice Ak nk ck) ∧ (w.alloc (.cells #[.slice At nt ct, .slice Ak nk ck, .int .i64 a, .int .i64 b, .int .i64 c, .int .i64 d, .int .i64 e] 31)).cell? ⟨w.heap.size, 2, none⟩ = some (.int .i64 a) ∧ (w.alloc (.cells #[.slice At nt ct, .slice Ak nk ck, .int .i64 a, .int .i64 b, .int .i64 c, .int .i64 d, .int .i64 e] 31)).cell? ⟨w.heap.size, 3, none⟩ = some (.int .i64 b) ∧ (w.alloc (.cells #[.slice At nt ct, .slice Ak nk ck, .int .i64 a, .int .i64 b, .int .i64 c, .int .i64 d, .int .i64 e] 31)).cell? ⟨w.heap.size, 4, none⟩ = some (.int .i64 c) ∧ (w.alloc (.cells #[.slice At nt ct, .slice Ak nk ck, .int .i64 a, .int .i64 b, .int .i64 c, .int .i64 d, .int .i64 e] 31)).cell? ⟨w.heap.size, 5, none⟩ = some (.int .i64 d) ∧ (w.alloc (.cells #[.slice At nt ct, .slice Ak nk ck, .int .i64 a, .int .i64 b, .int .i64 c, .int .i64 d, .int .i64 e] 31)).cell? ⟨w.heap.size, 6, none⟩ = some (.int .i64 e) := ⟨by simp [go_sem], by simp [go_sem], by simp [go_sem], by simp [go_sem], by simp [go_sem], by simp [go_sem], by simp [go_sem]⟩
    clear hs h hr hn
    go_enter Tryd.func24, Tryd.ntmps24
    go_wp2_with fail
    refine C1.out.mono ?_
    rintro e1 w1 ⟨rfl, k1⟩
    have s1 := keepc7 k1 s0
    have K1 : Kp w w1 := KA.trans k1
    clear s0 k1
    go_wp2_with fail
    refine (terrainNames_any _ _ _ l _ _ _ _ _ _ _ (HL.out.keep K1).rt (by omega)).mono ?_
    rintro e2 w2 ⟨A2, c2, rfl, r2, _, _, k2⟩
    have R2 := Lib.hid r2
    have K2 : Kp w w2 := K1.trans k2
    clear s1 r2 k2 K1
    go_wp2_with fail
    refine (HC.out _ _ R2.out).mono ?_
    rintro e3 w3 ⟨rfl, rfl⟩
    go_wp2_with fail
    go_ret2
    exact ⟨by simp, K2⟩

set_option maxRecDepth 100000 in
set_option maxHeartbeats 1000000 in
theorem specTerrainNamed_any (At Ak : Option Addr) (nt nk ct ck : Nat) (l : List Ter) (m : List Knd) (a b c d e : Int) (nm : ByteArray) (w : World) (h : RulAt w At Ak nt nk l m) :
    Calls Tryd.prog 23 #[rv (.slice At nt ct) (.slice Ak nk ck) a b c d e, .string nm] w fun e' w' => e' = .returned (ib (rulOk ⟨l, m, a, b, c, d, e⟩ && decide (0 ≤ idxS (tNames l) nm)) (idxS (tNames l) nm)) ∧ Kp w w' := by
  have KA : Kp w (w.alloc (.cells #[.slice At nt ct, .slice Ak nk ck, .int .i64 a, .int .i64 b, .int .i64 c, .int .i64 d, .int .i64 e] 31)) := (Kp.refl w).alloc _
  have s0 : (w.alloc (.cells #[.slice At nt ct, .slice Ak nk ck, .int .i64 a, .int .i64 b, .int .i64 c, .int .i64 d, .int .i64 e] 31)).cell? ⟨w.heap.size, 0, none⟩ = some (.slice At nt ct) ∧ (w.alloc (.cells #[.slice At nt ct, .slice Ak nk ck, .int .i64 a, .int .i64 b, .int .i64 c, .int .i64 d, .int .i64 e] 31)).cell? ⟨w.heap.size, 1, none⟩ = some (.slice Ak nk ck) ∧ (w.alloc (.cells #[.slice At nt ct, .slice Ak nk ck, .int .i64 a, .int .i64 b, .int .i64 c, .int .i64 d, .int .i64 e] 31)).cell? ⟨w.heap.size, 2, none⟩ = some (.int .i64 a) ∧ (w.alloc (.cells #[.slice At nt ct, .slice Ak nk ck, .int .i64 a, .int .i64 b, .int .i64 c, .int .i64 d, .int .i64 e] 31)).cell? ⟨w.heap.size, 3, none⟩ = some (.int .i64 b) ∧ (w.alloc (.cells #[.slice At nt ct, .slice Ak nk ck, .int .i64 a, .int .i64 b, .int .i64 c, .int .i64 d, .int .i64 e] 31)).cell? ⟨w.heap.size, 4, none⟩ = some (.int .i64 c) ∧ (w.alloc (.cells #[.slice At nt ct, .slice Ak nk ck, .int .i64 a, .int .i64 b, .int .i64 c, .int .i64 d, .int .i64 e] 31)).cell? ⟨w.heap.size, 5, none⟩ = some (.int .i64 d) ∧ (w.alloc (.cells #[.slice At nt ct, .slice Ak nk ck, .int .i64 a, .int .i64 b, .int .i64 c, .int .i64 d, .int .i64 e] 31)).cell? ⟨w.heap.size, 6, none⟩ = some (.int .i64 e) := ⟨by simp [go_sem], by simp [go_sem], by simp [go_sem], by simp [go_sem], by simp [go_sem], by simp [go_sem], by simp [go_sem]⟩
  have C1 := Lib.hid (rGood_any At Ak nt nk ct ck l m a b c d e _ (h.keep KA))
  have HL := Lib.hid h
  have C2 : Hid (∀ w, RulAt w At Ak nt nk l m → Calls Tryd.prog 64 #[.slice At nt ct, .string nm] w fun e' w' => e' = .returned (.int .i64 (idxS (tNames l) nm)) ∧ Kp w w') := Lib.hid fun w h => rTerrain_any _ _ _ l _ _ h.rt (by first | exact h.bt | exact h.bk)
  generalize idxS (tNames l) nm = X at C2 ⊢
  cases hr : rulOk ⟨l, m, a, b, c, d, e⟩
  · rw [hr] at C1
    clear h hr
    go_enter Tryd.func23, Tryd.ntmps23
    go_wp2_with fail
    refine C1.out.mono ?_
    rintro e1 w1 ⟨rfl, k1⟩
    go_wp2_with fail
    go_ret2
    exact ⟨rfl, KA.trans k1⟩
  · rw [hr] at C1
    clear h hr
    by_cases hx : X < 0
    · have eX : decide (0 ≤ X) = false := by simp; omega
      rw [eX]
      go_enter Tryd.func23, Tryd.ntmps23
      go_wp2_with fail
      refine C1.out.mono ?_
      rintro e1 w1 ⟨rfl, k1⟩
      have s1 := keepc7 k1 s0
      have K1 : Kp w w1 := KA.trans k1
      go_wp2_with fail
      refine (C2.out _ (HL.out.keep K1)).mono ?_
      rintro e2 w2 ⟨rfl, k2⟩
      go_wp2_with fail
      go_ret2
      exact ⟨rfl, K1.trans k2⟩
    · have eX : decide (0 ≤ X) = true := by simp; omega
      rw [eX]
      go_enter Tryd.func23, Tryd.ntmps23
      go_wp2_with fail
      refine C1.out.mono ?_
      rintro e1 w1 ⟨rfl, k1⟩
      have s1 := keepc7 k1 s0
      have K1 : Kp w w1 := KA.trans k1
      clear s0 k1
      go_wp2_with fail
      refine (C2.out _ (HL.out.keep K1)).mono ?_
      rintro e2 w2 ⟨rfl, k2⟩
      have s2 := keepc7 k2 s1
      have K2 : Kp w w2 := K1.trans k2
      clear s1 k2 K1
      go_wp2_with fail
      refine (C2.out _ (HL.out.keep K2)).mono ?_
      rintro e3 w3 ⟨rfl, k3⟩
      go_wp2_with fail
      go_ret2
      exact ⟨rfl, K2.trans k3⟩

set_option maxRecDepth 100000 in
set_option maxHeartbeats 1000000 in
theorem kindNamed_any (At Ak : Option Addr) (nt nk ct ck : Nat) (l : List Ter) (m : List Knd) (a b c d e : Int) (nm : ByteArray) (w : World) (hs : Spans w) (h : RulAt w At Ak nt nk l m) :
    Calls Tryd.prog 26 #[rv (.slice At nt ct) (.slice Ak nk ck) a b c d e, .string nm] w fun e' w' => e' = .returned (ib (rulOk ⟨l, m, a, b, c, d, e⟩ && decide (0 ≤ idxS (kNames m) nm)) (idxS (kNames m) nm)) ∧ Kp w w' := by
  have KA : Kp w (w.alloc (.cells #[.slice At nt ct, .slice Ak nk ck, .int .i64 a, .int .i64 b, .int .i64 c, .int .i64 d, .int .i64 e] 31)) := (Kp.refl w).alloc _
  have C1 := Lib.hid (isRules_any At Ak nt nk ct ck l m a b c d e _ (hs.keep KA) (h.keep KA))
  have HL := Lib.hid h
  have hn : nk ≤ 6 ∨ rulOk ⟨l, m, a, b, c, d, e⟩ = false := by
    by_cases hx : nk ≤ 6
    · exact .inl hx
    · refine .inr ?_
      have := h.rk.1
      cases hr : rulOk ⟨l, m, a, b, c, d, e⟩
      · rfl
      · simp [rulOk, spB] at hr
        omega
  cases hr : rulOk ⟨l, m, a, b, c, d, e⟩
  · rw [hr] at C1
    clear hs h hr hn
    go_enter Tryd.func26, Tryd.ntmps26
    go_wp2_with fail
    refine C1.out.mono ?_
    rintro e1 w1 ⟨rfl, k1⟩
    go_wp2_with fail
    go_ret2
    exact ⟨rfl, KA.trans k1⟩
  · rw [hr] at C1 hn
    have hn' : nk ≤ 6 := by
      rcases hn with h | h
      · exact h
      · cases h
    have HC := Lib.hid (fun (w : World) (v : Value) (h : RdS w v (kNames m)) => indexOfName_any v (kNames m) nm w h (by have := HL.out.rk.1; simp [kNames]; omega))
    generalize idxS (kNames m) nm = X at HC
    have s0 : (w.alloc (.cells #[.slice At nt ct, .slice Ak nk ck, .int .i64 a, .int .i64 b, .int .i64 c, .int .i64 d, .int .i64 e] 31)).cell? ⟨w.heap.size, 0, none⟩ = some (.slice At nt ct) ∧ (w.alloc (.cells #[.slice At nt ct, .slice Ak nk ck, .int .i64 a, .int .i64 b, .int .i64 c, .int .i64 d, .int .i64 e] 31)).cell? ⟨w.heap.size, 1, none⟩ = some (.slice Ak nk ck) ∧ (w.alloc (.cells #[.slice At nt ct, .slice Ak nk ck, .int .i64 a, .int .i64 b, .int .i64 c, .int .i64 d, .int .i64 e] 31)).cell? ⟨w.heap.size, 2, none⟩ = some (.int .i64 a) ∧ (w.alloc (.cells #[.slice At nt ct, .slice Ak nk ck, .int .i64 a, .int .i64 b, .int .i64 c, .int .i64 d, .int .i64 e] 31)).cell? ⟨w.heap.size, 3, none⟩ = some (.int .i64 b) ∧ (w.alloc (.cells #[.slice At nt ct, .slice Ak nk ck, .int .i64 a, .int .i64 b, .int .i64 c, .int .i64 d, .int .i64 e] 31)).cell? ⟨w.heap.size, 4, none⟩ = some (.int .i64 c) ∧ (w.alloc (.cells #[.slice At nt ct, .slice Ak nk ck, .int .i64 a, .int .i64 b, .int .i64 c, .int .i64 d, .int .i64 e] 31)).cell? ⟨w.heap.size, 5, none⟩ = some (.int .i64 d) ∧ (w.alloc (.cells #[.slice At nt ct, .slice Ak nk ck, .int .i64 a, .int .i64 b, .int .i64 c, .int .i64 d, .int .i64 e] 31)).cell? ⟨w.heap.size, 6, none⟩ = some (.int .i64 e) := ⟨by simp [go_sem], by simp [go_sem], by simp [go_sem], by simp [go_sem], by simp [go_sem], by simp [go_sem], by simp [go_sem]⟩
    clear hs h hr hn
    go_enter Tryd.func26, Tryd.ntmps26
    go_wp2_with fail
    refine C1.out.mono ?_
    rintro e1 w1 ⟨rfl, k1⟩
    have s1 := keepc7 k1 s0
    have K1 : Kp w w1 := KA.trans k1
    clear s0 k1
    go_wp2_with fail
    refine (kindNames_any _ _ _ m _ _ _ _ _ _ _ (HL.out.keep K1).rk (by omega)).mono ?_
    rintro e2 w2 ⟨A2, c2, rfl, r2, _, _, k2⟩
    have R2 := Lib.hid r2
    have K2 : Kp w w2 := K1.trans k2
    clear s1 r2 k2 K1
    go_wp2_with fail
    refine (HC.out _ _ R2.out).mono ?_
    rintro e3 w3 ⟨rfl, rfl⟩
    go_wp2_with fail
    go_ret2
    exact ⟨by simp, K2⟩

set_option maxRecDepth 100000 in
set_option maxHeartbeats 1000000 in
theorem specKindNamed_any (At Ak : Option Addr) (nt nk ct ck : Nat) (l : List Ter) (m : List Knd) (a b c d e : Int) (nm : ByteArray) (w : World) (h : RulAt w At Ak nt nk l m) :
    Calls Tryd.prog 25 #[rv (.slice At nt ct) (.slice Ak nk ck) a b c d e, .string nm] w fun e' w' => e' = .returned (ib (rulOk ⟨l, m, a, b, c, d, e⟩ && decide (0 ≤ idxS (kNames m) nm)) (idxS (kNames m) nm)) ∧ Kp w w' := by
  have KA : Kp w (w.alloc (.cells #[.slice At nt ct, .slice Ak nk ck, .int .i64 a, .int .i64 b, .int .i64 c, .int .i64 d, .int .i64 e] 31)) := (Kp.refl w).alloc _
  have s0 : (w.alloc (.cells #[.slice At nt ct, .slice Ak nk ck, .int .i64 a, .int .i64 b, .int .i64 c, .int .i64 d, .int .i64 e] 31)).cell? ⟨w.heap.size, 0, none⟩ = some (.slice At nt ct) ∧ (w.alloc (.cells #[.slice At nt ct, .slice Ak nk ck, .int .i64 a, .int .i64 b, .int .i64 c, .int .i64 d, .int .i64 e] 31)).cell? ⟨w.heap.size, 1, none⟩ = some (.slice Ak nk ck) ∧ (w.alloc (.cells #[.slice At nt ct, .slice Ak nk ck, .int .i64 a, .int .i64 b, .int .i64 c, .int .i64 d, .int .i64 e] 31)).cell? ⟨w.heap.size, 2, none⟩ = some (.int .i64 a) ∧ (w.alloc (.cells #[.slice At nt ct, .slice Ak nk ck, .int .i64 a, .int .i64 b, .int .i64 c, .int .i64 d, .int .i64 e] 31)).cell? ⟨w.heap.size, 3, none⟩ = some (.int .i64 b) ∧ (w.alloc (.cells #[.slice At nt ct, .slice Ak nk ck, .int .i64 a, .int .i64 b, .int .i64 c, .int .i64 d, .int .i64 e] 31)).cell? ⟨w.heap.size, 4, none⟩ = some (.int .i64 c) ∧ (w.alloc (.cells #[.slice At nt ct, .slice Ak nk ck, .int .i64 a, .int .i64 b, .int .i64 c, .int .i64 d, .int .i64 e] 31)).cell? ⟨w.heap.size, 5, none⟩ = some (.int .i64 d) ∧ (w.alloc (.cells #[.slice At nt ct, .slice Ak nk ck, .int .i64 a, .int .i64 b, .int .i64 c, .int .i64 d, .int .i64 e] 31)).cell? ⟨w.heap.size, 6, none⟩ = some (.int .i64 e) := ⟨by simp [go_sem], by simp [go_sem], by simp [go_sem], by simp [go_sem], by simp [go_sem], by simp [go_sem], by simp [go_sem]⟩
  have C1 := Lib.hid (rGood_any At Ak nt nk ct ck l m a b c d e _ (h.keep KA))
  have HL := Lib.hid h
  have C2 : Hid (∀ w, RulAt w At Ak nt nk l m → Calls Tryd.prog 66 #[.slice Ak nk ck, .string nm] w fun e' w' => e' = .returned (.int .i64 (idxS (kNames m) nm)) ∧ Kp w w') := Lib.hid fun w h => rKind_any _ _ _ m _ _ h.rk (by first | exact h.bt | exact h.bk)
  generalize idxS (kNames m) nm = X at C2 ⊢
  cases hr : rulOk ⟨l, m, a, b, c, d, e⟩
  · rw [hr] at C1
    clear h hr
    go_enter Tryd.func25, Tryd.ntmps25
    go_wp2_with fail
    refine C1.out.mono ?_
    rintro e1 w1 ⟨rfl, k1⟩
    go_wp2_with fail
    go_ret2
    exact ⟨rfl, KA.trans k1⟩
  · rw [hr] at C1
    clear h hr
    by_cases hx : X < 0
    · have eX : decide (0 ≤ X) = false := by simp; omega
      rw [eX]
      go_enter Tryd.func25, Tryd.ntmps25
      go_wp2_with fail
      refine C1.out.mono ?_
      rintro e1 w1 ⟨rfl, k1⟩
      have s1 := keepc7 k1 s0
      have K1 : Kp w w1 := KA.trans k1
      go_wp2_with fail
      refine (C2.out _ (HL.out.keep K1)).mono ?_
      rintro e2 w2 ⟨rfl, k2⟩
      go_wp2_with fail
      go_ret2
      exact ⟨rfl, K1.trans k2⟩
    · have eX : decide (0 ≤ X) = true := by simp; omega
      rw [eX]
      go_enter Tryd.func25, Tryd.ntmps25
      go_wp2_with fail
      refine C1.out.mono ?_
      rintro e1 w1 ⟨rfl, k1⟩
      have s1 := keepc7 k1 s0
      have K1 : Kp w w1 := KA.trans k1
      clear s0 k1
      go_wp2_with fail
      refine (C2.out _ (HL.out.keep K1)).mono ?_
      rintro e2 w2 ⟨rfl, k2⟩
      have s2 := keepc7 k2 s1
      have K2 : Kp w w2 := K1.trans k2
      clear s1 k2 K1
      go_wp2_with fail
      refine (C2.out _ (HL.out.keep K2)).mono ?_
      rintro e3 w3 ⟨rfl, k3⟩
      go_wp2_with fail
      go_ret2
      exact ⟨rfl, K2.trans k3⟩

end Go.Proofs.YtkkcnofplddbmaaDoor
