/-
  Orders of a sheet, looked up: slices.Clone of a path, the reference's copy of it, copies of orders, the first order of a unit. What is handed back lies in memory of its own; nothing that was there is changed.
-/
import Derived.Test.YtacgknllagdkoaaOrB
import Derived.Maps.AppendAt
import Derived.Laws.AppendOwnNone
import Derived.Lib.SliceRun
import Derived.Deep.RegionHeld
import Derived.StillTailTactics
import Derived.Deep.Cut
namespace Go.Proofs.Ytacgknllagdkoaa
open Go.ChangeShapes Go.WideShapes Go.ChangeAt Go.RowKit Go.Joins Go.Deep

/-- The shape of a list in memory of its own. -/
def SlI (v : Value) (n : Nat) : Prop := (v = .slice none 0 0 ∧ n = 0) ∨ ∃ g c, v = .slice (some ⟨g, 0, none⟩) n c
theorem OwnI.sl {w : World} {b : Nat} {v : Value} {l : List Int} (h : OwnI w b v l) : SlI v l.length := by
  unfold OwnI at h
  rcases h.2 with h1 | ⟨g, cap, cur, rfl, _⟩
  · exact .inl h1
  · exact .inr ⟨g, cap, rfl⟩
theorem cellsI_lenQ (l : List Int) : (cellsI l).length = l.length := by simp [cellsI]
theorem cellsI_oneQ (l : List Int) : ∀ u ∈ cellsI l, u.oneCell' = true := fun u hu => by
  simp only [cellsI, List.mem_map] at hu
  obtain ⟨z, _, rfl⟩ := hu
  rfl
theorem rdI_oneQ {w : World} {g n c : Nat} {l : List Int} (h : RdI w (.slice (some ⟨g, 0, none⟩) n c) l) (hl : l.length = n) : ∀ (j : Nat) (u : Value), (cellsI l)[j]? = some u → w.cell? ((⟨g, 0, none⟩ : Addr).add j) = some u := by
  intro j u hu
  obtain ⟨A, c', e, hc⟩ := h
  simp only [cellsI, List.getElem?_map, Option.map_eq_some_iff] at hu
  obtain ⟨z, hz, rfl⟩ := hu
  obtain ⟨g', off', e2, hcc⟩ := hc (by have := (List.getElem?_eq_some_iff.1 hz).1; omega)
  subst e2
  simp only [Value.slice.injEq, Option.some.injEq, Addr.mk.injEq, and_true] at e
  obtain ⟨⟨rfl, rfl⟩, _⟩ := e
  rw [add_none']
  exact hcc j z hz

set_option maxRecDepth 100000 in
set_option maxHeartbeats 4000000 in
theorem cloneQ_some (g c n : Nat) (l : List Int) (w : World) (h : RdI w (.slice (some ⟨g, 0, none⟩) n c) l) (hl : l.length = n) (hn : n ≤ 1048576) :
    Calls Try.prog 27 #[.slice (some ⟨g, 0, none⟩) n c] w fun e w' => ∃ A' c', e = .returned (.slice A' n c') ∧ OwnI w' w.heap.size (.slice A' n c') l ∧ Kp w w' := by
  have hnil : ∀ (w : World) (a : Option Addr) (n c n' c' : Nat), (binOp .eql 26 (.slice a n c) (.slice none n' c')).run Try.prog w = .ok (.bool a.isNone) w := fun w a n c n' c' => Lib.run_eql_slice_nil w 26 3 a n c n' c' Try.underlying26
  obtain ⟨j0, hj0, hz0, hs0, hb0⟩ := info_parts infoInt
  have kA : Kp w (w.alloc (.cells #[] 3)) := (Kp.refl w).alloc _
  have HC := Lib.hid (rdI_oneQ (h.keep kA) hl)
  have HL := Lib.hid hl
  clear h hl
  have own0 : Hid ((w.alloc (.cells #[] 3)).ownsRow w.heap.size 3 1 (.slice (some ⟨w.heap.size, 0, none⟩) 0 0) 0 []) := Lib.hid (World.ownsRow_lit w _ 0 (Nat.le_refl _) (by decide) rfl)
  clear kA
  go_enter Try.func27, Try.ntmps27
  go_wp2_with (at_builtin; (refine wpList_append_own _ rfl (.tmp 5) (.tmp 6) 26 rfl w.heap.size 3 j0 (.int .i64 0) 1 8 Try.underlying26 hj0 hz0 hs0 hb0 rfl (by decide) _ 0 [] rfl own0.out ⟨g, 0, none⟩ n c (cellsI l) rfl (by rw [cellsI_lenQ, HL.out, Nat.mul_one]) HC.out (cellsI_oneQ l) (by simp only [maxLen]; omega) (by omega) (by simp) ?_; intro v' w3 hown2 hgrow2 hnil2; clear hnil2; have K3 : Kp w w3 := ((Kp.refl w).alloc _).grown hgrow2 (fun k e => Nat.le_of_eq (Option.some.inj e)); have O3 : Hid (w3.ownsRow w.heap.size 3 1 v' n (cellsI l)) := Lib.hid (by rw [Nat.zero_add, List.nil_append] at hown2; exact hown2); clear hown2 hgrow2))
  go_ret
  have o := O3.out
  obtain ⟨A', c', rfl⟩ : ∃ A' c', v' = .slice A' n c' := by
    rcases o.2 with ⟨rfl, h⟩ | ⟨g', cap, cur, rfl, _⟩
    · exact ⟨none, 0, by rw [h]⟩
    · exact ⟨_, _, rfl⟩
  exact ⟨A', c', rfl, by unfold OwnI; rw [HL.out]; exact o, K3⟩

set_option maxRecDepth 100000 in
set_option maxHeartbeats 4000000 in
theorem cloneQ_none (w : World) :
    Calls Try.prog 27 #[.slice none 0 0] w fun e w' => ∃ A' c', e = .returned (.slice A' 0 c') ∧ OwnI w' w.heap.size (.slice A' 0 c') [] ∧ Kp w w' := by
  have hnil : ∀ (w : World) (a : Option Addr) (n c n' c' : Nat), (binOp .eql 26 (.slice a n c) (.slice none n' c')).run Try.prog w = .ok (.bool a.isNone) w := fun w a n c n' c' => Lib.run_eql_slice_nil w 26 3 a n c n' c' Try.underlying26
  go_enter Try.func27, Try.ntmps27
  go_wp2_with fail
  go_ret
  exact ⟨none, 0, rfl, OwnI.nil _ _, Kp.refl _⟩

theorem cloneQ_sl (v : Value) (l : List Int) (w : World) (hs : SlI v l.length) (h : RdI w v l) (hn : l.length ≤ 1048576) :
    Calls Try.prog 27 #[v] w fun e w' => ∃ A' c', e = .returned (.slice A' l.length c') ∧ OwnI w' w.heap.size (.slice A' l.length c') l ∧ Kp w w' := by
  rcases hs with ⟨rfl, h0⟩ | ⟨g, c, rfl⟩
  · obtain rfl : l = [] := List.length_eq_zero_iff.1 h0
    exact cloneQ_none w
  · exact cloneQ_some g c l.length l w h rfl hn

set_option maxRecDepth 100000 in
set_option maxHeartbeats 4000000 in
theorem l1OwnQ_some (g c n : Nat) (l : List Int) (w : World) (h : RdI w (.slice (some ⟨g, 0, none⟩) n c) l) (hl : l.length = n) (hn : n ≤ 1048576) :
    Calls Try.prog 25 #[.slice (some ⟨g, 0, none⟩) n c] w fun e w' => ∃ A' c', e = .returned (.slice A' n c') ∧ OwnI w' w.heap.size (.slice A' n c') l ∧ Kp w w' := by
  skip
  obtain ⟨j0, hj0, hz0, hs0, hb0⟩ := info_parts infoInt
  have kA : Kp w (w.alloc (.cells #[] 3)) := (Kp.refl w).alloc _
  have HC := Lib.hid (rdI_oneQ (h.keep kA) hl)
  have HL := Lib.hid hl
  clear h hl
  have own0 : Hid ((w.alloc (.cells #[] 3)).ownsRow w.heap.size 3 1 (.slice (some ⟨w.heap.size, 0, none⟩) 0 0) 0 []) := Lib.hid (World.ownsRow_lit w _ 0 (Nat.le_refl _) (by decide) rfl)
  clear kA
  go_enter Try.func25, Try.ntmps25
  go_wp2_with (at_builtin; (refine wpList_append_own _ rfl (.tmp 3) (.tmp 4) 26 rfl w.heap.size 3 j0 (.int .i64 0) 1 8 Try.underlying26 hj0 hz0 hs0 hb0 rfl (by decide) _ 0 [] rfl own0.out ⟨g, 0, none⟩ n c (cellsI l) rfl (by rw [cellsI_lenQ, HL.out, Nat.mul_one]) HC.out (cellsI_oneQ l) (by simp only [maxLen]; omega) (by omega) (by simp) ?_; intro v' w3 hown2 hgrow2 hnil2; clear hnil2; have K3 : Kp w w3 := ((Kp.refl w).alloc _).grown hgrow2 (fun k e => Nat.le_of_eq (Option.some.inj e)); have O3 : Hid (w3.ownsRow w.heap.size 3 1 v' n (cellsI l)) := Lib.hid (by rw [Nat.zero_add, List.nil_append] at hown2; exact hown2); clear hown2 hgrow2))
  go_ret
  have o := O3.out
  obtain ⟨A', c', rfl⟩ : ∃ A' c', v' = .slice A' n c' := by
    rcases o.2 with ⟨rfl, h⟩ | ⟨g', cap, cur, rfl, _⟩
    · exact ⟨none, 0, by rw [h]⟩
    · exact ⟨_, _, rfl⟩
  exact ⟨A', c', rfl, by unfold OwnI; rw [HL.out]; exact o, K3⟩

set_option maxRecDepth 100000 in
set_option maxHeartbeats 4000000 in
theorem l1OwnQ_none (w : World) :
    Calls Try.prog 25 #[.slice none 0 0] w fun e w' => ∃ A' c', e = .returned (.slice A' 0 c') ∧ OwnI w' w.heap.size (.slice A' 0 c') [] ∧ Kp w w' := by
  obtain ⟨j0, hj0, hz0, hs0, hb0⟩ := info_parts infoInt
  have own0 : Hid ((w.alloc (.cells #[] 3)).ownsRow w.heap.size 3 1 (.slice (some ⟨w.heap.size, 0, none⟩) 0 0) 0 []) := Lib.hid (World.ownsRow_lit w _ 0 (Nat.le_refl _) (by decide) rfl)
  go_enter Try.func25, Try.ntmps25
  go_wp2_with (at_builtin; refine wpList_append_own_none rfl (.tmp 3) (.tmp 4) 26 rfl w.heap.size 3 j0 1 Try.underlying26 hj0 (.slice (some ⟨w.heap.size, 0, none⟩) 0 0) 0 [] rfl own0.out rfl ?_)
  go_ret
  exact ⟨_, _, rfl, own0.out, (Kp.refl _).alloc _⟩

theorem l1OwnQ_sl (v : Value) (l : List Int) (w : World) (hs : SlI v l.length) (h : RdI w v l) (hn : l.length ≤ 1048576) :
    Calls Try.prog 25 #[v] w fun e w' => ∃ A' c', e = .returned (.slice A' l.length c') ∧ OwnI w' w.heap.size (.slice A' l.length c') l ∧ Kp w w' := by
  rcases hs with ⟨rfl, h0⟩ | ⟨g, c, rfl⟩
  · obtain rfl : l = [] := List.length_eq_zero_iff.1 h0
    exact l1OwnQ_none w
  · exact l1OwnQ_some g c l.length l w h rfl hn

set_option maxRecDepth 100000 in
set_option maxHeartbeats 4000000 in
theorem copyOrder_any (u a : Int) (v : Value) (l : List Int) (w : World) (hs : SlI v l.length) (hr : RdI w v l) (hn : l.length ≤ 1048576) :
    Calls Try.prog 18 #[ov u v a] w fun e w' => ∃ A' c', e = .returned (ov u (.slice A' l.length c') a) ∧ OwnI w' w.heap.size (.slice A' l.length c') l ∧ Kp w w' := by
  have C : Hid (∀ w, RdI w v l → Calls Try.prog 27 #[v] w fun e w' => ∃ A' c', e = .returned (.slice A' l.length c') ∧ OwnI w' w.heap.size (.slice A' l.length c') l ∧ Kp w w') := Lib.hid fun w h => cloneQ_sl v l w hs h hn
  have HR := Lib.hid hr
  have k0 : Kp w ((w.alloc (.cells #[.int .i64 u, v, .int .i64 a] 28)).alloc (.cells #[.int .i64 0, .slice none 0 0, .int .i64 0] 28)) := ((Kp.refl w).alloc _).alloc _
  clear hr hs
  generalize l.length = n at C ⊢
  go_enter Try.func18, Try.ntmps18
  go_wp2_with fail
  refine (C.out _ (HR.out.keep k0)).mono ?_
  rintro e1 w1 ⟨A1, c1, rfl, o1, k1⟩
  have l0 := k1.liv (p := ⟨w.heap.size, 0, none⟩) (v := .int .i64 u) ⟨by simp [go_sem], by simp [go_sem]⟩
  have l1 := k1.liv (p := ⟨w.heap.size, 1, none⟩) (v := v) ⟨by simp [go_sem], by simp [go_sem]⟩
  have l2 := k1.liv (p := ⟨w.heap.size, 2, none⟩) (v := .int .i64 a) ⟨by simp [go_sem], by simp [go_sem]⟩
  have m0 := k1.liv (p := ⟨w.heap.size + 1, 0, none⟩) (v := .int .i64 0) ⟨by simp [go_sem], by simp [go_sem]⟩
  have m1 := k1.liv (p := ⟨w.heap.size + 1, 1, none⟩) (v := .slice none 0 0) ⟨by simp [go_sem], by simp [go_sem]⟩
  have m2 := k1.liv (p := ⟨w.heap.size + 1, 2, none⟩) (v := .int .i64 0) ⟨by simp [go_sem], by simp [go_sem]⟩
  obtain ⟨l0a, l0b⟩ := l0
  obtain ⟨l1a, l1b⟩ := l1
  obtain ⟨l2a, l2b⟩ := l2
  obtain ⟨m0a, m0b⟩ := m0
  obtain ⟨m1a, m1b⟩ := m1
  obtain ⟨m2a, m2b⟩ := m2
  have K1 : Kp w w1 := k0.trans k1
  have z1 : w.heap.size + 2 ≤ w1.heap.size := by have := k1.size; simp at this; omega
  have O1 := Lib.hid (o1.base (b := w.heap.size + 2) (by simp <;> omega))
  clear k0 k1 o1
  go_wp2_with fail
  have n1 : ∀ g, g < w.heap.size + 2 → (Value.slice A1 n c1).ownBlock ≠ some g := fun g hg => O1.out.not (by omega)
  refine bodyPost_ret (v := ov u (.slice A1 n c1) a) (by simp [results, Try.results18, go_sem, *]) rfl ⟨_, _, rfl, ?_, ?_⟩
  · exact ((((O1.out.far (n1 _ (by omega)) _).far (n1 _ (by omega)) _).far (n1 _ (by omega)) _).far (n1 _ (by omega)) _).base (by omega)
  · exact (((K1.setCell (by simp <;> omega) _).setCell (by simp <;> omega) _).setCell (by simp <;> omega) _).setCell (by simp <;> omega) _

end Go.Proofs.Ytacgknllagdkoaa
