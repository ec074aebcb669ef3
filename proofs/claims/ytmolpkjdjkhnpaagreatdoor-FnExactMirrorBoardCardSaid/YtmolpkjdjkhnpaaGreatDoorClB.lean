/-
  slices.Clone of lists of terrains, of numbers and of kinds that are not nil; the reference's copy of a list of numbers. The copy owns its memory; nothing that was there is changed.
-/
import Derived.Lib.SliceRun
import Derived.Test.YtmolpkjdjkhnpaaGreatDoorQd
namespace Go.Proofs.YtmolpkjdjkhnpaaGreatDoor
open Go.RowKit

theorem add_litB (b o k : Nat) : (⟨b, o, none⟩ : Addr).add k = ⟨b, o + k, none⟩ := add_none' b o k
theorem ownsRow_blk {w : World} {base sz n : Nat} {e : TypeId} {v : Value} {xs : List Value} (h : w.ownsRow base e sz v n xs) (hn : 0 < n) : ∃ g cap, v = .slice (some ⟨g, 0, none⟩) n cap := by
  rcases h.2 with ⟨_, h0⟩ | ⟨g, cap, _, rfl, _⟩
  · omega
  · exact ⟨g, cap, rfl⟩
/-- The cells of a block from off on, as they are. -/
def grab (w : World) (g off n : Nat) : List Value := (List.range n).map fun j => (w.cell? ⟨g, off + j, none⟩).getD (.bool false)
theorem grab_len (w : World) (g off n : Nat) : (grab w g off n).length = n := by simp [grab]
theorem grab_at {w : World} {g off n j : Nat} {v : Value} (hj : j < n) (h : w.cell? ⟨g, off + j, none⟩ = some v) : (grab w g off n)[j]? = some v := by
  unfold grab
  rw [List.getElem?_map, List.getElem?_range hj, Option.map_some, h]
  rfl
theorem grab_one {w : World} {g off n : Nat} (h : ∀ j, j < n → ∃ v, w.cell? ⟨g, off + j, none⟩ = some v ∧ v.oneCell' = true) : ∀ u ∈ grab w g off n, u.oneCell' = true := fun u hu => by
  obtain ⟨j, hj⟩ := List.getElem?_of_mem hu
  have hl := (List.getElem?_eq_some_iff.1 hj).1
  rw [grab_len] at hl
  obtain ⟨v, h1, h2⟩ := h j hl
  rw [grab_at hl h1] at hj
  obtain rfl := Option.some.inj hj
  exact h2
theorem grab_cells {w w' : World} {g off n : Nat} (k : Kp w w') (h : ∀ j, j < n → ∃ v, w.cell? ⟨g, off + j, none⟩ = some v ∧ v.oneCell' = true) : ∀ (j : Nat) (u : Value), (grab w g off n)[j]? = some u → w'.cell? ((⟨g, off, none⟩ : Addr).add j) = some u := fun j u hu => by
  have hl := (List.getElem?_eq_some_iff.1 hu).1
  rw [grab_len] at hl
  obtain ⟨v, h1, _⟩ := h j hl
  rw [grab_at hl h1] at hu
  obtain rfl := Option.some.inj hu
  rw [add_litB]
  exact k.cell h1
theorem ter_cells {w : World} {g o : Nat} {x : Ter} (h : TerAt w g o x) : ∀ r, r < 5 → ∃ v, w.cell? ⟨g, o + r, none⟩ = some v ∧ v.oneCell' = true := by
  obtain ⟨A, c, ⟨a0, a1, a2, a3, a4⟩, _⟩ := h
  intro r hr
  match r, hr with
  | 0, _ => exact ⟨_, a0, rfl⟩
  | 1, _ => exact ⟨_, a1, rfl⟩
  | 2, _ => exact ⟨_, a2, rfl⟩
  | 3, _ => exact ⟨_, a3, rfl⟩
  | 4, _ => exact ⟨_, a4, rfl⟩
theorem knd_cells {w : World} {g o : Nat} {x : Knd} (h : KndAt w g o x) : ∀ r, r < 6 → ∃ v, w.cell? ⟨g, o + r, none⟩ = some v ∧ v.oneCell' = true := by
  obtain ⟨a0, a1, a2, a3, a4, a5⟩ := h
  intro r hr
  match r, hr with
  | 0, _ => exact ⟨_, a0, rfl⟩
  | 1, _ => exact ⟨_, a1, rfl⟩
  | 2, _ => exact ⟨_, a2, rfl⟩
  | 3, _ => exact ⟨_, a3, rfl⟩
  | 4, _ => exact ⟨_, a4, rfl⟩
  | 5, _ => exact ⟨_, a5, rfl⟩
theorem rows_cells {w : World} {g off n s : Nat} (hs : 0 < s) (h : ∀ i, i < n → ∀ r, r < s → ∃ v, w.cell? ⟨g, off + i * s + r, none⟩ = some v ∧ v.oneCell' = true) : ∀ j, j < n * s → ∃ v, w.cell? ⟨g, off + j, none⟩ = some v ∧ v.oneCell' = true := fun j hj => by
  have h1 : j / s < n := Nat.div_lt_of_lt_mul (by rw [Nat.mul_comm]; exact hj)
  have h2 := h (j / s) h1 (j % s) (Nat.mod_lt _ hs)
  rw [Nat.add_assoc, Nat.mul_comm (j / s) s, Nat.div_add_mod j s] at h2
  exact h2
theorem rdI_one {w : World} {g off n c : Nat} {l : List Int} (h : RdI w (.slice (some ⟨g, off, none⟩) n c) l) (hl : l.length = n) : ∀ (j : Nat) (u : Value), (cellsI l)[j]? = some u → w.cell? ((⟨g, off, none⟩ : Addr).add j) = some u := by
  intro j u hu
  obtain ⟨A, c', e, hc⟩ := h
  simp only [cellsI, List.getElem?_map, Option.map_eq_some_iff] at hu
  obtain ⟨z, hz, rfl⟩ := hu
  obtain ⟨g', off', e2, hcc⟩ := hc (by have := (List.getElem?_eq_some_iff.1 hz).1; omega)
  subst e2
  simp only [Value.slice.injEq, Option.some.injEq, Addr.mk.injEq, and_true] at e
  obtain ⟨⟨rfl, rfl⟩, _⟩ := e
  rw [add_litB]
  exact hcc j z hz
theorem cellsI_one (l : List Int) : ∀ u ∈ cellsI l, u.oneCell' = true := fun u hu => by
  simp only [cellsI, List.mem_map] at hu
  obtain ⟨z, _, rfl⟩ := hu
  rfl
theorem cellsI_lenB (l : List Int) : (cellsI l).length = l.length := by simp [cellsI]

set_option maxRecDepth 100000 in
set_option maxHeartbeats 4000000 in
theorem cloneT_any (g off n c : Nat) (l : List Ter) (w : World) (h : RdT w (some ⟨g, off, none⟩) n l) (hn : n ≤ 1048576) (h0 : 0 < n) :
    Calls Tryz.prog 45 #[.slice (some ⟨g, off, none⟩) n c] w fun e w' => ∃ g' c' ys, e = .returned (.slice (some ⟨g', 0, none⟩) n c') ∧ w'.ownsRow w.heap.size 65 5 (.slice (some ⟨g', 0, none⟩) n c') n ys ∧ (∀ (j : Nat) (x : Ter), l[j]? = some x → ∃ d : Option Addr × Nat, TerIn ys j x d ∧ w.cell? ⟨g, off + j * 5 + 1, none⟩ = some (.slice d.1 x.cost.length d.2)) ∧ Kp w w' := by
  have hnil : ∀ (w : World) (a : Option Addr) (n c n' c' : Nat), (binOp .eql 32 (.slice a n c) (.slice none n' c')).run Tryz.prog w = .ok (.bool a.isNone) w := fun w a n c n' c' => Lib.run_eql_slice_nil w 32 65 a n c n' c' Tryz.underlying32
  obtain ⟨j0, hj0, hz0, hs0, hb0⟩ := info_parts infoTer
  have kA : Kp w (w.alloc (.cells #[] 65)) := (Kp.refl w).alloc _
  have hcl : ∀ j, j < n * 5 → ∃ v, w.cell? ⟨g, off + j, none⟩ = some v ∧ v.oneCell' = true := rows_cells (by decide) fun i hi => by
    obtain ⟨g', o', e, hc⟩ := h.2 h0
    simp only [Option.some.injEq, Addr.mk.injEq, and_true] at e
    obtain ⟨rfl, rfl⟩ := e
    exact ter_cells (hc i _ (List.getElem?_eq_getElem (by rw [h.1]; exact hi)))
  have HC := Lib.hid (grab_cells kA hcl)
  have HO := Lib.hid (grab_one hcl)
  have HT : Hid (∀ (j : Nat) (x : Ter), l[j]? = some x → ∃ d : Option Addr × Nat, TerIn (grab w g off (n * 5)) j x d ∧ w.cell? ⟨g, off + j * 5 + 1, none⟩ = some (.slice d.1 x.cost.length d.2)) := Lib.hid fun j x hx => by
    obtain ⟨g', o', e, hc⟩ := h.2 h0
    simp only [Option.some.injEq, Addr.mk.injEq, and_true] at e
    obtain ⟨rfl, rfl⟩ := e
    have hj := (List.getElem?_eq_some_iff.1 hx).1
    rw [h.1] at hj
    obtain ⟨A, cc, ⟨a0, a1, a2, a3, a4⟩, _⟩ := hc j x hx
    exact ⟨(A, cc), ⟨grab_at (by omega) a0, grab_at (by omega) (by rw [← Nat.add_assoc]; exact a1), grab_at (by omega) (by rw [← Nat.add_assoc]; exact a2), grab_at (by omega) (by rw [← Nat.add_assoc]; exact a3), grab_at (by omega) (by rw [← Nat.add_assoc]; exact a4)⟩, a1⟩
  have HG : Hid ((grab w g off (n * 5)).length = n * 5) := Lib.hid (grab_len _ _ _ _)
  generalize grab w g off (n * 5) = ys at HC HO HT HG
  clear h hcl
  have own0 : Hid ((w.alloc (.cells #[] 65)).ownsRow w.heap.size 65 5 (.slice (some ⟨w.heap.size, 0, none⟩) 0 0) 0 []) := Lib.hid (World.ownsRow_lit w _ 0 (Nat.le_refl _) (by decide) rfl)
  clear kA
  go_enter Tryz.func45, Tryz.ntmps45
  go_wp2_with (at_builtin; (refine wpList_append_own _ rfl (.tmp 5) (.tmp 6) 32 rfl w.heap.size 65 j0 (tv ByteArray.empty none 0 0 0 0 false) 5 64 Tryz.underlying32 hj0 hz0 hs0 hb0 rfl (by decide) _ 0 [] rfl own0.out ⟨g, off, none⟩ n c (ys) rfl (HG.out) HC.out (HO.out) (by simp only [maxLen]; omega) (by omega) (by simp) ?_; intro v' w3 hown2 hgrow2 hnil2; clear hnil2; have K3 : Kp w w3 := ((Kp.refl w).alloc _).grown hgrow2 (fun k e => Nat.le_of_eq (Option.some.inj e)); have O3 : Hid (w3.ownsRow w.heap.size 65 5 v' n (ys)) := Lib.hid (by rw [Nat.zero_add, List.nil_append] at hown2; exact hown2); clear hown2 hgrow2))
  go_ret
  obtain ⟨g', c', rfl⟩ := ownsRow_blk O3.out h0
  exact ⟨g', c', ys, rfl, O3.out, HT.out, K3⟩

set_option maxRecDepth 100000 in
set_option maxHeartbeats 4000000 in
theorem cloneK_any (g off n c : Nat) (l : List Knd) (w : World) (h : RdK w (some ⟨g, off, none⟩) n l) (hn : n ≤ 1048576) (h0 : 0 < n) :
    Calls Tryz.prog 47 #[.slice (some ⟨g, off, none⟩) n c] w fun e w' => ∃ g' c' ys, e = .returned (.slice (some ⟨g', 0, none⟩) n c') ∧ KndB w' w.heap.size w'.heap.size g' n c' l ys ∧ Kp w w' := by
  have hnil : ∀ (w : World) (a : Option Addr) (n c n' c' : Nat), (binOp .eql 33 (.slice a n c) (.slice none n' c')).run Tryz.prog w = .ok (.bool a.isNone) w := fun w a n c n' c' => Lib.run_eql_slice_nil w 33 76 a n c n' c' Tryz.underlying33
  obtain ⟨j0, hj0, hz0, hs0, hb0⟩ := info_parts infoKnd
  have kA : Kp w (w.alloc (.cells #[] 76)) := (Kp.refl w).alloc _
  have hcl : ∀ j, j < n * 6 → ∃ v, w.cell? ⟨g, off + j, none⟩ = some v ∧ v.oneCell' = true := rows_cells (by decide) fun i hi => by
    obtain ⟨g', o', e, hc⟩ := h.2 h0
    simp only [Option.some.injEq, Addr.mk.injEq, and_true] at e
    obtain ⟨rfl, rfl⟩ := e
    exact knd_cells (hc i _ (List.getElem?_eq_getElem (by rw [h.1]; exact hi)))
  have HC := Lib.hid (grab_cells kA hcl)
  have HO := Lib.hid (grab_one hcl)
  have HT : Hid (∀ (j : Nat) (x : Knd), l[j]? = some x → KndIn (grab w g off (n * 6)) j x) := Lib.hid fun j x hx => by
    obtain ⟨g', o', e, hc⟩ := h.2 h0
    simp only [Option.some.injEq, Addr.mk.injEq, and_true] at e
    obtain ⟨rfl, rfl⟩ := e
    have hj := (List.getElem?_eq_some_iff.1 hx).1
    rw [h.1] at hj
    obtain ⟨a0, a1, a2, a3, a4, a5⟩ := hc j x hx
    exact ⟨grab_at (by omega) a0, grab_at (by omega) (by rw [← Nat.add_assoc]; exact a1), grab_at (by omega) (by rw [← Nat.add_assoc]; exact a2), grab_at (by omega) (by rw [← Nat.add_assoc]; exact a3), grab_at (by omega) (by rw [← Nat.add_assoc]; exact a4), grab_at (by omega) (by rw [← Nat.add_assoc]; exact a5)⟩
  have HG : Hid ((grab w g off (n * 6)).length = n * 6) := Lib.hid (grab_len _ _ _ _)
  have HL : Hid (l.length = n) := Lib.hid h.1
  generalize grab w g off (n * 6) = ys at HC HO HT HG
  clear h hcl
  have own0 : Hid ((w.alloc (.cells #[] 76)).ownsRow w.heap.size 76 6 (.slice (some ⟨w.heap.size, 0, none⟩) 0 0) 0 []) := Lib.hid (World.ownsRow_lit w _ 0 (Nat.le_refl _) (by decide) rfl)
  clear kA
  go_enter Tryz.func47, Tryz.ntmps47
  go_wp2_with (at_builtin; (refine wpList_append_own _ rfl (.tmp 5) (.tmp 6) 33 rfl w.heap.size 76 j0 (kv ByteArray.empty 0 0 0 false 0) 6 56 Tryz.underlying33 hj0 hz0 hs0 hb0 rfl (by decide) _ 0 [] rfl own0.out ⟨g, off, none⟩ n c (ys) rfl (HG.out) HC.out (HO.out) (by simp only [maxLen]; omega) (by omega) (by simp) ?_; intro v' w3 hown2 hgrow2 hnil2; clear hnil2; have K3 : Kp w w3 := ((Kp.refl w).alloc _).grown hgrow2 (fun k e => Nat.le_of_eq (Option.some.inj e)); have O3 : Hid (w3.ownsRow w.heap.size 76 6 v' n (ys)) := Lib.hid (by rw [Nat.zero_add, List.nil_append] at hown2; exact hown2); clear hown2 hgrow2))
  go_ret
  obtain ⟨g', c', rfl⟩ := ownsRow_blk O3.out h0
  exact ⟨g', c', ys, rfl, ⟨O3.out, HT.out, HL.out, (World.ownsRow.lt O3.out g' rfl).2⟩, K3⟩

set_option maxRecDepth 100000 in
set_option maxHeartbeats 4000000 in
theorem cloneI_any (g off n c : Nat) (l : List Int) (w : World) (h : RdI w (.slice (some ⟨g, off, none⟩) n c) l) (hl : l.length = n) (hn : n ≤ 1048576) (h0 : 0 < n) :
    Calls Tryz.prog 46 #[.slice (some ⟨g, off, none⟩) n c] w fun e w' => ∃ g' c', e = .returned (.slice (some ⟨g', 0, none⟩) n c') ∧ OwnI w' w.heap.size (.slice (some ⟨g', 0, none⟩) n c') l ∧ Kp w w' := by
  have hnil : ∀ (w : World) (a : Option Addr) (n c n' c' : Nat), (binOp .eql 26 (.slice a n c) (.slice none n' c')).run Tryz.prog w = .ok (.bool a.isNone) w := fun w a n c n' c' => Lib.run_eql_slice_nil w 26 3 a n c n' c' Tryz.underlying26
  obtain ⟨j0, hj0, hz0, hs0, hb0⟩ := info_parts infoInt
  have kA : Kp w (w.alloc (.cells #[] 3)) := (Kp.refl w).alloc _
  have HC := Lib.hid (rdI_one (h.keep kA) hl)
  have HL := Lib.hid hl
  clear h hl
  have own0 : Hid ((w.alloc (.cells #[] 3)).ownsRow w.heap.size 3 1 (.slice (some ⟨w.heap.size, 0, none⟩) 0 0) 0 []) := Lib.hid (World.ownsRow_lit w _ 0 (Nat.le_refl _) (by decide) rfl)
  clear kA
  go_enter Tryz.func46, Tryz.ntmps46
  go_wp2_with (at_builtin; (refine wpList_append_own _ rfl (.tmp 5) (.tmp 6) 26 rfl w.heap.size 3 j0 (.int .i64 0) 1 8 Tryz.underlying26 hj0 hz0 hs0 hb0 rfl (by decide) _ 0 [] rfl own0.out ⟨g, off, none⟩ n c (cellsI l) rfl (by rw [cellsI_lenB, HL.out, Nat.mul_one]) HC.out (cellsI_one l) (by simp only [maxLen]; omega) (by omega) (by simp) ?_; intro v' w3 hown2 hgrow2 hnil2; clear hnil2; have K3 : Kp w w3 := ((Kp.refl w).alloc _).grown hgrow2 (fun k e => Nat.le_of_eq (Option.some.inj e)); have O3 : Hid (w3.ownsRow w.heap.size 3 1 v' n (cellsI l)) := Lib.hid (by rw [Nat.zero_add, List.nil_append] at hown2; exact hown2); clear hown2 hgrow2))
  go_ret
  obtain ⟨g', c', rfl⟩ := ownsRow_blk O3.out h0
  exact ⟨g', c', rfl, by unfold OwnI; rw [HL.out]; exact O3.out, K3⟩

end Go.Proofs.YtmolpkjdjkhnpaaGreatDoor
