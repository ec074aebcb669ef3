/-
  What is in sight of a hex within a range, as the program tells it: near hexes without those that a closure strikes out. In memory of its own; nothing that was there is changed. The table of directions holds what the program's text lays.
-/
import Derived.Test.YtfohhofpfmbheaaGreatDoorSgE
namespace Go.Proofs.YtfohhofpfmbheaaGreatDoor
open Go.RowKit

theorem nearF_mem (W X Y rad : Int) : ∀ (k : Nat) (z : Int), z ∈ nearF W X Y rad k → ∃ j : Nat, j < k ∧ z = j
  | 0, z, h => by cases h
  | k + 1, z, h => by
    rw [nearF, List.mem_append] at h
    rcases h with h | h
    · obtain ⟨j, hj, e⟩ := nearF_mem W X Y rad k z h
      exact ⟨j, by omega, e⟩
    · split at h
      · exact ⟨k, by omega, by simpa using h⟩
      · cases h
theorem onI_of {W H : Int} {n j : Nat} (hn : (n : Int) = W * H) (hj : j < n) : onI W H (j : Int) = true := onI_mk (by omega) (by omega)

/-- What the closure of a sight holds: a board, a hex, the worst code that is borne. -/
def SeeAt (w : World) (B1 B2 B3 : Nat) (At Ak : Option Addr) (nt nk ct ck : Nat) (a b c d e W H : Int) (x r y : Value) (i q : Int) : Prop := (w.cell? ⟨B1, 0, none⟩ = some (.slice At nt ct) ∧ w.cell? ⟨B1, 1, none⟩ = some (.slice Ak nk ck) ∧ w.cell? ⟨B1, 2, none⟩ = some (.int .i64 a) ∧ w.cell? ⟨B1, 3, none⟩ = some (.int .i64 b) ∧ w.cell? ⟨B1, 4, none⟩ = some (.int .i64 c) ∧ w.cell? ⟨B1, 5, none⟩ = some (.int .i64 d) ∧ w.cell? ⟨B1, 6, none⟩ = some (.int .i64 e) ∧ w.cell? ⟨B1, 7, none⟩ = some (.int .i64 W) ∧ w.cell? ⟨B1, 8, none⟩ = some (.int .i64 H) ∧ w.cell? ⟨B1, 9, none⟩ = some (x) ∧ w.cell? ⟨B1, 10, none⟩ = some (r) ∧ w.cell? ⟨B1, 11, none⟩ = some (y)) ∧ w.cell? ⟨B2, 0, none⟩ = some (.int .i64 i) ∧ w.cell? ⟨B3, 0, none⟩ = some (.int .i64 q)
set_option maxRecDepth 100000 in
set_option maxHeartbeats 4000000 in
theorem seeNot_any (At Ak : Option Addr) (nt nk ct ck : Nat) (l : List Ter) (m : List Knd) (a b c d e W H : Int) (x r y : Value) (lt lr ld : List Int) (B1 B2 B3 : Nat) (i k q : Int) (w : World) (hB : BrdAt w At Ak nt nk l m x r y lt lr ld) (hok : brdOk ⟨l, m, a, b, c, d, e⟩ W H lt lr ld = true) (hi : onI W H i = true) (hk : onI W H k = true) (hb : SeeAt w B1 B2 B3 At Ak nt nk ct ck a b c d e W H x r y i q) :
    Calls Tryz.prog 93 #[.int .i64 k, .pointer (some ⟨B1, 0, none⟩), .pointer (some ⟨B2, 0, none⟩), .pointer (some ⟨B3, 0, none⟩)] w fun e' w' => e' = .returned (.bool (decide (q < codI l lt W i k))) ∧ Kp w w' := by
  have HB := Lib.hid hB
  have C1 := Lib.hid (fun (w : World) hB => sightCode_any At Ak nt nk ct ck l m a b c d e W H x r y lt lr ld i k w hB hok hi hk)
  generalize codI l lt W i k = X at C1 ⊢
  have s0 : ((w.cell? ⟨B1, 0, none⟩ = some (.slice At nt ct) ∧ w.cell? ⟨B1, 1, none⟩ = some (.slice Ak nk ck) ∧ w.cell? ⟨B1, 2, none⟩ = some (.int .i64 a) ∧ w.cell? ⟨B1, 3, none⟩ = some (.int .i64 b) ∧ w.cell? ⟨B1, 4, none⟩ = some (.int .i64 c) ∧ w.cell? ⟨B1, 5, none⟩ = some (.int .i64 d) ∧ w.cell? ⟨B1, 6, none⟩ = some (.int .i64 e) ∧ w.cell? ⟨B1, 7, none⟩ = some (.int .i64 W) ∧ w.cell? ⟨B1, 8, none⟩ = some (.int .i64 H) ∧ w.cell? ⟨B1, 9, none⟩ = some (x) ∧ w.cell? ⟨B1, 10, none⟩ = some (r) ∧ w.cell? ⟨B1, 11, none⟩ = some (y)) ∧ w.cell? ⟨B2, 0, none⟩ = some (.int .i64 i) ∧ w.cell? ⟨B3, 0, none⟩ = some (.int .i64 q)) ∧ Kp w w := ⟨hb, Kp.refl w⟩
  clear hB hok hi hk hb
  go_enter Tryz.func93, Tryz.ntmps93
  go_upto_region 1 with (fail)
  have s1 : ((w.drew.cell? ⟨B1, 0, none⟩ = some (.slice At nt ct) ∧ w.drew.cell? ⟨B1, 1, none⟩ = some (.slice Ak nk ck) ∧ w.drew.cell? ⟨B1, 2, none⟩ = some (.int .i64 a) ∧ w.drew.cell? ⟨B1, 3, none⟩ = some (.int .i64 b) ∧ w.drew.cell? ⟨B1, 4, none⟩ = some (.int .i64 c) ∧ w.drew.cell? ⟨B1, 5, none⟩ = some (.int .i64 d) ∧ w.drew.cell? ⟨B1, 6, none⟩ = some (.int .i64 e) ∧ w.drew.cell? ⟨B1, 7, none⟩ = some (.int .i64 W) ∧ w.drew.cell? ⟨B1, 8, none⟩ = some (.int .i64 H) ∧ w.drew.cell? ⟨B1, 9, none⟩ = some (x) ∧ w.drew.cell? ⟨B1, 10, none⟩ = some (r) ∧ w.drew.cell? ⟨B1, 11, none⟩ = some (y)) ∧ w.drew.cell? ⟨B2, 0, none⟩ = some (.int .i64 i) ∧ w.drew.cell? ⟨B3, 0, none⟩ = some (.int .i64 q)) ∧ Kp w w.drew := ⟨s0.1, s0.2.drew⟩
  clear s0
  refine wp_region_held_drew (S := (fun w' => ((w'.cell? ⟨B1, 0, none⟩ = some (.slice At nt ct) ∧ w'.cell? ⟨B1, 1, none⟩ = some (.slice Ak nk ck) ∧ w'.cell? ⟨B1, 2, none⟩ = some (.int .i64 a) ∧ w'.cell? ⟨B1, 3, none⟩ = some (.int .i64 b) ∧ w'.cell? ⟨B1, 4, none⟩ = some (.int .i64 c) ∧ w'.cell? ⟨B1, 5, none⟩ = some (.int .i64 d) ∧ w'.cell? ⟨B1, 6, none⟩ = some (.int .i64 e) ∧ w'.cell? ⟨B1, 7, none⟩ = some (.int .i64 W) ∧ w'.cell? ⟨B1, 8, none⟩ = some (.int .i64 H) ∧ w'.cell? ⟨B1, 9, none⟩ = some (x) ∧ w'.cell? ⟨B1, 10, none⟩ = some (r) ∧ w'.cell? ⟨B1, 11, none⟩ = some (y)) ∧ w'.cell? ⟨B2, 0, none⟩ = some (.int .i64 i) ∧ w'.cell? ⟨B3, 0, none⟩ = some (.int .i64 q)) ∧ Kp w w')) (by kernel_rfl) ?_ (fun hHeld => ?_)
  · assumption
  generalize w.drew = V at *
  refine wpAnyH_take (i := 0) (oi := ⟨some 6, _, _, _, _, _⟩) (v := ?_) rfl (by kernel_rfl) (by kernel_rfl) (by kernel_rfl) (fun _ _ _ h => h) (Or.inl ⟨by rfl, ?_⟩) (by assumption) ?_
  rotate_left
  · intro w hSw; (try dsimp only at hSw); go_simp; (all_goals with_reducible rfl)
  try simp only [Act.put, List.setIfInBounds_toArray, List.set_cons_zero, List.set_cons_succ]
  refine wpAnyH_take (i := 1) (oi := ⟨some 7, _, _, _, _, _⟩) (v := ?_) rfl (by kernel_rfl) (by kernel_rfl) (by kernel_rfl) (fun _ _ _ h => h) (Or.inl ⟨by rfl, ?_⟩) (by assumption) ?_
  rotate_left
  · intro w hSw; (try dsimp only at hSw); go_simp; (all_goals with_reducible rfl)
  try simp only [Act.put, List.setIfInBounds_toArray, List.set_cons_zero, List.set_cons_succ]
  refine wpAnyH_take (i := 2) (oi := ⟨some 8, _, _, _, _, _⟩) (v := ?_) rfl (by kernel_rfl) (by kernel_rfl) (by kernel_rfl) (fun _ _ _ h => h) (Or.inl ⟨by rfl, ?_⟩) (by assumption) ?_
  rotate_left
  · intro w hSw; (try dsimp only at hSw); go_simp; (all_goals with_reducible rfl)
  try simp only [Act.put, List.setIfInBounds_toArray, List.set_cons_zero, List.set_cons_succ]
  refine wpAnyH_take (i := 4) (oi := ⟨some 10, _, _, _, _, _⟩) (v := ?_) rfl (by kernel_rfl) (by kernel_rfl) (by kernel_rfl) (fun _ _ _ h => h) (Or.inl ⟨by rfl, ?_⟩) (by assumption) ?_
  rotate_left
  · intro w hSw; (try dsimp only at hSw); go_simp; (all_goals with_reducible rfl)
  try simp only [Act.put, List.setIfInBounds_toArray, List.set_cons_zero, List.set_cons_succ]
  refine wpAnyH_ready (rs := [3]) (by kernel_rfl) (by simp) ?_
  refine (AllReadyH.cons (o := ⟨some 9, _, _, _, _, _⟩) rfl (fun K hK => ?_) AllReadyH.nil)
  go_simp
  refine (C1.out _ (HB.out.keep hHeld.2)).mono ?_
  rintro e2 w2 ⟨rfl, k2⟩
  have hS2 : ((w2.cell? ⟨B1, 0, none⟩ = some (.slice At nt ct) ∧ w2.cell? ⟨B1, 1, none⟩ = some (.slice Ak nk ck) ∧ w2.cell? ⟨B1, 2, none⟩ = some (.int .i64 a) ∧ w2.cell? ⟨B1, 3, none⟩ = some (.int .i64 b) ∧ w2.cell? ⟨B1, 4, none⟩ = some (.int .i64 c) ∧ w2.cell? ⟨B1, 5, none⟩ = some (.int .i64 d) ∧ w2.cell? ⟨B1, 6, none⟩ = some (.int .i64 e) ∧ w2.cell? ⟨B1, 7, none⟩ = some (.int .i64 W) ∧ w2.cell? ⟨B1, 8, none⟩ = some (.int .i64 H) ∧ w2.cell? ⟨B1, 9, none⟩ = some (x) ∧ w2.cell? ⟨B1, 10, none⟩ = some (r) ∧ w2.cell? ⟨B1, 11, none⟩ = some (y)) ∧ w2.cell? ⟨B2, 0, none⟩ = some (.int .i64 i) ∧ w2.cell? ⟨B3, 0, none⟩ = some (.int .i64 q)) ∧ Kp w w2 := ⟨⟨⟨k2.cell hHeld.1.1.1, k2.cell hHeld.1.1.2.1, k2.cell hHeld.1.1.2.2.1, k2.cell hHeld.1.1.2.2.2.1, k2.cell hHeld.1.1.2.2.2.2.1, k2.cell hHeld.1.1.2.2.2.2.2.1, k2.cell hHeld.1.1.2.2.2.2.2.2.1, k2.cell hHeld.1.1.2.2.2.2.2.2.2.1, k2.cell hHeld.1.1.2.2.2.2.2.2.2.2.1, k2.cell hHeld.1.1.2.2.2.2.2.2.2.2.2.1, k2.cell hHeld.1.1.2.2.2.2.2.2.2.2.2.2.1, k2.cell hHeld.1.1.2.2.2.2.2.2.2.2.2.2.2⟩, k2.cell hHeld.1.2.1, k2.cell hHeld.1.2.2⟩, hHeld.2.trans k2⟩
  go_wp2_with fail
  refine hK.out _ _ ?_ (fun hHeld => ?_)
  · (try dsimp only); (first | assumption)
  clear hK K
  try simp only [Act.put, List.setIfInBounds_toArray, List.set_cons_zero, List.set_cons_succ]
  refine wpAnyH_take (i := 5) (oi := ⟨some 11, _, _, _, _, _⟩) (v := ?_) rfl (by kernel_rfl) (by kernel_rfl) (by kernel_rfl) (fun _ _ _ h => h) (Or.inl ⟨by rfl, ?_⟩) (by assumption) ?_
  rotate_left
  · intro w hSw; (try dsimp only at hSw); go_simp; (all_goals with_reducible rfl)
  try simp only [Act.put, List.setIfInBounds_toArray, List.set_cons_zero, List.set_cons_succ]
  refine wpAnyH_take (i := 6) (oi := ⟨some 5, _, _, _, _, _⟩) (v := ?_) rfl (by kernel_rfl) (by kernel_rfl) (by kernel_rfl) (fun _ _ _ h => h) (Or.inl ⟨by rfl, ?_⟩) (by assumption) ?_
  rotate_left
  · intro w hSw; (try dsimp only at hSw); go_simp; (all_goals with_reducible rfl)
  try simp only [Act.put, List.setIfInBounds_toArray, List.set_cons_zero, List.set_cons_succ]
  refine wpAnyH_done (by kernel_rfl) ?_ _
  go_wp2_with fail
  go_ret
  exact ⟨rfl, hHeld.2⟩

set_option maxRecDepth 100000 in
set_option maxHeartbeats 4000000 in
theorem inSight_any (At Ak : Option Addr) (nt nk ct ck : Nat) (l : List Ter) (m : List Knd) (a b c d e W H : Int) (x r y : Value) (lt lr ld : List Int) (i far q : Int) (w : World) (ht : Tab w) (hB : BrdAt w At Ak nt nk l m x r y lt lr ld) (hok : brdOk ⟨l, m, a, b, c, d, e⟩ W H lt lr ld = true) (hi : onI W H i = true) (f0 : 0 ≤ far) (f1 : far ≤ 20) :
    Calls Tryz.prog 58 #[bv (.slice At nt ct) (.slice Ak nk ck) a b c d e W H x r y, .int .i64 i, .int .i64 far, .int .i64 q] w fun e' w' => ∃ v, e' = .returned v ∧ OwnI w' w.heap.size v (seenI l lt W i far q lt.length) ∧ Kp w w' := by
  have hlen := mapOk_len (brdOk_map hok)
  have hn : (W * H).toNat = lt.length := by omega
  obtain ⟨W3, hW3⟩ : ∃ W3, W3 = (((w.alloc (.cells #[.slice At nt ct, .slice Ak nk ck, .int .i64 a, .int .i64 b, .int .i64 c, .int .i64 d, .int .i64 e, .int .i64 W, .int .i64 H, x, r, y] 41))).alloc (.cells #[.int .i64 i] 3)).alloc (.cells #[.int .i64 q] 3) := ⟨_, rfl⟩
  have k3 : Kp w W3 := by rw [hW3]; exact (((Kp.refl w).alloc _).alloc _).alloc _
  have s3 : SeeAt W3 w.heap.size (w.heap.size + 1) (w.heap.size + 1 + 1) At Ak nt nk ct ck a b c d e W H x r y i q := by
    rw [hW3]
    exact ⟨⟨by simp [go_sem], by simp [go_sem], by simp [go_sem], by simp [go_sem], by simp [go_sem], by simp [go_sem], by simp [go_sem], by simp [go_sem], by simp [go_sem], by simp [go_sem], by simp [go_sem], by simp [go_sem]⟩, by simp [go_sem], by simp [go_sem]⟩
  have CN : Hid (Calls Tryz.prog 92 #[mp W H x r y, .int .i64 i, .int .i64 far] W3 fun e' w' => ∃ v, e' = .returned (.tuple #[v, .bool true]) ∧ OwnI w' W3.heap.size v (nearF W (i % W) (i / W) far lt.length) ∧ Kp W3 w') := Lib.hid (by
    have := nearOn_any W H x r y lt lr ld i far W3 (ht.keep k3) (hB.L.keep k3)
    rw [show nearOk W H lt lr ld i far = true by simp [nearOk, brdOk_map hok, hi, f0, f1], hn] at this
    exact this)
  have HP : Hid (∀ z ∈ nearF W (i % W) (i / W) far lt.length, ∀ w2, Kp W3 w2 → Calls Tryz.prog 93 (#[.int .i64 z] ++ #[.pointer (some ⟨w.heap.size, 0, none⟩), .pointer (some ⟨w.heap.size + 1, 0, none⟩), .pointer (some ⟨w.heap.size + 1 + 1, 0, none⟩)]) w2 fun e' w' => e' = .returned (.bool (decide (q < codI l lt W i z))) ∧ Kp w2 w') := Lib.hid fun z hz w2 k2 => by
    obtain ⟨j, hj, rfl⟩ := nearF_mem _ _ _ _ _ _ hz
    obtain ⟨g1, g2, g3⟩ := s3
    exact seeNot_any At Ak nt nk ct ck l m a b c d e W H x r y lt lr ld w.heap.size (w.heap.size + 1) (w.heap.size + 1 + 1) i j q w2 (hB.keep (k3.trans k2)) hok hi (onI_of hlen hj) ⟨⟨k2.cell g1.1, k2.cell g1.2.1, k2.cell g1.2.2.1, k2.cell g1.2.2.2.1, k2.cell g1.2.2.2.2.1, k2.cell g1.2.2.2.2.2.1, k2.cell g1.2.2.2.2.2.2.1, k2.cell g1.2.2.2.2.2.2.2.1, k2.cell g1.2.2.2.2.2.2.2.2.1, k2.cell g1.2.2.2.2.2.2.2.2.2.1, k2.cell g1.2.2.2.2.2.2.2.2.2.2.1, k2.cell g1.2.2.2.2.2.2.2.2.2.2.2⟩, k2.cell g2, k2.cell g3⟩
  have HS : Hid (seenI l lt W i far q lt.length = (nearF W (i % W) (i / W) far lt.length).filter fun z => !decide (q < codI l lt W i z)) := Lib.hid (by
    unfold seenI
    congr 1
    funext z
    by_cases h : codI l lt W i z ≤ q
    · rw [decide_eq_true h, decide_eq_false (by omega)]; rfl
    · rw [decide_eq_false h, decide_eq_true (by omega)]; rfl)
  have hl : (nearF W (i % W) (i / W) far lt.length).length ≤ 1048576 := by
    have := nearF_len W (i % W) (i / W) far lt.length
    have := hB.L.bt
    omega
  rw [HS.out]
  have S3 := Lib.hid s3
  have K3 := Lib.hid k3
  generalize nearF W (i % W) (i / W) far lt.length = L at CN HP hl ⊢
  clear hB ht hok hi hlen hn HS s3 k3 f0 f1
  go_enter Tryz.func58, Tryz.ntmps58
  go_upto_region 1 with (fail)
  rw [← hW3]
  obtain ⟨g1, g2, g3⟩ := S3.out
  clear hW3
  go_wp2_with fail
  refine CN.out.mono ?_
  rintro e1 w1 ⟨v, rfl, o1, k1⟩
  have CD := Lib.hid (deleteFunc_S #[.pointer (some ⟨w.heap.size, 0, none⟩), .pointer (some ⟨w.heap.size + 1, 0, none⟩), .pointer (some ⟨w.heap.size + 1 + 1, 0, none⟩)] (fun z => decide (q < codI l lt W i z)) L v W3.heap.size W3 w1 HP.out k1 o1 (Nat.le_refl _) hl)
  clear g1 g2 g3 o1
  go_wp2_with fail
  refine CD.out.mono ?_
  rintro e2 w2 ⟨v2, rfl, o2, k2⟩
  have O2 := Lib.hid o2
  clear o2
  go_wp2_with fail
  go_ret
  exact ⟨_, rfl, O2.out.base K3.out.size, K3.out.trans k2⟩

set_option maxRecDepth 100000 in
set_option maxHeartbeats 4000000 in
theorem seenBy_any (At Ak : Option Addr) (nt nk ct ck : Nat) (l : List Ter) (m : List Knd) (a b c d e W H : Int) (x r y : Value) (lt lr ld : List Int) (k : Nat) (i : Int) (w : World) (ht : Tab w) (hB : BrdAt w At Ak nt nk l m x r y lt lr ld) (hok : brdOk ⟨l, m, a, b, c, d, e⟩ W H lt lr ld = true) (hk : k < m.length) (hi : onI W H i = true) :
    Calls Tryz.prog 62 #[bv (.slice At nt ct) (.slice Ak nk ck) a b c d e W H x r y, .int .i64 (k : Int), .int .i64 i] w fun e' w' => ∃ v, e' = .returned v ∧ OwnI w' w.heap.size v (byI l m lt W i k lt.length) ∧ Kp w w' := by
  have hmk := hB.R.rk.1
  obtain ⟨gk, ok, rfl, hck⟩ := hB.R.rk.2 (by omega)
  obtain ⟨kd, hkd⟩ : ∃ kd, m[k]? = some kd := ⟨m[k]'hk, List.getElem?_eq_getElem _⟩
  obtain ⟨_, _, _, _, _, q2⟩ := hck k kd hkd
  obtain ⟨v1, v2⟩ := view_bd hok hkd
  obtain ⟨vw, hV⟩ : ∃ z, z = kd.view := ⟨_, rfl⟩
  rw [← hV] at q2 v1 v2
  have e0 : viewK m k = vw := by
    unfold viewK
    rw [hkd]
    exact hV.symm
  have HE : Hid (byI l m lt W i k lt.length = seenI l lt W i vw 1 lt.length) := Lib.hid (by unfold byI; rw [e0])
  have KA : Kp w (w.alloc (.cells #[.slice At nt ct, .slice (some ⟨gk, ok, none⟩) nk ck, .int .i64 a, .int .i64 b, .int .i64 c, .int .i64 d, .int .i64 e, .int .i64 W, .int .i64 H, x, r, y] 41)) := (Kp.refl w).alloc _
  have s0 : (w.alloc (.cells #[.slice At nt ct, .slice (some ⟨gk, ok, none⟩) nk ck, .int .i64 a, .int .i64 b, .int .i64 c, .int .i64 d, .int .i64 e, .int .i64 W, .int .i64 H, x, r, y] 41)).cell? ⟨w.heap.size, 0, none⟩ = some (.slice At nt ct) ∧ (w.alloc (.cells #[.slice At nt ct, .slice (some ⟨gk, ok, none⟩) nk ck, .int .i64 a, .int .i64 b, .int .i64 c, .int .i64 d, .int .i64 e, .int .i64 W, .int .i64 H, x, r, y] 41)).cell? ⟨w.heap.size, 1, none⟩ = some (.slice (some ⟨gk, ok, none⟩) nk ck) ∧ (w.alloc (.cells #[.slice At nt ct, .slice (some ⟨gk, ok, none⟩) nk ck, .int .i64 a, .int .i64 b, .int .i64 c, .int .i64 d, .int .i64 e, .int .i64 W, .int .i64 H, x, r, y] 41)).cell? ⟨w.heap.size, 2, none⟩ = some (.int .i64 a) ∧ (w.alloc (.cells #[.slice At nt ct, .slice (some ⟨gk, ok, none⟩) nk ck, .int .i64 a, .int .i64 b, .int .i64 c, .int .i64 d, .int .i64 e, .int .i64 W, .int .i64 H, x, r, y] 41)).cell? ⟨w.heap.size, 3, none⟩ = some (.int .i64 b) ∧ (w.alloc (.cells #[.slice At nt ct, .slice (some ⟨gk, ok, none⟩) nk ck, .int .i64 a, .int .i64 b, .int .i64 c, .int .i64 d, .int .i64 e, .int .i64 W, .int .i64 H, x, r, y] 41)).cell? ⟨w.heap.size, 4, none⟩ = some (.int .i64 c) ∧ (w.alloc (.cells #[.slice At nt ct, .slice (some ⟨gk, ok, none⟩) nk ck, .int .i64 a, .int .i64 b, .int .i64 c, .int .i64 d, .int .i64 e, .int .i64 W, .int .i64 H, x, r, y] 41)).cell? ⟨w.heap.size, 5, none⟩ = some (.int .i64 d) ∧ (w.alloc (.cells #[.slice At nt ct, .slice (some ⟨gk, ok, none⟩) nk ck, .int .i64 a, .int .i64 b, .int .i64 c, .int .i64 d, .int .i64 e, .int .i64 W, .int .i64 H, x, r, y] 41)).cell? ⟨w.heap.size, 6, none⟩ = some (.int .i64 e) ∧ (w.alloc (.cells #[.slice At nt ct, .slice (some ⟨gk, ok, none⟩) nk ck, .int .i64 a, .int .i64 b, .int .i64 c, .int .i64 d, .int .i64 e, .int .i64 W, .int .i64 H, x, r, y] 41)).cell? ⟨w.heap.size, 7, none⟩ = some (.int .i64 W) ∧ (w.alloc (.cells #[.slice At nt ct, .slice (some ⟨gk, ok, none⟩) nk ck, .int .i64 a, .int .i64 b, .int .i64 c, .int .i64 d, .int .i64 e, .int .i64 W, .int .i64 H, x, r, y] 41)).cell? ⟨w.heap.size, 8, none⟩ = some (.int .i64 H) ∧ (w.alloc (.cells #[.slice At nt ct, .slice (some ⟨gk, ok, none⟩) nk ck, .int .i64 a, .int .i64 b, .int .i64 c, .int .i64 d, .int .i64 e, .int .i64 W, .int .i64 H, x, r, y] 41)).cell? ⟨w.heap.size, 9, none⟩ = some (x) ∧ (w.alloc (.cells #[.slice At nt ct, .slice (some ⟨gk, ok, none⟩) nk ck, .int .i64 a, .int .i64 b, .int .i64 c, .int .i64 d, .int .i64 e, .int .i64 W, .int .i64 H, x, r, y] 41)).cell? ⟨w.heap.size, 10, none⟩ = some (r) ∧ (w.alloc (.cells #[.slice At nt ct, .slice (some ⟨gk, ok, none⟩) nk ck, .int .i64 a, .int .i64 b, .int .i64 c, .int .i64 d, .int .i64 e, .int .i64 W, .int .i64 H, x, r, y] 41)).cell? ⟨w.heap.size, 11, none⟩ = some (y) ∧ (w.alloc (.cells #[.slice At nt ct, .slice (some ⟨gk, ok, none⟩) nk ck, .int .i64 a, .int .i64 b, .int .i64 c, .int .i64 d, .int .i64 e, .int .i64 W, .int .i64 H, x, r, y] 41)).cell? ⟨gk, ok + k * 6 + 5, none⟩ = some (.int .i64 vw) ∧ Kp w (w.alloc (.cells #[.slice At nt ct, .slice (some ⟨gk, ok, none⟩) nk ck, .int .i64 a, .int .i64 b, .int .i64 c, .int .i64 d, .int .i64 e, .int .i64 W, .int .i64 H, x, r, y] 41)) := ⟨by simp [go_sem], by simp [go_sem], by simp [go_sem], by simp [go_sem], by simp [go_sem], by simp [go_sem], by simp [go_sem], by simp [go_sem], by simp [go_sem], by simp [go_sem], by simp [go_sem], by simp [go_sem], KA.cell q2, KA⟩
  have HB := Lib.hid hB
  have HT := Lib.hid ht
  have C1 := Lib.hid (fun (w : World) ht hB => inSight_any At (some ⟨gk, ok, none⟩) nt nk ct ck l m a b c d e W H x r y lt lr ld i vw 1 w ht hB hok hi v1 (by omega))
  have hnk : k < nk := by omega
  rw [HE.out]
  have hkk : k < 4 := by have := (rulOk_nt (brdOk_rul hok)).2.2; omega
  clear hB ht hok hk hi hck hkd hV e0 hmk q2 KA HE
  go_enter Tryz.func62, Tryz.ntmps62
  go_upto_region 1 with (fail)
  have s1 : (w.alloc (.cells #[.slice At nt ct, .slice (some ⟨gk, ok, none⟩) nk ck, .int .i64 a, .int .i64 b, .int .i64 c, .int .i64 d, .int .i64 e, .int .i64 W, .int .i64 H, x, r, y] 41)).drew.cell? ⟨w.heap.size, 0, none⟩ = some (.slice At nt ct) ∧ (w.alloc (.cells #[.slice At nt ct, .slice (some ⟨gk, ok, none⟩) nk ck, .int .i64 a, .int .i64 b, .int .i64 c, .int .i64 d, .int .i64 e, .int .i64 W, .int .i64 H, x, r, y] 41)).drew.cell? ⟨w.heap.size, 1, none⟩ = some (.slice (some ⟨gk, ok, none⟩) nk ck) ∧ (w.alloc (.cells #[.slice At nt ct, .slice (some ⟨gk, ok, none⟩) nk ck, .int .i64 a, .int .i64 b, .int .i64 c, .int .i64 d, .int .i64 e, .int .i64 W, .int .i64 H, x, r, y] 41)).drew.cell? ⟨w.heap.size, 2, none⟩ = some (.int .i64 a) ∧ (w.alloc (.cells #[.slice At nt ct, .slice (some ⟨gk, ok, none⟩) nk ck, .int .i64 a, .int .i64 b, .int .i64 c, .int .i64 d, .int .i64 e, .int .i64 W, .int .i64 H, x, r, y] 41)).drew.cell? ⟨w.heap.size, 3, none⟩ = some (.int .i64 b) ∧ (w.alloc (.cells #[.slice At nt ct, .slice (some ⟨gk, ok, none⟩) nk ck, .int .i64 a, .int .i64 b, .int .i64 c, .int .i64 d, .int .i64 e, .int .i64 W, .int .i64 H, x, r, y] 41)).drew.cell? ⟨w.heap.size, 4, none⟩ = some (.int .i64 c) ∧ (w.alloc (.cells #[.slice At nt ct, .slice (some ⟨gk, ok, none⟩) nk ck, .int .i64 a, .int .i64 b, .int .i64 c, .int .i64 d, .int .i64 e, .int .i64 W, .int .i64 H, x, r, y] 41)).drew.cell? ⟨w.heap.size, 5, none⟩ = some (.int .i64 d) ∧ (w.alloc (.cells #[.slice At nt ct, .slice (some ⟨gk, ok, none⟩) nk ck, .int .i64 a, .int .i64 b, .int .i64 c, .int .i64 d, .int .i64 e, .int .i64 W, .int .i64 H, x, r, y] 41)).drew.cell? ⟨w.heap.size, 6, none⟩ = some (.int .i64 e) ∧ (w.alloc (.cells #[.slice At nt ct, .slice (some ⟨gk, ok, none⟩) nk ck, .int .i64 a, .int .i64 b, .int .i64 c, .int .i64 d, .int .i64 e, .int .i64 W, .int .i64 H, x, r, y] 41)).drew.cell? ⟨w.heap.size, 7, none⟩ = some (.int .i64 W) ∧ (w.alloc (.cells #[.slice At nt ct, .slice (some ⟨gk, ok, none⟩) nk ck, .int .i64 a, .int .i64 b, .int .i64 c, .int .i64 d, .int .i64 e, .int .i64 W, .int .i64 H, x, r, y] 41)).drew.cell? ⟨w.heap.size, 8, none⟩ = some (.int .i64 H) ∧ (w.alloc (.cells #[.slice At nt ct, .slice (some ⟨gk, ok, none⟩) nk ck, .int .i64 a, .int .i64 b, .int .i64 c, .int .i64 d, .int .i64 e, .int .i64 W, .int .i64 H, x, r, y] 41)).drew.cell? ⟨w.heap.size, 9, none⟩ = some (x) ∧ (w.alloc (.cells #[.slice At nt ct, .slice (some ⟨gk, ok, none⟩) nk ck, .int .i64 a, .int .i64 b, .int .i64 c, .int .i64 d, .int .i64 e, .int .i64 W, .int .i64 H, x, r, y] 41)).drew.cell? ⟨w.heap.size, 10, none⟩ = some (r) ∧ (w.alloc (.cells #[.slice At nt ct, .slice (some ⟨gk, ok, none⟩) nk ck, .int .i64 a, .int .i64 b, .int .i64 c, .int .i64 d, .int .i64 e, .int .i64 W, .int .i64 H, x, r, y] 41)).drew.cell? ⟨w.heap.size, 11, none⟩ = some (y) ∧ (w.alloc (.cells #[.slice At nt ct, .slice (some ⟨gk, ok, none⟩) nk ck, .int .i64 a, .int .i64 b, .int .i64 c, .int .i64 d, .int .i64 e, .int .i64 W, .int .i64 H, x, r, y] 41)).drew.cell? ⟨gk, ok + k * 6 + 5, none⟩ = some (.int .i64 vw) ∧ Kp w (w.alloc (.cells #[.slice At nt ct, .slice (some ⟨gk, ok, none⟩) nk ck, .int .i64 a, .int .i64 b, .int .i64 c, .int .i64 d, .int .i64 e, .int .i64 W, .int .i64 H, x, r, y] 41)).drew := ⟨s0.1, s0.2.1, s0.2.2.1, s0.2.2.2.1, s0.2.2.2.2.1, s0.2.2.2.2.2.1, s0.2.2.2.2.2.2.1, s0.2.2.2.2.2.2.2.1, s0.2.2.2.2.2.2.2.2.1, s0.2.2.2.2.2.2.2.2.2.1, s0.2.2.2.2.2.2.2.2.2.2.1, s0.2.2.2.2.2.2.2.2.2.2.2.1, s0.2.2.2.2.2.2.2.2.2.2.2.2.1, s0.2.2.2.2.2.2.2.2.2.2.2.2.2.drew⟩
  clear s0
  refine wp_region_held_drew (S := (fun w' => w'.cell? ⟨w.heap.size, 0, none⟩ = some (.slice At nt ct) ∧ w'.cell? ⟨w.heap.size, 1, none⟩ = some (.slice (some ⟨gk, ok, none⟩) nk ck) ∧ w'.cell? ⟨w.heap.size, 2, none⟩ = some (.int .i64 a) ∧ w'.cell? ⟨w.heap.size, 3, none⟩ = some (.int .i64 b) ∧ w'.cell? ⟨w.heap.size, 4, none⟩ = some (.int .i64 c) ∧ w'.cell? ⟨w.heap.size, 5, none⟩ = some (.int .i64 d) ∧ w'.cell? ⟨w.heap.size, 6, none⟩ = some (.int .i64 e) ∧ w'.cell? ⟨w.heap.size, 7, none⟩ = some (.int .i64 W) ∧ w'.cell? ⟨w.heap.size, 8, none⟩ = some (.int .i64 H) ∧ w'.cell? ⟨w.heap.size, 9, none⟩ = some (x) ∧ w'.cell? ⟨w.heap.size, 10, none⟩ = some (r) ∧ w'.cell? ⟨w.heap.size, 11, none⟩ = some (y) ∧ w'.cell? ⟨gk, ok + k * 6 + 5, none⟩ = some (.int .i64 vw) ∧ Kp w w')) (by kernel_rfl) ?_ (fun hHeld => ?_)
  · assumption
  generalize (w.alloc (.cells #[.slice At nt ct, .slice (some ⟨gk, ok, none⟩) nk ck, .int .i64 a, .int .i64 b, .int .i64 c, .int .i64 d, .int .i64 e, .int .i64 W, .int .i64 H, x, r, y] 41)).drew = V at *
  refine wpAnyH_take (i := 0) (oi := ⟨some 7, _, _, _, _, _⟩) (v := ?_) rfl (by kernel_rfl) (by kernel_rfl) (by kernel_rfl) (fun _ _ _ h => h) (Or.inl ⟨by rfl, ?_⟩) (by assumption) ?_
  rotate_left
  · intro w hSw; (try dsimp only at hSw); go_simp; (all_goals with_reducible rfl)
  try simp only [Act.put, List.setIfInBounds_toArray, List.set_cons_zero, List.set_cons_succ]
  refine wpAnyH_take (i := 1) (oi := ⟨some 8, _, _, _, _, _⟩) (v := ?_) rfl (by kernel_rfl) (by kernel_rfl) (by kernel_rfl) (fun _ _ _ h => h) (Or.inl ⟨by rfl, ?_⟩) (by assumption) ?_
  rotate_left
  · intro w hSw; (try dsimp only at hSw); go_simp; (all_goals with_reducible rfl)
  try simp only [Act.put, List.setIfInBounds_toArray, List.set_cons_zero, List.set_cons_succ]
  refine wpAnyH_take (i := 2) (oi := ⟨some 9, _, _, _, _, _⟩) (v := ?_) rfl (by kernel_rfl) (by kernel_rfl) (by kernel_rfl) (fun _ _ _ h => h) (Or.inl ⟨by rfl, ?_⟩) (by assumption) ?_
  rotate_left
  · intro w hSw; (try dsimp only at hSw); go_simp; (all_goals with_reducible rfl)
  try simp only [Act.put, List.setIfInBounds_toArray, List.set_cons_zero, List.set_cons_succ]
  refine wpAnyH_take (i := 3) (oi := ⟨some 10, _, _, _, _, _⟩) (v := ?_) rfl (by kernel_rfl) (by kernel_rfl) (by kernel_rfl) (fun _ _ _ h => h) (Or.inl ⟨by rfl, ?_⟩) (by assumption) ?_
  rotate_left
  · intro w hSw; (try dsimp only at hSw); go_simp; (all_goals with_reducible rfl)
  try simp only [Act.put, List.setIfInBounds_toArray, List.set_cons_zero, List.set_cons_succ]
  refine wpAnyH_take (i := 4) (oi := ⟨some 11, _, _, _, _, _⟩) (v := ?_) rfl (by kernel_rfl) (by kernel_rfl) (by kernel_rfl) (fun _ _ _ h => h) (Or.inl ⟨by rfl, ?_⟩) (by assumption) ?_
  rotate_left
  · intro w hSw; (try dsimp only at hSw); go_simp; (all_goals with_reducible rfl)
  try simp only [Act.put, List.setIfInBounds_toArray, List.set_cons_zero, List.set_cons_succ]
  refine wpAnyH_take (i := 5) (oi := ⟨some 12, _, _, _, _, _⟩) (v := ?_) rfl (by kernel_rfl) (by kernel_rfl) (by kernel_rfl) (fun _ _ _ h => h) (Or.inl ⟨by rfl, ?_⟩) (by assumption) ?_
  rotate_left
  · intro w hSw; (try dsimp only at hSw); go_simp; (all_goals with_reducible rfl)
  try simp only [Act.put, List.setIfInBounds_toArray, List.set_cons_zero, List.set_cons_succ]
  refine wpAnyH_take (i := 6) (oi := ⟨some 13, _, _, _, _, _⟩) (v := ?_) rfl (by kernel_rfl) (by kernel_rfl) (by kernel_rfl) (fun _ _ _ h => h) (Or.inl ⟨by rfl, ?_⟩) (by assumption) ?_
  rotate_left
  · intro w hSw; (try dsimp only at hSw); go_simp; (all_goals with_reducible rfl)
  try simp only [Act.put, List.setIfInBounds_toArray, List.set_cons_zero, List.set_cons_succ]
  refine wpAnyH_take (i := 7) (oi := ⟨some 14, _, _, _, _, _⟩) (v := ?_) rfl (by kernel_rfl) (by kernel_rfl) (by kernel_rfl) (fun _ _ _ h => h) (Or.inl ⟨by rfl, ?_⟩) (by assumption) ?_
  rotate_left
  · intro w hSw; (try dsimp only at hSw); go_simp; (all_goals with_reducible rfl)
  try simp only [Act.put, List.setIfInBounds_toArray, List.set_cons_zero, List.set_cons_succ]
  refine wpAnyH_take (i := 8) (oi := ⟨some 15, _, _, _, _, _⟩) (v := ?_) rfl (by kernel_rfl) (by kernel_rfl) (by kernel_rfl) (fun _ _ _ h => h) (Or.inl ⟨by rfl, ?_⟩) (by assumption) ?_
  rotate_left
  · intro w hSw; (try dsimp only at hSw); go_simp; (all_goals with_reducible rfl)
  try simp only [Act.put, List.setIfInBounds_toArray, List.set_cons_zero, List.set_cons_succ]
  refine wpAnyH_ready (rs := [9]) (by kernel_rfl) (by simp) ?_
  refine (AllReadyH.cons (o := ⟨some 16, _, _, _, _, _⟩) rfl (fun K hK => ?_) AllReadyH.nil)
  go_simp
  refine (C1.out _ (HT.out.keep hHeld.2.2.2.2.2.2.2.2.2.2.2.2.2) (HB.out.keep hHeld.2.2.2.2.2.2.2.2.2.2.2.2.2)).mono ?_
  rintro e2 w2 ⟨v2', rfl, o2, k2⟩
  have hS2 : w2.cell? ⟨w.heap.size, 0, none⟩ = some (.slice At nt ct) ∧ w2.cell? ⟨w.heap.size, 1, none⟩ = some (.slice (some ⟨gk, ok, none⟩) nk ck) ∧ w2.cell? ⟨w.heap.size, 2, none⟩ = some (.int .i64 a) ∧ w2.cell? ⟨w.heap.size, 3, none⟩ = some (.int .i64 b) ∧ w2.cell? ⟨w.heap.size, 4, none⟩ = some (.int .i64 c) ∧ w2.cell? ⟨w.heap.size, 5, none⟩ = some (.int .i64 d) ∧ w2.cell? ⟨w.heap.size, 6, none⟩ = some (.int .i64 e) ∧ w2.cell? ⟨w.heap.size, 7, none⟩ = some (.int .i64 W) ∧ w2.cell? ⟨w.heap.size, 8, none⟩ = some (.int .i64 H) ∧ w2.cell? ⟨w.heap.size, 9, none⟩ = some (x) ∧ w2.cell? ⟨w.heap.size, 10, none⟩ = some (r) ∧ w2.cell? ⟨w.heap.size, 11, none⟩ = some (y) ∧ w2.cell? ⟨gk, ok + k * 6 + 5, none⟩ = some (.int .i64 vw) ∧ Kp w w2 := ⟨k2.cell hHeld.1, k2.cell hHeld.2.1, k2.cell hHeld.2.2.1, k2.cell hHeld.2.2.2.1, k2.cell hHeld.2.2.2.2.1, k2.cell hHeld.2.2.2.2.2.1, k2.cell hHeld.2.2.2.2.2.2.1, k2.cell hHeld.2.2.2.2.2.2.2.1, k2.cell hHeld.2.2.2.2.2.2.2.2.1, k2.cell hHeld.2.2.2.2.2.2.2.2.2.1, k2.cell hHeld.2.2.2.2.2.2.2.2.2.2.1, k2.cell hHeld.2.2.2.2.2.2.2.2.2.2.2.1, k2.cell hHeld.2.2.2.2.2.2.2.2.2.2.2.2.1, hHeld.2.2.2.2.2.2.2.2.2.2.2.2.2.trans k2⟩
  have KV := hHeld.2.2.2.2.2.2.2.2.2.2.2.2.2
  have O2 := Lib.hid (o2.base KV.size)
  obtain ⟨A2', c2', e2'⟩ := O2.out.slice
  subst e2'
  clear o2 k2
  go_wp2_with fail
  refine hK.out _ _ ?_ (fun hHeld => ?_)
  · (try dsimp only); (first | assumption)
  clear hK K
  try simp only [Act.put, List.setIfInBounds_toArray, List.set_cons_zero, List.set_cons_succ]
  refine wpAnyH_take (i := 10) (oi := ⟨some 6, _, _, _, _, _⟩) (v := ?_) rfl (by kernel_rfl) (by kernel_rfl) (by kernel_rfl) (fun _ _ _ h => h) (Or.inl ⟨by rfl, ?_⟩) (by assumption) ?_
  rotate_left
  · intro w hSw; (try dsimp only at hSw); go_simp; (all_goals with_reducible rfl)
  try simp only [Act.put, List.setIfInBounds_toArray, List.set_cons_zero, List.set_cons_succ]
  refine wpAnyH_done (by kernel_rfl) ?_ _
  go_wp2_with fail
  go_ret
  exact ⟨_, rfl, O2.out, hHeld.2.2.2.2.2.2.2.2.2.2.2.2.2⟩

end Go.Proofs.YtfohhofpfmbheaaGreatDoor
