/-
  WatchersOf and BestLookout of both sides. In memory of their own; nothing that was there is changed. The named variables hold what the program's text lays.
-/
import Derived.Test.YtfohhofpfmbheaaGreatDoorSgW
namespace Go.Proofs.YtfohhofpfmbheaaGreatDoor
open Go.RowKit

theorem nearF_of (W X Y rad : Int) : ∀ (n j : Nat), j < n → nrB W X Y rad j = true → (j : Int) ∈ nearF W X Y rad n
  | 0, j, h, _ => by omega
  | n + 1, j, h, hb => by
    rw [nearF, List.mem_append]
    rcases Nat.lt_or_ge j n with g | g
    · exact Or.inl (nearF_of W X Y rad n j g hb)
    · obtain rfl : j = n := by omega
      rw [hb]
      exact Or.inr (by simp)
theorem dist_self (q r : Int) : distI (q - q) (r - r) = 0 := by rw [Int.sub_self, Int.sub_self]; rfl
theorem codI_self (l : List Ter) (lt : List Int) (W i : Int) : codI l lt W i i = 0 := by
  unfold codI sgtL dstW distH
  rw [dist_self]
  rfl
/-- Each hex sees itself. -/
theorem byI_self {l : List Ter} {m : List Knd} {lt : List Int} {W : Int} {k n j : Nat} (hj : j < n) (hv : 0 ≤ viewK m k) : (j : Int) ∈ byI l m lt W j k n := by
  unfold byI seenI
  rw [List.mem_filter]
  refine ⟨nearF_of _ _ _ _ n j hj ?_, ?_⟩
  · unfold nrB
    rw [dist_self]
    exact decide_eq_true hv
  · rw [codI_self]
    rfl
theorem viewK_ge {l : List Ter} {m : List Knd} {a b c d e W H : Int} {lt lr ld : List Int} (h : brdOk ⟨l, m, a, b, c, d, e⟩ W H lt lr ld = true) (k : Nat) : 0 ≤ viewK m k := by
  unfold viewK
  cases hk : m[k]? with
  | none => simp
  | some t => exact (view_bd h hk).1
theorem opnL_mem {l : List Ter} {lt : List Int} {k n : Nat} {z : Int} (h : z ∈ opnL l lt k n) : ∃ j : Nat, j < n ∧ z = j := by
  unfold opnL at h
  obtain ⟨j, h1, h2, _⟩ := (filN_mem _ _ _).1 h
  exact ⟨j, h1, h2⟩

/-- A step of the search for the greatest value, the first one of those. -/
def lkS (f : Int → Int) (p : Int × Int) (z : Int) : Int × Int := if p.2 < f z then (z, f z) else p
def lkF (f : Int → Int) (L : List Int) (p : Int × Int) : Int × Int := L.foldl (lkS f) p
theorem lkF_take {f : Int → Int} {L : List Int} {p : Int × Int} {q : Nat} {z : Int} (h : L[q]? = some z) : lkF f (L.take (q + 1)) p = lkS f (lkF f (L.take q) p) z := by
  unfold lkF
  rw [List.take_add_one, h, List.foldl_append]
  rfl
theorem lkF_ge (f : Int → Int) : ∀ (L : List Int) (p : Int × Int), p.2 ≤ (lkF f L p).2
  | [], p => Int.le_refl _
  | z :: L, p => by
    refine Int.le_trans ?_ (lkF_ge f L (lkS f p z))
    unfold lkS
    split
    · omega
    · exact Int.le_refl _
theorem lkF_start {f : Int → Int} {L : List Int} (h : ∀ z ∈ L, 1 ≤ f z) : (L = [] ∧ lkF f L (0, 0) = (0, 0)) ∨ (L ≠ [] ∧ lkF f L (0, -1) = lkF f L (0, 0) ∧ 0 < (lkF f L (0, 0)).2) := by
  cases L with
  | nil => exact Or.inl ⟨rfl, rfl⟩
  | cons z L =>
    have h1 := h z (List.mem_cons_self ..)
    have e1 : lkS f (0, -1) z = (z, f z) := if_pos (show (-1 : Int) < f z by omega)
    have e2 : lkS f (0, 0) z = (z, f z) := if_pos (show (0 : Int) < f z by omega)
    refine Or.inr ⟨by simp, ?_, ?_⟩
    · unfold lkF
      rw [List.foldl_cons, List.foldl_cons, e1, e2]
    · have g := lkF_ge f L (z, f z)
      unfold lkF at g ⊢
      rw [List.foldl_cons, e2]
      omega
def byN (l : List Ter) (m : List Knd) (lt : List Int) (W : Int) (k n : Nat) (z : Int) : Int := ((byI l m lt W z k n).length : Int)
def lkI (l : List Ter) (m : List Knd) (lt : List Int) (W : Int) (k n : Nat) : Int × Int := lkF (byN l m lt W k n) (opnL l lt k n) (0, 0)
theorem byN_pos {l : List Ter} {m : List Knd} {a b c d e W H : Int} {lt lr ld : List Int} (h : brdOk ⟨l, m, a, b, c, d, e⟩ W H lt lr ld = true) (k n : Nat) : ∀ z ∈ opnL l lt k n, 1 ≤ byN l m lt W k n z := fun z hz => by
  obtain ⟨j, hj, rfl⟩ := opnL_mem hz
  have := List.length_pos_of_mem (byI_self (l := l) (m := m) (lt := lt) (W := W) hj (viewK_ge h k))
  unfold byN
  omega

theorem SeeAt.keep {w w' : World} {B1 B2 B3 : Nat} {At Ak : Option Addr} {nt nk ct ck : Nat} {a b c d e W H : Int} {x r y : Value} {i q : Int} (h : SeeAt w B1 B2 B3 At Ak nt nk ct ck a b c d e W H x r y i q) (k : Kp w w') : SeeAt w' B1 B2 B3 At Ak nt nk ct ck a b c d e W H x r y i q :=
  ⟨⟨k.cell h.1.1, k.cell h.1.2.1, k.cell h.1.2.2.1, k.cell h.1.2.2.2.1, k.cell h.1.2.2.2.2.1, k.cell h.1.2.2.2.2.2.1, k.cell h.1.2.2.2.2.2.2.1, k.cell h.1.2.2.2.2.2.2.2.1, k.cell h.1.2.2.2.2.2.2.2.2.1, k.cell h.1.2.2.2.2.2.2.2.2.2.1, k.cell h.1.2.2.2.2.2.2.2.2.2.2.1, k.cell h.1.2.2.2.2.2.2.2.2.2.2.2⟩, k.cell h.2.1, k.cell h.2.2⟩
set_option maxRecDepth 100000 in
set_option maxHeartbeats 4000000 in
theorem unseen_nat (At Ak : Option Addr) (nt nk ct ck : Nat) (l : List Ter) (m : List Knd) (a b c d e W H : Int) (x r y : Value) (lt lr ld : List Int) (B1 B2 B3 : Nat) (i z : Int) (k : Nat) (w : World) (ht : Tab w) (hB : BrdAt w At Ak nt nk l m x r y lt lr ld) (hok : brdOk ⟨l, m, a, b, c, d, e⟩ W H lt lr ld = true) (hk : k < m.length) (hi : onI W H i = true) (hb : SeeAt w B1 B2 B3 At Ak nt nk ct ck a b c d e W H x r y (k : Int) z) :
    Calls Tryz.prog 65 #[.int .i64 i, .pointer (some ⟨B1, 0, none⟩), .pointer (some ⟨B2, 0, none⟩), .pointer (some ⟨B3, 0, none⟩)] w fun e' w' => e' = .returned (.bool (!hasB (byI l m lt W i k lt.length) z)) ∧ Kp w w' := by
  have HB := Lib.hid hB
  have HT := Lib.hid ht
  have C1 := Lib.hid (fun (w : World) ht hB => seenBy_any At Ak nt nk ct ck l m a b c d e W H x r y lt lr ld k i w ht hB hok hk hi)
  have hl : (byI l m lt W i k lt.length).length ≤ 1048576 := by
    have := seenI_len l lt W i (viewK m k) 1 lt.length
    have := hB.L.bt
    unfold byI
    omega
  generalize byI l m lt W i k lt.length = L at C1 hl ⊢
  have C2 := Lib.hid (fun (v : Value) (w : World) (h : RdI w v L) => contains_any v L z w h hl)
  generalize hasB L z = p at C2 ⊢
  have s0 : ((w.cell? ⟨B1, 0, none⟩ = some (.slice At nt ct) ∧ w.cell? ⟨B1, 1, none⟩ = some (.slice Ak nk ck) ∧ w.cell? ⟨B1, 2, none⟩ = some (.int .i64 a) ∧ w.cell? ⟨B1, 3, none⟩ = some (.int .i64 b) ∧ w.cell? ⟨B1, 4, none⟩ = some (.int .i64 c) ∧ w.cell? ⟨B1, 5, none⟩ = some (.int .i64 d) ∧ w.cell? ⟨B1, 6, none⟩ = some (.int .i64 e) ∧ w.cell? ⟨B1, 7, none⟩ = some (.int .i64 W) ∧ w.cell? ⟨B1, 8, none⟩ = some (.int .i64 H) ∧ w.cell? ⟨B1, 9, none⟩ = some (x) ∧ w.cell? ⟨B1, 10, none⟩ = some (r) ∧ w.cell? ⟨B1, 11, none⟩ = some (y)) ∧ w.cell? ⟨B2, 0, none⟩ = some (.int .i64 (k : Int)) ∧ w.cell? ⟨B3, 0, none⟩ = some (.int .i64 z)) ∧ Kp w w := ⟨hb, Kp.refl w⟩
  clear hB ht hok hi hk hb hl
  go_enter Tryz.func65, Tryz.ntmps65
  go_upto_region 1 with (fail)
  have s1 : ((w.drew.cell? ⟨B1, 0, none⟩ = some (.slice At nt ct) ∧ w.drew.cell? ⟨B1, 1, none⟩ = some (.slice Ak nk ck) ∧ w.drew.cell? ⟨B1, 2, none⟩ = some (.int .i64 a) ∧ w.drew.cell? ⟨B1, 3, none⟩ = some (.int .i64 b) ∧ w.drew.cell? ⟨B1, 4, none⟩ = some (.int .i64 c) ∧ w.drew.cell? ⟨B1, 5, none⟩ = some (.int .i64 d) ∧ w.drew.cell? ⟨B1, 6, none⟩ = some (.int .i64 e) ∧ w.drew.cell? ⟨B1, 7, none⟩ = some (.int .i64 W) ∧ w.drew.cell? ⟨B1, 8, none⟩ = some (.int .i64 H) ∧ w.drew.cell? ⟨B1, 9, none⟩ = some (x) ∧ w.drew.cell? ⟨B1, 10, none⟩ = some (r) ∧ w.drew.cell? ⟨B1, 11, none⟩ = some (y)) ∧ w.drew.cell? ⟨B2, 0, none⟩ = some (.int .i64 (k : Int)) ∧ w.drew.cell? ⟨B3, 0, none⟩ = some (.int .i64 z)) ∧ Kp w w.drew := ⟨s0.1, s0.2.drew⟩
  clear s0
  refine wp_region_held_drew (S := (fun w' => ((w'.cell? ⟨B1, 0, none⟩ = some (.slice At nt ct) ∧ w'.cell? ⟨B1, 1, none⟩ = some (.slice Ak nk ck) ∧ w'.cell? ⟨B1, 2, none⟩ = some (.int .i64 a) ∧ w'.cell? ⟨B1, 3, none⟩ = some (.int .i64 b) ∧ w'.cell? ⟨B1, 4, none⟩ = some (.int .i64 c) ∧ w'.cell? ⟨B1, 5, none⟩ = some (.int .i64 d) ∧ w'.cell? ⟨B1, 6, none⟩ = some (.int .i64 e) ∧ w'.cell? ⟨B1, 7, none⟩ = some (.int .i64 W) ∧ w'.cell? ⟨B1, 8, none⟩ = some (.int .i64 H) ∧ w'.cell? ⟨B1, 9, none⟩ = some (x) ∧ w'.cell? ⟨B1, 10, none⟩ = some (r) ∧ w'.cell? ⟨B1, 11, none⟩ = some (y)) ∧ w'.cell? ⟨B2, 0, none⟩ = some (.int .i64 (k : Int)) ∧ w'.cell? ⟨B3, 0, none⟩ = some (.int .i64 z)) ∧ Kp w w')) (by kernel_rfl) ?_ (fun hHeld => ?_)
  · assumption
  generalize w.drew = V at *
  refine wpAnyH_take (i := 0) (oi := ⟨some 6, _, _, _, _, _⟩) (v := ?_) rfl (by kernel_rfl) (by kernel_rfl) (by kernel_rfl) (fun _ _ _ h => h) (Or.inl ⟨by rfl, ?_⟩) (by assumption) ?_
  rotate_left
  · intro w hSw; (try dsimp only at hSw); go_simp; (all_goals with_reducible rfl)
  try simp only [Act.put, List.setIfInBounds_toArray, List.set_cons_zero, List.set_cons_succ]
  refine wpAnyH_take (i := 1) (oi := ⟨some 7, _, _, _, _, _⟩) (v := ?_) rfl (by kernel_rfl) (by kernel_rfl) (by kernel_rfl) (fun _ _ _ h => h) (Or.inl ⟨by rfl, ?_⟩) (by assumption) ?_
  rotate_left
  · intro w hSw; (try dsimp only at hSw); go_simp; (all_goals with_reducible rfl)
  try simp only [Act.put, List.setIfInBounds_toArray, List.set_cons_zero, List.set_cons_succ]
  refine wpAnyH_take (i := 2) (oi := ⟨some 8, _, _, _, _, _⟩) (v := ?_) rfl (by kernel_rfl) (by kernel_rfl) (by kernel_rfl) (fun _ _ _ h => h) (Or.inl ⟨by rfl, ?_⟩) (by assumption) ?_
  rotate_left
  · intro w hSw; (try dsimp only at hSw); go_simp; (all_goals with_reducible rfl)
  try simp only [Act.put, List.setIfInBounds_toArray, List.set_cons_zero, List.set_cons_succ]
  refine wpAnyH_take (i := 4) (oi := ⟨some 10, _, _, _, _, _⟩) (v := ?_) rfl (by kernel_rfl) (by kernel_rfl) (by kernel_rfl) (fun _ _ _ h => h) (Or.inl ⟨by rfl, ?_⟩) (by assumption) ?_
  rotate_left
  · intro w hSw; (try dsimp only at hSw); go_simp; (all_goals with_reducible rfl)
  try simp only [Act.put, List.setIfInBounds_toArray, List.set_cons_zero, List.set_cons_succ]
  refine wpAnyH_ready (rs := [3]) (by kernel_rfl) (by simp) ?_
  refine (AllReadyH.cons (o := ⟨some 9, _, _, _, _, _⟩) rfl (fun K hK => ?_) AllReadyH.nil)
  go_simp
  refine (C1.out _ (HT.out.keep hHeld.2) (HB.out.keep hHeld.2)).mono ?_
  rintro e2 w2 ⟨v2, rfl, o2, k2⟩
  have hS2 : ((w2.cell? ⟨B1, 0, none⟩ = some (.slice At nt ct) ∧ w2.cell? ⟨B1, 1, none⟩ = some (.slice Ak nk ck) ∧ w2.cell? ⟨B1, 2, none⟩ = some (.int .i64 a) ∧ w2.cell? ⟨B1, 3, none⟩ = some (.int .i64 b) ∧ w2.cell? ⟨B1, 4, none⟩ = some (.int .i64 c) ∧ w2.cell? ⟨B1, 5, none⟩ = some (.int .i64 d) ∧ w2.cell? ⟨B1, 6, none⟩ = some (.int .i64 e) ∧ w2.cell? ⟨B1, 7, none⟩ = some (.int .i64 W) ∧ w2.cell? ⟨B1, 8, none⟩ = some (.int .i64 H) ∧ w2.cell? ⟨B1, 9, none⟩ = some (x) ∧ w2.cell? ⟨B1, 10, none⟩ = some (r) ∧ w2.cell? ⟨B1, 11, none⟩ = some (y)) ∧ w2.cell? ⟨B2, 0, none⟩ = some (.int .i64 (k : Int)) ∧ w2.cell? ⟨B3, 0, none⟩ = some (.int .i64 z)) ∧ Kp w w2 := ⟨⟨⟨k2.cell hHeld.1.1.1, k2.cell hHeld.1.1.2.1, k2.cell hHeld.1.1.2.2.1, k2.cell hHeld.1.1.2.2.2.1, k2.cell hHeld.1.1.2.2.2.2.1, k2.cell hHeld.1.1.2.2.2.2.2.1, k2.cell hHeld.1.1.2.2.2.2.2.2.1, k2.cell hHeld.1.1.2.2.2.2.2.2.2.1, k2.cell hHeld.1.1.2.2.2.2.2.2.2.2.1, k2.cell hHeld.1.1.2.2.2.2.2.2.2.2.2.1, k2.cell hHeld.1.1.2.2.2.2.2.2.2.2.2.2.1, k2.cell hHeld.1.1.2.2.2.2.2.2.2.2.2.2.2⟩, k2.cell hHeld.1.2.1, k2.cell hHeld.1.2.2⟩, hHeld.2.trans k2⟩
  have O2 := Lib.hid o2.rd
  clear o2
  go_wp2_with fail
  refine hK.out _ _ ?_ (fun hHeld => ?_)
  · (try dsimp only); (first | assumption)
  clear hK K
  try simp only [Act.put, List.setIfInBounds_toArray, List.set_cons_zero, List.set_cons_succ]
  refine wpAnyH_ready (rs := [5]) (by kernel_rfl) (by simp) ?_
  refine (AllReadyH.cons (o := ⟨some 11, _, _, _, _, _⟩) rfl (fun K hK => ?_) AllReadyH.nil)
  go_simp
  refine (C2.out _ _ O2.out).mono ?_
  rintro e3 w3 ⟨rfl, rfl⟩
  go_wp2_with fail
  refine hK.out _ _ ?_ (fun hHeld => ?_)
  · (try dsimp only); (first | assumption)
  clear hK K
  try simp only [Act.put, List.setIfInBounds_toArray, List.set_cons_zero, List.set_cons_succ]
  refine wpAnyH_take (i := 6) (oi := ⟨some 12, _, _, _, _, _⟩) (v := ?_) rfl (by kernel_rfl) (by kernel_rfl) (by kernel_rfl) (fun _ _ _ h => h) (Or.inl ⟨by rfl, ?_⟩) (by assumption) ?_
  rotate_left
  · intro w hSw; (try dsimp only at hSw); go_simp; (all_goals with_reducible rfl)
  try simp only [Act.put, List.setIfInBounds_toArray, List.set_cons_zero, List.set_cons_succ]
  refine wpAnyH_take (i := 7) (oi := ⟨some 5, _, _, _, _, _⟩) (v := ?_) rfl (by kernel_rfl) (by kernel_rfl) (by kernel_rfl) (fun _ _ _ h => h) (Or.inl ⟨by rfl, ?_⟩) (by assumption) ?_
  rotate_left
  · intro w hSw; (try dsimp only at hSw); go_simp; (all_goals with_reducible rfl)
  try simp only [Act.put, List.setIfInBounds_toArray, List.set_cons_zero, List.set_cons_succ]
  refine wpAnyH_done (by kernel_rfl) ?_ _
  go_wp2_with fail
  go_ret
  exact ⟨rfl, hHeld.2⟩

theorem unseen_any (At Ak : Option Addr) (nt nk ct ck : Nat) (l : List Ter) (m : List Knd) (a b c d e W H : Int) (x r y : Value) (lt lr ld : List Int) (B1 B2 B3 : Nat) (i z k : Int) (w : World) (ht : Tab w) (hB : BrdAt w At Ak nt nk l m x r y lt lr ld) (hok : brdOk ⟨l, m, a, b, c, d, e⟩ W H lt lr ld = true) (hk : inB k nk = true) (hi : onI W H i = true) (hb : SeeAt w B1 B2 B3 At Ak nt nk ct ck a b c d e W H x r y k z) :
    Calls Tryz.prog 65 #[.int .i64 i, .pointer (some ⟨B1, 0, none⟩), .pointer (some ⟨B2, 0, none⟩), .pointer (some ⟨B3, 0, none⟩)] w fun e' w' => e' = .returned (.bool (!hasB (byI l m lt W i k.toNat lt.length) z)) ∧ Kp w w' := by
  obtain ⟨k', rfl, hk'⟩ := inB_at hk
  exact unseen_nat At Ak nt nk ct ck l m a b c d e W H x r y lt lr ld B1 B2 B3 i z k' w ht hB hok (by have := hB.R.rk.1; omega) hi hb
set_option maxRecDepth 100000 in
set_option maxHeartbeats 4000000 in
theorem watchersOfP_any (At Ak : Option Addr) (nt nk ct ck : Nat) (l : List Ter) (m : List Knd) (a b c d e W H : Int) (x r y : Value) (lt lr ld : List Int) (k i : Int) (w : World) (hs : Spans w) (ht : Tab w) (hB : BrdAt w At Ak nt nk l m x r y lt lr ld) :
    Calls Tryz.prog 34 #[bv (.slice At nt ct) (.slice Ak nk ck) a b c d e W H x r y, .int .i64 k, .int .i64 i] w (ListPostI (brdOk ⟨l, m, a, b, c, d, e⟩ W H lt lr ld && inB k nk && onI W H i) (watI l m lt W i k.toNat lt.length) w) := by
  obtain ⟨W3, hW3⟩ : ∃ W3, W3 = (((w.alloc (.cells #[.slice At nt ct, .slice Ak nk ck, .int .i64 a, .int .i64 b, .int .i64 c, .int .i64 d, .int .i64 e, .int .i64 W, .int .i64 H, x, r, y] 41))).alloc (.cells #[.int .i64 k] 3)).alloc (.cells #[.int .i64 i] 3) := ⟨_, rfl⟩
  have k3 : Kp w W3 := by rw [hW3]; exact (((Kp.refl w).alloc _).alloc _).alloc _
  have s3 : SeeAt W3 w.heap.size (w.heap.size + 1) (w.heap.size + 1 + 1) At Ak nt nk ct ck a b c d e W H x r y k i := by
    rw [hW3]
    exact ⟨⟨by simp [go_sem], by simp [go_sem], by simp [go_sem], by simp [go_sem], by simp [go_sem], by simp [go_sem], by simp [go_sem], by simp [go_sem], by simp [go_sem], by simp [go_sem], by simp [go_sem], by simp [go_sem]⟩, by simp [go_sem], by simp [go_sem]⟩
  have C1 := Lib.hid (isKindOn_any At Ak nt nk ct ck l m a b c d e W H x r y lt lr ld k W3 (hs.keep k3) (ht.keep k3) (hB.keep k3))
  have CX : Hid ((brdOk ⟨l, m, a, b, c, d, e⟩ W H lt lr ld && inB k nk) = true → ∀ w, Calls Tryz.prog 61 #[mp W H x r y, .int .i64 i] w fun e w' => e = .returned (.bool (onI W H i)) ∧ Kp w w') := Lib.hid fun h1 w => by
    simp only [Bool.and_eq_true] at h1
    obtain ⟨p1, p2, p3, p4⟩ := mapOk_side (brdOk_map h1.1)
    exact isIndex_any W H x r y i w p1 p2 p3 p4
  have CO : Hid ((brdOk ⟨l, m, a, b, c, d, e⟩ W H lt lr ld && inB k nk) = true → ∀ w, BrdAt w At Ak nt nk l m x r y lt lr ld → Calls Tryz.prog 68 #[bv (.slice At nt ct) (.slice Ak nk ck) a b c d e W H x r y, .int .i64 k] w fun e' w' => ∃ v, e' = .returned v ∧ OwnI w' (w.heap.size + 1) v (opnL l lt k.toNat lt.length) ∧ Kp w w') := Lib.hid fun h1 w hB => by
    simp only [Bool.and_eq_true] at h1
    obtain ⟨k', rfl, hk'⟩ := inB_at h1.2
    exact openHexes_any At Ak nt nk ct ck l m a b c d e W H x r y lt lr ld k' w hB h1.1 (by have := hB.R.rk.1; omega)
  have HP : Hid ((brdOk ⟨l, m, a, b, c, d, e⟩ W H lt lr ld && inB k nk) = true → ∀ z ∈ opnL l lt k.toNat lt.length, ∀ w2, Kp W3 w2 → Calls Tryz.prog 65 (#[.int .i64 z] ++ #[.pointer (some ⟨w.heap.size, 0, none⟩), .pointer (some ⟨w.heap.size + 1, 0, none⟩), .pointer (some ⟨w.heap.size + 1 + 1, 0, none⟩)]) w2 fun e' w' => e' = .returned (.bool (!hasB (byI l m lt W z k.toNat lt.length) i)) ∧ Kp w2 w') := Lib.hid fun h1 z hz w2 k2 => by
    simp only [Bool.and_eq_true] at h1
    obtain ⟨j, hj, rfl⟩ := opnL_mem hz
    exact unseen_any At Ak nt nk ct ck l m a b c d e W H x r y lt lr ld w.heap.size (w.heap.size + 1) (w.heap.size + 1 + 1) j i k w2 (ht.keep (k3.trans k2)) (hB.keep (k3.trans k2)) h1.1 h1.2 (onI_of (mapOk_len (brdOk_map h1.1)) hj) (s3.keep k2)
  have HW : Hid (watI l m lt W i k.toNat lt.length = (opnL l lt k.toNat lt.length).filter fun z => !(!hasB (byI l m lt W z k.toNat lt.length) i)) := Lib.hid (by
    unfold watI
    congr 1
    funext z
    rw [Bool.not_not]
    rfl)
  have hl : (opnL l lt k.toNat lt.length).length ≤ 1048576 := by
    have := filN_len (opnB l lt k.toNat) lt.length
    have := hB.L.bt
    unfold opnL
    omega
  rw [HW.out]
  have S3 := Lib.hid s3
  have K3 := Lib.hid k3
  have HB := Lib.hid hB
  generalize opnL l lt k.toNat lt.length = L at CO HP hl ⊢
  clear hs ht hB HW s3 k3
  cases hp : (brdOk ⟨l, m, a, b, c, d, e⟩ W H lt lr ld && inB k nk)
  · rw [hp] at C1
    clear CX CO HP hl
    go_enter Tryz.func34, Tryz.ntmps34
    go_upto_region 1 with (fail)
    rw [← hW3]
    obtain ⟨g1, g2, g3⟩ := S3.out
    clear hW3
    go_wp2_with fail
    refine C1.out.mono ?_
    rintro e1 w1 ⟨rfl, k1⟩
    go_wp2_with fail
    go_ret2
    exact ListPostI.no (K3.out.trans k1)
  · rw [hp] at C1
    have CX2 := Lib.hid (CX.out hp)
    have CO2 := Lib.hid (CO.out hp)
    have HP2 := Lib.hid (HP.out hp)
    clear CX CO HP
    cases hq : onI W H i
    · rw [hq] at CX2
      clear hp hq hl HP2 CO2
      go_enter Tryz.func34, Tryz.ntmps34
      go_upto_region 1 with (fail)
      rw [← hW3]
      obtain ⟨g1, g2, g3⟩ := S3.out
      clear hW3
      go_wp2_with fail
      refine C1.out.mono ?_
      rintro e1 w1 ⟨rfl, k1⟩
      clear g1 g2 g3
      obtain ⟨g1, g2, g3⟩ := S3.out.keep k1
      go_wp2_with fail
      refine (CX2.out _).mono ?_
      rintro e2 w2 ⟨rfl, k2⟩
      go_wp2_with fail
      go_ret2
      exact ListPostI.no ((K3.out.trans k1).trans k2)
    · rw [hq] at CX2
      clear hp hq
      go_enter Tryz.func34, Tryz.ntmps34
      go_upto_region 1 with (fail)
      rw [← hW3]
      obtain ⟨g1, g2, g3⟩ := S3.out
      clear hW3
      go_wp2_with fail
      refine C1.out.mono ?_
      rintro e1 w1 ⟨rfl, k1⟩
      clear g1 g2 g3
      obtain ⟨g1, g2, g3⟩ := S3.out.keep k1
      go_wp2_with fail
      refine (CX2.out _).mono ?_
      rintro e2 w2 ⟨rfl, k2⟩
      clear g1 g2 g3
      obtain ⟨g1, g2, g3⟩ := S3.out.keep (k1.trans k2)
      go_wp2_with fail
      refine (CO2.out _ (HB.out.keep (K3.out.trans (k1.trans k2)))).mono ?_
      rintro e4 w4 ⟨v, rfl, o4, k4⟩
      have hz : W3.heap.size ≤ w2.heap.size + 1 := by have := (k1.trans k2).size; omega
      have CD := Lib.hid (deleteFunc_W #[.pointer (some ⟨w.heap.size, 0, none⟩), .pointer (some ⟨w.heap.size + 1, 0, none⟩), .pointer (some ⟨w.heap.size + 1 + 1, 0, none⟩)] (fun z => !hasB (byI l m lt W z k.toNat lt.length) i) L v (w2.heap.size + 1) W3 w4 HP2.out ((k1.trans k2).trans k4) o4 hz hl)
      clear g1 g2 g3 o4
      go_wp2_with fail
      refine CD.out.mono ?_
      rintro e5 w5 ⟨v5, rfl, o5, k5⟩
      have O5 := Lib.hid (o5.base (show w.heap.size ≤ w2.heap.size + 1 by have := K3.out.size; omega))
      clear o5
      go_wp2_with fail
      go_ret2
      exact ⟨_, rfl, O5.out, K3.out.trans k5⟩

set_option maxRecDepth 100000 in
set_option maxHeartbeats 4000000 in
theorem specWatchersOf_any (At Ak : Option Addr) (nt nk ct ck : Nat) (l : List Ter) (m : List Knd) (a b c d e W H : Int) (x r y : Value) (lt lr ld : List Int) (k i : Int) (w : World) (hB : BrdAt w At Ak nt nk l m x r y lt lr ld) :
    Calls Tryz.prog 33 #[bv (.slice At nt ct) (.slice Ak nk ck) a b c d e W H x r y, .int .i64 k, .int .i64 i] w (ListPostI (brdOk ⟨l, m, a, b, c, d, e⟩ W H lt lr ld && inB k nk && onI W H i) (watI l m lt W i k.toNat lt.length) w) := by
  obtain ⟨g, hg⟩ : ∃ g : Int → List Int, g = fun z => byI l m lt W z k.toNat lt.length := ⟨_, rfl⟩
  have s0 : (w.alloc (.cells #[.slice At nt ct, .slice Ak nk ck, .int .i64 a, .int .i64 b, .int .i64 c, .int .i64 d, .int .i64 e, .int .i64 W, .int .i64 H, x, r, y] 41)).cell? ⟨w.heap.size, 0, none⟩ = some (.slice At nt ct) ∧ (w.alloc (.cells #[.slice At nt ct, .slice Ak nk ck, .int .i64 a, .int .i64 b, .int .i64 c, .int .i64 d, .int .i64 e, .int .i64 W, .int .i64 H, x, r, y] 41)).cell? ⟨w.heap.size, 1, none⟩ = some (.slice Ak nk ck) ∧ (w.alloc (.cells #[.slice At nt ct, .slice Ak nk ck, .int .i64 a, .int .i64 b, .int .i64 c, .int .i64 d, .int .i64 e, .int .i64 W, .int .i64 H, x, r, y] 41)).cell? ⟨w.heap.size, 2, none⟩ = some (.int .i64 a) ∧ (w.alloc (.cells #[.slice At nt ct, .slice Ak nk ck, .int .i64 a, .int .i64 b, .int .i64 c, .int .i64 d, .int .i64 e, .int .i64 W, .int .i64 H, x, r, y] 41)).cell? ⟨w.heap.size, 3, none⟩ = some (.int .i64 b) ∧ (w.alloc (.cells #[.slice At nt ct, .slice Ak nk ck, .int .i64 a, .int .i64 b, .int .i64 c, .int .i64 d, .int .i64 e, .int .i64 W, .int .i64 H, x, r, y] 41)).cell? ⟨w.heap.size, 4, none⟩ = some (.int .i64 c) ∧ (w.alloc (.cells #[.slice At nt ct, .slice Ak nk ck, .int .i64 a, .int .i64 b, .int .i64 c, .int .i64 d, .int .i64 e, .int .i64 W, .int .i64 H, x, r, y] 41)).cell? ⟨w.heap.size, 5, none⟩ = some (.int .i64 d) ∧ (w.alloc (.cells #[.slice At nt ct, .slice Ak nk ck, .int .i64 a, .int .i64 b, .int .i64 c, .int .i64 d, .int .i64 e, .int .i64 W, .int .i64 H, x, r, y] 41)).cell? ⟨w.heap.size, 6, none⟩ = some (.int .i64 e) ∧ (w.alloc (.cells #[.slice At nt ct, .slice Ak nk ck, .int .i64 a, .int .i64 b, .int .i64 c, .int .i64 d, .int .i64 e, .int .i64 W, .int .i64 H, x, r, y] 41)).cell? ⟨w.heap.size, 7, none⟩ = some (.int .i64 W) ∧ (w.alloc (.cells #[.slice At nt ct, .slice Ak nk ck, .int .i64 a, .int .i64 b, .int .i64 c, .int .i64 d, .int .i64 e, .int .i64 W, .int .i64 H, x, r, y] 41)).cell? ⟨w.heap.size, 8, none⟩ = some (.int .i64 H) ∧ (w.alloc (.cells #[.slice At nt ct, .slice Ak nk ck, .int .i64 a, .int .i64 b, .int .i64 c, .int .i64 d, .int .i64 e, .int .i64 W, .int .i64 H, x, r, y] 41)).cell? ⟨w.heap.size, 9, none⟩ = some (x) ∧ (w.alloc (.cells #[.slice At nt ct, .slice Ak nk ck, .int .i64 a, .int .i64 b, .int .i64 c, .int .i64 d, .int .i64 e, .int .i64 W, .int .i64 H, x, r, y] 41)).cell? ⟨w.heap.size, 10, none⟩ = some (r) ∧ (w.alloc (.cells #[.slice At nt ct, .slice Ak nk ck, .int .i64 a, .int .i64 b, .int .i64 c, .int .i64 d, .int .i64 e, .int .i64 W, .int .i64 H, x, r, y] 41)).cell? ⟨w.heap.size, 11, none⟩ = some (y) ∧ Kp w (w.alloc (.cells #[.slice At nt ct, .slice Ak nk ck, .int .i64 a, .int .i64 b, .int .i64 c, .int .i64 d, .int .i64 e, .int .i64 W, .int .i64 H, x, r, y] 41)) := ⟨by simp [go_sem], by simp [go_sem], by simp [go_sem], by simp [go_sem], by simp [go_sem], by simp [go_sem], by simp [go_sem], by simp [go_sem], by simp [go_sem], by simp [go_sem], by simp [go_sem], by simp [go_sem], (Kp.refl w).alloc _⟩
  have HB := Lib.hid hB
  have C1 := Lib.hid (fun (w : World) hB => bAt_any At Ak nt nk ct ck l m a b c d e W H x r y lt lr ld k i w hB)
  have CO : Hid ((brdOk ⟨l, m, a, b, c, d, e⟩ W H lt lr ld && inB k nk && onI W H i) = true → ∀ w, BrdAt w At Ak nt nk l m x r y lt lr ld → Calls Tryz.prog 63 #[bv (.slice At nt ct) (.slice Ak nk ck) a b c d e W H x r y, .int .i64 k] w fun e' w' => ∃ v, e' = .returned v ∧ OwnI w' (w.heap.size + 1) v (opnL l lt k.toNat lt.length) ∧ Kp w w') := Lib.hid fun h1 w hB => by
    simp only [Bool.and_eq_true] at h1
    obtain ⟨k', rfl, hk'⟩ := inB_at h1.1.2
    exact bOpen_any At Ak nt nk ct ck l m a b c d e W H x r y lt lr ld k' w hB h1.1.1 (by have := hB.R.rk.1; omega)
  have CV : Hid ((brdOk ⟨l, m, a, b, c, d, e⟩ W H lt lr ld && inB k nk && onI W H i) = true → ∀ z ∈ opnL l lt k.toNat lt.length, ∀ w, BrdAt w At Ak nt nk l m x r y lt lr ld → Calls Tryz.prog 59 #[bv (.slice At nt ct) (.slice Ak nk ck) a b c d e W H x r y, .int .i64 k, .int .i64 z] w fun e' w' => ∃ v, e' = .returned v ∧ RdI w' v (g z) ∧ Kp w w') := Lib.hid fun h1 z hz w hB => by
    simp only [Bool.and_eq_true] at h1
    rw [hg]
    obtain ⟨k', rfl, hk'⟩ := inB_at h1.1.2
    obtain ⟨j, hj, rfl⟩ := opnL_mem hz
    exact (vBy_any At Ak nt nk ct ck l m a b c d e W H x r y lt lr ld k' j w hB h1.1.1 (by have := hB.R.rk.1; omega) (onI_of (mapOk_len (brdOk_map h1.1.1)) hj)).mono fun _ _ ⟨v, h2, h3, h4⟩ => ⟨v, h2, h3.rd, h4⟩
  have CH : Hid (∀ (z : Int) (v : Value) (w : World), RdI w v (g z) → Calls Tryz.prog 64 #[v, .int .i64 i] w fun e w' => e = .returned (.bool (hasB (g z) i)) ∧ w = w') := Lib.hid fun z v w h => l1Has_any v _ i w h (by
    have := seenI_len l lt W z (viewK m k.toNat) 1 lt.length
    have := hB.L.bt
    rw [hg]
    show (seenI l lt W z (viewK m k.toNat) 1 lt.length).length ≤ 1048576
    omega)
  have hl : (brdOk ⟨l, m, a, b, c, d, e⟩ W H lt lr ld && inB k nk && onI W H i) = true → (opnL l lt k.toNat lt.length).length ≤ 100 := fun h1 => by
    simp only [Bool.and_eq_true] at h1
    have hh := h1.1.1
    obtain ⟨g1, g2, g3, g4⟩ := mapOk_side (brdOk_map hh)
    have hA := area_bd g1 g2 g3 g4
    have hlen := mapOk_len (brdOk_map hh)
    have := filN_len (opnB l lt k.toNat) lt.length
    unfold opnL
    omega
  have HW : Hid (watI l m lt W i k.toNat lt.length = (opnL l lt k.toNat lt.length).filter fun z => hasB (g z) i) := Lib.hid (by rw [hg]; rfl)
  rw [HW.out]
  clear HW hB hg
  generalize opnL l lt k.toNat lt.length = L at CO CV hl ⊢
  cases hp : (brdOk ⟨l, m, a, b, c, d, e⟩ W H lt lr ld && inB k nk && onI W H i)
  · rw [hp] at C1
    clear CV CH CO hl
    go_enter Tryz.func33, Tryz.ntmps33
    go_wp2_with fail
    refine (C1.out _ (HB.out.keep s0.2.2.2.2.2.2.2.2.2.2.2.2)).mono ?_
    rintro e1 w1 ⟨rfl, k1⟩
    go_wp2_with fail
    go_ret2
    exact ListPostI.no (s0.2.2.2.2.2.2.2.2.2.2.2.2.trans k1)
  · rw [hp] at C1
    have CV2 := Lib.hid (CV.out hp)
    have CO2 := Lib.hid (CO.out hp)
    have hl0 := hl hp
    obtain ⟨n, hn'⟩ : ∃ n, n = L.length := ⟨_, rfl⟩
    have HN := Lib.hid hn'
    have hl2 : n ≤ 100 := by omega
    have HLL : Hid (L.length ≤ 100) := Lib.hid hl0
    obtain ⟨j0, hj0, hz0, hs0, hb0⟩ := info_parts infoInt
    clear hp hl CV CO hn' hl0
    go_enter Tryz.func33, Tryz.ntmps33
    go_wp2_with fail
    refine (C1.out _ (HB.out.keep s0.2.2.2.2.2.2.2.2.2.2.2.2)).mono ?_
    rintro e1 w1 ⟨rfl, k1⟩
    have s1 := keep12k k1 s0
    clear s0 k1
    go_wp2_with fail
    refine (CO2.out _ (HB.out.keep s1.2.2.2.2.2.2.2.2.2.2.2.2)).mono ?_
    rintro e2 w2 ⟨v, rfl, o2, k2⟩
    have s2 := keep12k k2 s1
    obtain ⟨A1, c1, rfl, hv⟩ := o2.rd
    rw [← HN.out] at hv ⊢
    have HV := Lib.hid hv
    have s3 : w2.cell? ⟨w.heap.size, 0, none⟩ = some (.slice At nt ct) ∧ w2.cell? ⟨w.heap.size, 1, none⟩ = some (.slice Ak nk ck) ∧ w2.cell? ⟨w.heap.size, 2, none⟩ = some (.int .i64 a) ∧ w2.cell? ⟨w.heap.size, 3, none⟩ = some (.int .i64 b) ∧ w2.cell? ⟨w.heap.size, 4, none⟩ = some (.int .i64 c) ∧ w2.cell? ⟨w.heap.size, 5, none⟩ = some (.int .i64 d) ∧ w2.cell? ⟨w.heap.size, 6, none⟩ = some (.int .i64 e) ∧ w2.cell? ⟨w.heap.size, 7, none⟩ = some (.int .i64 W) ∧ w2.cell? ⟨w.heap.size, 8, none⟩ = some (.int .i64 H) ∧ w2.cell? ⟨w.heap.size, 9, none⟩ = some (x) ∧ w2.cell? ⟨w.heap.size, 10, none⟩ = some (r) ∧ w2.cell? ⟨w.heap.size, 11, none⟩ = some (y) ∧ Kp w2 w2 := ⟨s2.1, s2.2.1, s2.2.2.1, s2.2.2.2.1, s2.2.2.2.2.1, s2.2.2.2.2.2.1, s2.2.2.2.2.2.2.1, s2.2.2.2.2.2.2.2.1, s2.2.2.2.2.2.2.2.2.1, s2.2.2.2.2.2.2.2.2.2.1, s2.2.2.2.2.2.2.2.2.2.2.1, s2.2.2.2.2.2.2.2.2.2.2.2.1, Kp.refl w2⟩
    have K02 := s2.2.2.2.2.2.2.2.2.2.2.2.2
    have hz2 := cellB s2.1
    simp only at hz2
    clear s1 k2 o2 hv s2
    go_wp2_with fail
    go_loopw [8, 10, 20] (fun v8 _ s20 wr => ∃ q : Nat, q ≤ n ∧ s20 = .int .i64 q ∧ OwnI wr w2.heap.size v8 ((L.take q).filter fun z => hasB (g z) i) ∧ wr.cell? ⟨w.heap.size, 0, none⟩ = some (.slice At nt ct) ∧ wr.cell? ⟨w.heap.size, 1, none⟩ = some (.slice Ak nk ck) ∧ wr.cell? ⟨w.heap.size, 2, none⟩ = some (.int .i64 a) ∧ wr.cell? ⟨w.heap.size, 3, none⟩ = some (.int .i64 b) ∧ wr.cell? ⟨w.heap.size, 4, none⟩ = some (.int .i64 c) ∧ wr.cell? ⟨w.heap.size, 5, none⟩ = some (.int .i64 d) ∧ wr.cell? ⟨w.heap.size, 6, none⟩ = some (.int .i64 e) ∧ wr.cell? ⟨w.heap.size, 7, none⟩ = some (.int .i64 W) ∧ wr.cell? ⟨w.heap.size, 8, none⟩ = some (.int .i64 H) ∧ wr.cell? ⟨w.heap.size, 9, none⟩ = some (x) ∧ wr.cell? ⟨w.heap.size, 10, none⟩ = some (r) ∧ wr.cell? ⟨w.heap.size, 11, none⟩ = some (y) ∧ Kp w2 wr) (fun _ _ s20 _ => n - (intOf s20).toNat)
    case atStart => exact ⟨0, by omega, rfl, OwnI.nil _ _, s3⟩
    case round =>
      clear s3
      obtain ⟨q, hqn, rfl, hoR, sr⟩ := hrel
      by_cases hlt : q < n
      · have hlt' : (q : Int) < n := by omega
        obtain ⟨g0, off, rfl, hc⟩ := HV.out (by omega)
        obtain ⟨z, hz⟩ : ∃ z, L[q]? = some z := ⟨L[q]'(by have := HN.out; omega), List.getElem?_eq_getElem _⟩
        have a0 := sr.2.2.2.2.2.2.2.2.2.2.2.2.cell (hc q z hz)
        have CZ := Lib.hid (CV2.out z (List.mem_of_getElem? hz))
        have CQ := Lib.hid (CH.out z)
        have HZ := Lib.hid hz
        clear hc hz
        cases hle : hasB (g z) i
        · have HS := Lib.hid (filter_take_no (f := fun z => hasB (g z) i) HZ.out hle)
          rw [hle] at CQ
          generalize g z = X at CZ CQ
          have HO := Lib.hid hoR
          clear hoR hle
          go_wp2_with fail
          refine (CZ.out _ (HB.out.keep (K02.trans sr.2.2.2.2.2.2.2.2.2.2.2.2))).mono ?_
          rintro e3 w4 ⟨vv, rfl, o3, k4⟩
          have s4 := keep12k k4 sr
          have O1 := Lib.hid (HO.out.keep k4)
          have O3 := Lib.hid o3
          clear k4 sr HO a0 o3
          go_wp2_with fail
          refine (CQ.out _ _ O3.out).mono ?_
          rintro e4 w5 ⟨rfl, rfl⟩
          go_wp2_with fail
          go_roundw
          case rel => exact ⟨q + 1, by omega, by go_num, by rw [HS.out]; exact O1.out, s4⟩
          case measure => simp [intOf]; omega
        · have HS := Lib.hid (filter_take_yes (f := fun z => hasB (g z) i) HZ.out hle)
          have hln : Hid (((L.take q).filter fun z => hasB (g z) i).length ≤ 100) := Lib.hid (Nat.le_trans (filter_take_len _ L q) HLL.out)
          rw [hle] at CQ
          generalize g z = X at CZ CQ
          have HO := Lib.hid hoR
          clear hoR hle
          go_wp2_with fail
          refine (CZ.out _ (HB.out.keep (K02.trans sr.2.2.2.2.2.2.2.2.2.2.2.2))).mono ?_
          rintro e3 w4 ⟨vv, rfl, o3, k4⟩
          have s4 := keep12k k4 sr
          have O1 := Lib.hid (HO.out.keep k4)
          have O3 := Lib.hid o3
          have n1 := Lib.hid (O1.out.not (g := w.heap.size) (by omega))
          have hz4 := s4.2.2.2.2.2.2.2.2.2.2.2.2.size
          clear k4 sr HO a0 o3
          go_wp2_with fail
          refine (CQ.out _ _ O3.out).mono ?_
          rintro e4 w5 ⟨rfl, rfl⟩
          go_wp2_with (at_builtin; refine wpList_append_own_at _ rfl (.tmp 30) (.tmp 32) 26 rfl (w2.heap.size) 3 j0 (.int .i64 0) 1 8 Tryz.underlying26 hj0 hz0 hs0 hb0 rfl (by decide) _ ((L.take q).filter fun z => hasB (g z) i).length (cellsI ((L.take q).filter fun z => hasB (g z) i)) rfl (World.ownsRow.alloc O1.out _) ⟨w4.heap.size, 0, none⟩ 1 1 [.int .i64 z] rfl rfl (one_cell _ _ _) (by simp [Value.oneCell']) (by have := hln.out; simp only [maxLen]; omega) (by have := hln.out; omega) (by simp; omega) ?_; intro v' w3 hown2 hgrow2 hnil2 hat2; clear hnil2 hat2; have s9 := keep12k ((Kp.refl w4).alloc (.cells #[.int .i64 z] 3)) s4; have s10 := grow12k hgrow2 (fun e => n1.out e.symm) (fun k e => (World.ownsRow.lt O1.out k e).1) s9; have O4 := Lib.hid (OwnI.snoc (x := z) hown2); clear s9; clear hown2 hgrow2)
          go_roundw
          case rel => exact ⟨q + 1, by omega, by go_num, by rw [HS.out]; exact O4.out, s10⟩
          case measure => simp [intOf]; omega
      · obtain rfl : q = n := by omega
        rw [show L.take q = L by rw [HN.out, List.take_length]] at hoR
        go_wp2_with fail
        go_ret2
        exact ⟨_, rfl, hoR.base K02.size, K02.trans sr.2.2.2.2.2.2.2.2.2.2.2.2⟩

def LookPost (ok : Bool) (p : Int × Int) (w : World) (e : Ending) (w' : World) : Prop := e = .returned (.tuple #[.int .i64 (vI ok p.1), .int .i64 (vI ok p.2), .bool ok]) ∧ Kp w w'
theorem LookPost.no {p : Int × Int} {w w' : World} (k : Kp w w') : LookPost false p w (.returned (.tuple #[.int .i64 0, .int .i64 0, .bool false])) w' := ⟨rfl, k⟩
theorem LookPost.yes {b m : Int} {w w' : World} (k : Kp w w') : LookPost true (b, m) w (.returned (.tuple #[.int .i64 b, .int .i64 m, .bool true])) w' := ⟨rfl, k⟩
theorem look_start {l : List Ter} {m : List Knd} {a b c d e W H : Int} {lt lr ld : List Int} {nk : Nat} {k : Int} (h : (brdOk ⟨l, m, a, b, c, d, e⟩ W H lt lr ld && inB k nk) = true) (f : Int → Int) (hf : f = byN l m lt W k.toNat lt.length) : (opnL l lt k.toNat lt.length = [] ∧ lkF f (opnL l lt k.toNat lt.length) (0, 0) = (0, 0)) ∨ (opnL l lt k.toNat lt.length ≠ [] ∧ lkF f (opnL l lt k.toNat lt.length) (0, -1) = lkF f (opnL l lt k.toNat lt.length) (0, 0) ∧ 0 < (lkF f (opnL l lt k.toNat lt.length) (0, 0)).2) := by
  simp only [Bool.and_eq_true] at h
  rw [hf]
  exact lkF_start (byN_pos h.1 _ _)

set_option maxRecDepth 100000 in
set_option maxHeartbeats 4000000 in
theorem bestLookoutP_any (At Ak : Option Addr) (nt nk ct ck : Nat) (l : List Ter) (m : List Knd) (a b c d e W H : Int) (x r y : Value) (lt lr ld : List Int) (k : Int) (w : World) (hs : Spans w) (ht : Tab w) (hB : BrdAt w At Ak nt nk l m x r y lt lr ld) :
    Calls Tryz.prog 36 #[bv (.slice At nt ct) (.slice Ak nk ck) a b c d e W H x r y, .int .i64 k] w (LookPost ((brdOk ⟨l, m, a, b, c, d, e⟩ W H lt lr ld && inB k nk) && decide (0 < (lkI l m lt W k.toNat lt.length).2)) (lkI l m lt W k.toNat lt.length) w) := by
  obtain ⟨f, hf⟩ : ∃ f : Int → Int, f = byN l m lt W k.toNat lt.length := ⟨_, rfl⟩
  have s0 : (w.alloc (.cells #[.slice At nt ct, .slice Ak nk ck, .int .i64 a, .int .i64 b, .int .i64 c, .int .i64 d, .int .i64 e, .int .i64 W, .int .i64 H, x, r, y] 41)).cell? ⟨w.heap.size, 0, none⟩ = some (.slice At nt ct) ∧ (w.alloc (.cells #[.slice At nt ct, .slice Ak nk ck, .int .i64 a, .int .i64 b, .int .i64 c, .int .i64 d, .int .i64 e, .int .i64 W, .int .i64 H, x, r, y] 41)).cell? ⟨w.heap.size, 1, none⟩ = some (.slice Ak nk ck) ∧ (w.alloc (.cells #[.slice At nt ct, .slice Ak nk ck, .int .i64 a, .int .i64 b, .int .i64 c, .int .i64 d, .int .i64 e, .int .i64 W, .int .i64 H, x, r, y] 41)).cell? ⟨w.heap.size, 2, none⟩ = some (.int .i64 a) ∧ (w.alloc (.cells #[.slice At nt ct, .slice Ak nk ck, .int .i64 a, .int .i64 b, .int .i64 c, .int .i64 d, .int .i64 e, .int .i64 W, .int .i64 H, x, r, y] 41)).cell? ⟨w.heap.size, 3, none⟩ = some (.int .i64 b) ∧ (w.alloc (.cells #[.slice At nt ct, .slice Ak nk ck, .int .i64 a, .int .i64 b, .int .i64 c, .int .i64 d, .int .i64 e, .int .i64 W, .int .i64 H, x, r, y] 41)).cell? ⟨w.heap.size, 4, none⟩ = some (.int .i64 c) ∧ (w.alloc (.cells #[.slice At nt ct, .slice Ak nk ck, .int .i64 a, .int .i64 b, .int .i64 c, .int .i64 d, .int .i64 e, .int .i64 W, .int .i64 H, x, r, y] 41)).cell? ⟨w.heap.size, 5, none⟩ = some (.int .i64 d) ∧ (w.alloc (.cells #[.slice At nt ct, .slice Ak nk ck, .int .i64 a, .int .i64 b, .int .i64 c, .int .i64 d, .int .i64 e, .int .i64 W, .int .i64 H, x, r, y] 41)).cell? ⟨w.heap.size, 6, none⟩ = some (.int .i64 e) ∧ (w.alloc (.cells #[.slice At nt ct, .slice Ak nk ck, .int .i64 a, .int .i64 b, .int .i64 c, .int .i64 d, .int .i64 e, .int .i64 W, .int .i64 H, x, r, y] 41)).cell? ⟨w.heap.size, 7, none⟩ = some (.int .i64 W) ∧ (w.alloc (.cells #[.slice At nt ct, .slice Ak nk ck, .int .i64 a, .int .i64 b, .int .i64 c, .int .i64 d, .int .i64 e, .int .i64 W, .int .i64 H, x, r, y] 41)).cell? ⟨w.heap.size, 8, none⟩ = some (.int .i64 H) ∧ (w.alloc (.cells #[.slice At nt ct, .slice Ak nk ck, .int .i64 a, .int .i64 b, .int .i64 c, .int .i64 d, .int .i64 e, .int .i64 W, .int .i64 H, x, r, y] 41)).cell? ⟨w.heap.size, 9, none⟩ = some (x) ∧ (w.alloc (.cells #[.slice At nt ct, .slice Ak nk ck, .int .i64 a, .int .i64 b, .int .i64 c, .int .i64 d, .int .i64 e, .int .i64 W, .int .i64 H, x, r, y] 41)).cell? ⟨w.heap.size, 10, none⟩ = some (r) ∧ (w.alloc (.cells #[.slice At nt ct, .slice Ak nk ck, .int .i64 a, .int .i64 b, .int .i64 c, .int .i64 d, .int .i64 e, .int .i64 W, .int .i64 H, x, r, y] 41)).cell? ⟨w.heap.size, 11, none⟩ = some (y) ∧ Kp w (w.alloc (.cells #[.slice At nt ct, .slice Ak nk ck, .int .i64 a, .int .i64 b, .int .i64 c, .int .i64 d, .int .i64 e, .int .i64 W, .int .i64 H, x, r, y] 41)) := ⟨by simp [go_sem], by simp [go_sem], by simp [go_sem], by simp [go_sem], by simp [go_sem], by simp [go_sem], by simp [go_sem], by simp [go_sem], by simp [go_sem], by simp [go_sem], by simp [go_sem], by simp [go_sem], (Kp.refl w).alloc _⟩
  have HB := Lib.hid hB
  have HT := Lib.hid ht
  have HS := Lib.hid hs
  have C1 := Lib.hid (fun (w : World) hs ht hB => isKindOn_any At Ak nt nk ct ck l m a b c d e W H x r y lt lr ld k w hs ht hB)
  have CO : Hid ((brdOk ⟨l, m, a, b, c, d, e⟩ W H lt lr ld && inB k nk) = true → ∀ w, BrdAt w At Ak nt nk l m x r y lt lr ld → Calls Tryz.prog 68 #[bv (.slice At nt ct) (.slice Ak nk ck) a b c d e W H x r y, .int .i64 k] w fun e' w' => ∃ v, e' = .returned v ∧ OwnI w' (w.heap.size + 1) v (opnL l lt k.toNat lt.length) ∧ Kp w w') := Lib.hid fun h1 w hB => by
    simp only [Bool.and_eq_true] at h1
    obtain ⟨k', rfl, hk'⟩ := inB_at h1.2
    exact openHexes_any At Ak nt nk ct ck l m a b c d e W H x r y lt lr ld k' w hB h1.1 (by have := hB.R.rk.1; omega)
  have CV : Hid ((brdOk ⟨l, m, a, b, c, d, e⟩ W H lt lr ld && inB k nk) = true → ∀ z ∈ opnL l lt k.toNat lt.length, ∀ w, Tab w → BrdAt w At Ak nt nk l m x r y lt lr ld → Calls Tryz.prog 62 #[bv (.slice At nt ct) (.slice Ak nk ck) a b c d e W H x r y, .int .i64 k, .int .i64 z] w fun e' w' => ∃ A c N, e' = .returned (.slice A N c) ∧ (N : Int) = f z ∧ Kp w w') := Lib.hid fun h1 z hz w ht hB => by
    simp only [Bool.and_eq_true] at h1
    rw [hf]
    obtain ⟨k', rfl, hk'⟩ := inB_at h1.2
    obtain ⟨j, hj, rfl⟩ := opnL_mem hz
    exact (seenBy_any At Ak nt nk ct ck l m a b c d e W H x r y lt lr ld k' j w ht hB h1.1 (by have := hB.R.rk.1; omega) (onI_of (mapOk_len (brdOk_map h1.1)) hj)).mono fun _ _ ⟨v, h2, h3, h4⟩ => by
      obtain ⟨A, cc, e2⟩ := h3.slice
      exact ⟨A, cc, (byI l m lt W (j : Int) k' lt.length).length, by rw [h2, e2], rfl, h4⟩
  have hl : (brdOk ⟨l, m, a, b, c, d, e⟩ W H lt lr ld && inB k nk) = true → (opnL l lt k.toNat lt.length).length ≤ 100 := fun h1 => by
    simp only [Bool.and_eq_true] at h1
    have hh := h1.1
    obtain ⟨g1, g2, g3, g4⟩ := mapOk_side (brdOk_map hh)
    have hA := area_bd g1 g2 g3 g4
    have hlen := mapOk_len (brdOk_map hh)
    have := filN_len (opnB l lt k.toNat) lt.length
    unfold opnL
    omega
  have HK : Hid ((brdOk ⟨l, m, a, b, c, d, e⟩ W H lt lr ld && inB k nk) = true → (opnL l lt k.toNat lt.length = [] ∧ lkF f (opnL l lt k.toNat lt.length) (0, 0) = (0, 0)) ∨ (opnL l lt k.toNat lt.length ≠ [] ∧ lkF f (opnL l lt k.toNat lt.length) (0, -1) = lkF f (opnL l lt k.toNat lt.length) (0, 0) ∧ 0 < (lkF f (opnL l lt k.toNat lt.length) (0, 0)).2)) := Lib.hid fun h => look_start h f hf
  have HW : Hid (lkI l m lt W k.toNat lt.length = lkF f (opnL l lt k.toNat lt.length) (0, 0)) := Lib.hid (by rw [hf]; rfl)
  rw [HW.out]
  clear HW hB hf hs ht
  generalize opnL l lt k.toNat lt.length = L at CO CV hl HK ⊢
  cases hp : (brdOk ⟨l, m, a, b, c, d, e⟩ W H lt lr ld && inB k nk)
  · rw [hp] at C1
    rw [Bool.false_and]
    clear CV CO hl HK
    go_enter Tryz.func36, Tryz.ntmps36
    go_wp2_with fail
    refine (C1.out _ (HS.out.keep s0.2.2.2.2.2.2.2.2.2.2.2.2) (HT.out.keep s0.2.2.2.2.2.2.2.2.2.2.2.2) (HB.out.keep s0.2.2.2.2.2.2.2.2.2.2.2.2)).mono ?_
    rintro e1 w1 ⟨rfl, k1⟩
    go_wp2_with fail
    go_ret3
    exact LookPost.no (s0.2.2.2.2.2.2.2.2.2.2.2.2.trans k1)
  · rw [hp] at C1
    rw [Bool.true_and]
    have CV2 := Lib.hid (CV.out hp)
    have CO2 := Lib.hid (CO.out hp)
    have HK2 := Lib.hid (HK.out hp)
    have hl0 := hl hp
    obtain ⟨n, hn'⟩ : ∃ n, n = L.length := ⟨_, rfl⟩
    have HN := Lib.hid hn'
    have hl2 : n ≤ 100 := by omega
    clear hp hl CV CO hn' hl0 HK
    go_enter Tryz.func36, Tryz.ntmps36
    go_wp2_with fail
    refine (C1.out _ (HS.out.keep s0.2.2.2.2.2.2.2.2.2.2.2.2) (HT.out.keep s0.2.2.2.2.2.2.2.2.2.2.2.2) (HB.out.keep s0.2.2.2.2.2.2.2.2.2.2.2.2)).mono ?_
    rintro e1 w1 ⟨rfl, k1⟩
    have s1 := keep12k k1 s0
    clear s0 k1
    go_wp2_with fail
    refine (CO2.out _ (HB.out.keep s1.2.2.2.2.2.2.2.2.2.2.2.2)).mono ?_
    rintro e3 w3 ⟨v, rfl, o3, k3⟩
    have s3 := keep12k k3 s1
    obtain ⟨A3, c3, rfl, hv⟩ := o3.rd
    rw [← HN.out] at hv ⊢
    have HV := Lib.hid hv
    clear s1 k3 o3 hv
    go_wp2_with fail
    go_loopw [7, 8, 10, 11, 20] (fun s7 s8 _ _ sq wr => ∃ (q : Nat) (bb mm : Int), q ≤ n ∧ s7 = .int .i64 bb ∧ s8 = .int .i64 mm ∧ sq = .int .i64 q ∧ Hid (lkF f (L.take q) (0, 0) = (bb, mm)) ∧ wr.cell? ⟨w.heap.size, 0, none⟩ = some (.slice At nt ct) ∧ wr.cell? ⟨w.heap.size, 1, none⟩ = some (.slice Ak nk ck) ∧ wr.cell? ⟨w.heap.size, 2, none⟩ = some (.int .i64 a) ∧ wr.cell? ⟨w.heap.size, 3, none⟩ = some (.int .i64 b) ∧ wr.cell? ⟨w.heap.size, 4, none⟩ = some (.int .i64 c) ∧ wr.cell? ⟨w.heap.size, 5, none⟩ = some (.int .i64 d) ∧ wr.cell? ⟨w.heap.size, 6, none⟩ = some (.int .i64 e) ∧ wr.cell? ⟨w.heap.size, 7, none⟩ = some (.int .i64 W) ∧ wr.cell? ⟨w.heap.size, 8, none⟩ = some (.int .i64 H) ∧ wr.cell? ⟨w.heap.size, 9, none⟩ = some (x) ∧ wr.cell? ⟨w.heap.size, 10, none⟩ = some (r) ∧ wr.cell? ⟨w.heap.size, 11, none⟩ = some (y) ∧ Kp w wr ∧ Kp w3 wr) (fun _ _ _ _ sq _ => n - (intOf sq).toNat)
    case atStart => exact ⟨0, _, _, by omega, rfl, rfl, rfl, Lib.hid rfl, s3.1, s3.2.1, s3.2.2.1, s3.2.2.2.1, s3.2.2.2.2.1, s3.2.2.2.2.2.1, s3.2.2.2.2.2.2.1, s3.2.2.2.2.2.2.2.1, s3.2.2.2.2.2.2.2.2.1, s3.2.2.2.2.2.2.2.2.2.1, s3.2.2.2.2.2.2.2.2.2.2.1, s3.2.2.2.2.2.2.2.2.2.2.2.1, s3.2.2.2.2.2.2.2.2.2.2.2.2, Kp.refl _⟩
    case round =>
      clear s3
      obtain ⟨q, bb, mm, hqn, rfl, rfl, rfl, HQ, c0_, c1_, c2_, c3_, c4_, c5_, c6_, c7_, c8_, c9_, c10_, c11_, kw, kr⟩ := hrel
      have sr : wr.cell? ⟨w.heap.size, 0, none⟩ = some (.slice At nt ct) ∧ wr.cell? ⟨w.heap.size, 1, none⟩ = some (.slice Ak nk ck) ∧ wr.cell? ⟨w.heap.size, 2, none⟩ = some (.int .i64 a) ∧ wr.cell? ⟨w.heap.size, 3, none⟩ = some (.int .i64 b) ∧ wr.cell? ⟨w.heap.size, 4, none⟩ = some (.int .i64 c) ∧ wr.cell? ⟨w.heap.size, 5, none⟩ = some (.int .i64 d) ∧ wr.cell? ⟨w.heap.size, 6, none⟩ = some (.int .i64 e) ∧ wr.cell? ⟨w.heap.size, 7, none⟩ = some (.int .i64 W) ∧ wr.cell? ⟨w.heap.size, 8, none⟩ = some (.int .i64 H) ∧ wr.cell? ⟨w.heap.size, 9, none⟩ = some (x) ∧ wr.cell? ⟨w.heap.size, 10, none⟩ = some (r) ∧ wr.cell? ⟨w.heap.size, 11, none⟩ = some (y) ∧ Kp w wr := ⟨c0_, c1_, c2_, c3_, c4_, c5_, c6_, c7_, c8_, c9_, c10_, c11_, kw⟩
      clear c0_ c1_ c2_ c3_ c4_ c5_ c6_ c7_ c8_ c9_ c10_ c11_ kw
      by_cases hlt : q < n
      · have hlt' : (q : Int) < n := by omega
        obtain ⟨g0, off, rfl, hc⟩ := HV.out (by omega)
        obtain ⟨z, hz⟩ : ∃ z, L[q]? = some z := ⟨L[q]'(by have := HN.out; omega), List.getElem?_eq_getElem _⟩
        have a0 := kr.cell (hc q z hz)
        have CZ := Lib.hid (CV2.out z (List.mem_of_getElem? hz))
        have HZ := Lib.hid (lkF_take (f := f) (p := (0, 0)) hz)
        clear hc hz
        go_wp2_with fail
        refine (CZ.out _ (HT.out.keep sr.2.2.2.2.2.2.2.2.2.2.2.2) (HB.out.keep sr.2.2.2.2.2.2.2.2.2.2.2.2)).mono ?_
        rintro e4 w4 ⟨A4, c4, N, rfl, hN, k4⟩
        have HF := Lib.hid hN
        have s4 := keep12k k4 sr
        have kr4 := kr.trans k4
        clear hN k4 sr kr a0
        by_cases hgt : mm < (N : Int)
        · go_wp2_with fail
          go_roundw
          case rel => exact ⟨q + 1, z, N, by omega, rfl, rfl, by go_num, Lib.hid (by rw [HZ.out, HQ.out]; unfold lkS; rw [← HF.out]; exact if_pos hgt), s4.1, s4.2.1, s4.2.2.1, s4.2.2.2.1, s4.2.2.2.2.1, s4.2.2.2.2.2.1, s4.2.2.2.2.2.2.1, s4.2.2.2.2.2.2.2.1, s4.2.2.2.2.2.2.2.2.1, s4.2.2.2.2.2.2.2.2.2.1, s4.2.2.2.2.2.2.2.2.2.2.1, s4.2.2.2.2.2.2.2.2.2.2.2.1, s4.2.2.2.2.2.2.2.2.2.2.2.2, kr4⟩
          case measure => simp [intOf]; omega
        · go_wp2_with fail
          go_roundw
          case rel => exact ⟨q + 1, bb, mm, by omega, rfl, rfl, by go_num, Lib.hid (by rw [HZ.out, HQ.out]; unfold lkS; rw [← HF.out]; exact if_neg (Int.not_lt.2 hgt)), s4.1, s4.2.1, s4.2.2.1, s4.2.2.2.1, s4.2.2.2.2.1, s4.2.2.2.2.2.1, s4.2.2.2.2.2.2.1, s4.2.2.2.2.2.2.2.1, s4.2.2.2.2.2.2.2.2.1, s4.2.2.2.2.2.2.2.2.2.1, s4.2.2.2.2.2.2.2.2.2.2.1, s4.2.2.2.2.2.2.2.2.2.2.2.1, s4.2.2.2.2.2.2.2.2.2.2.2.2, kr4⟩
          case measure => simp [intOf]; omega
      · obtain rfl : q = n := by omega
        have HQ2 : Hid (lkF f L (0, 0) = (bb, mm)) := Lib.hid (by
          have := HQ.out
          rw [HN.out, List.take_length] at this
          exact this)
        by_cases hm : 0 < mm
        · go_wp2_with fail
          go_ret3
          rw [HQ2.out, decide_eq_true (show 0 < (bb, mm).2 from hm)]
          exact LookPost.yes sr.2.2.2.2.2.2.2.2.2.2.2.2
        · have HZ : Hid (bb = 0 ∧ mm = 0) := Lib.hid (by
            rcases HK2.out with ⟨_, h⟩ | ⟨_, _, h⟩
            · rw [HQ2.out, Prod.mk.injEq] at h
              exact h
            · rw [HQ2.out] at h
              exact absurd h hm)
          obtain ⟨rfl, rfl⟩ := HZ.out
          go_wp2_with fail
          go_ret3
          rw [HQ2.out, decide_eq_false (show ¬ 0 < ((0 : Int), (0 : Int)).2 by decide)]
          exact LookPost.no sr.2.2.2.2.2.2.2.2.2.2.2.2

set_option maxRecDepth 100000 in
set_option maxHeartbeats 4000000 in
theorem specBestLookout_any (At Ak : Option Addr) (nt nk ct ck : Nat) (l : List Ter) (m : List Knd) (a b c d e W H : Int) (x r y : Value) (lt lr ld : List Int) (k : Int) (w : World) (hB : BrdAt w At Ak nt nk l m x r y lt lr ld) :
    Calls Tryz.prog 35 #[bv (.slice At nt ct) (.slice Ak nk ck) a b c d e W H x r y, .int .i64 k] w (LookPost ((brdOk ⟨l, m, a, b, c, d, e⟩ W H lt lr ld && inB k nk) && decide (0 < (lkI l m lt W k.toNat lt.length).2)) (lkI l m lt W k.toNat lt.length) w) := by
  obtain ⟨f, hf⟩ : ∃ f : Int → Int, f = byN l m lt W k.toNat lt.length := ⟨_, rfl⟩
  have s0 : (w.alloc (.cells #[.slice At nt ct, .slice Ak nk ck, .int .i64 a, .int .i64 b, .int .i64 c, .int .i64 d, .int .i64 e, .int .i64 W, .int .i64 H, x, r, y] 41)).cell? ⟨w.heap.size, 0, none⟩ = some (.slice At nt ct) ∧ (w.alloc (.cells #[.slice At nt ct, .slice Ak nk ck, .int .i64 a, .int .i64 b, .int .i64 c, .int .i64 d, .int .i64 e, .int .i64 W, .int .i64 H, x, r, y] 41)).cell? ⟨w.heap.size, 1, none⟩ = some (.slice Ak nk ck) ∧ (w.alloc (.cells #[.slice At nt ct, .slice Ak nk ck, .int .i64 a, .int .i64 b, .int .i64 c, .int .i64 d, .int .i64 e, .int .i64 W, .int .i64 H, x, r, y] 41)).cell? ⟨w.heap.size, 2, none⟩ = some (.int .i64 a) ∧ (w.alloc (.cells #[.slice At nt ct, .slice Ak nk ck, .int .i64 a, .int .i64 b, .int .i64 c, .int .i64 d, .int .i64 e, .int .i64 W, .int .i64 H, x, r, y] 41)).cell? ⟨w.heap.size, 3, none⟩ = some (.int .i64 b) ∧ (w.alloc (.cells #[.slice At nt ct, .slice Ak nk ck, .int .i64 a, .int .i64 b, .int .i64 c, .int .i64 d, .int .i64 e, .int .i64 W, .int .i64 H, x, r, y] 41)).cell? ⟨w.heap.size, 4, none⟩ = some (.int .i64 c) ∧ (w.alloc (.cells #[.slice At nt ct, .slice Ak nk ck, .int .i64 a, .int .i64 b, .int .i64 c, .int .i64 d, .int .i64 e, .int .i64 W, .int .i64 H, x, r, y] 41)).cell? ⟨w.heap.size, 5, none⟩ = some (.int .i64 d) ∧ (w.alloc (.cells #[.slice At nt ct, .slice Ak nk ck, .int .i64 a, .int .i64 b, .int .i64 c, .int .i64 d, .int .i64 e, .int .i64 W, .int .i64 H, x, r, y] 41)).cell? ⟨w.heap.size, 6, none⟩ = some (.int .i64 e) ∧ (w.alloc (.cells #[.slice At nt ct, .slice Ak nk ck, .int .i64 a, .int .i64 b, .int .i64 c, .int .i64 d, .int .i64 e, .int .i64 W, .int .i64 H, x, r, y] 41)).cell? ⟨w.heap.size, 7, none⟩ = some (.int .i64 W) ∧ (w.alloc (.cells #[.slice At nt ct, .slice Ak nk ck, .int .i64 a, .int .i64 b, .int .i64 c, .int .i64 d, .int .i64 e, .int .i64 W, .int .i64 H, x, r, y] 41)).cell? ⟨w.heap.size, 8, none⟩ = some (.int .i64 H) ∧ (w.alloc (.cells #[.slice At nt ct, .slice Ak nk ck, .int .i64 a, .int .i64 b, .int .i64 c, .int .i64 d, .int .i64 e, .int .i64 W, .int .i64 H, x, r, y] 41)).cell? ⟨w.heap.size, 9, none⟩ = some (x) ∧ (w.alloc (.cells #[.slice At nt ct, .slice Ak nk ck, .int .i64 a, .int .i64 b, .int .i64 c, .int .i64 d, .int .i64 e, .int .i64 W, .int .i64 H, x, r, y] 41)).cell? ⟨w.heap.size, 10, none⟩ = some (r) ∧ (w.alloc (.cells #[.slice At nt ct, .slice Ak nk ck, .int .i64 a, .int .i64 b, .int .i64 c, .int .i64 d, .int .i64 e, .int .i64 W, .int .i64 H, x, r, y] 41)).cell? ⟨w.heap.size, 11, none⟩ = some (y) ∧ Kp w (w.alloc (.cells #[.slice At nt ct, .slice Ak nk ck, .int .i64 a, .int .i64 b, .int .i64 c, .int .i64 d, .int .i64 e, .int .i64 W, .int .i64 H, x, r, y] 41)) := ⟨by simp [go_sem], by simp [go_sem], by simp [go_sem], by simp [go_sem], by simp [go_sem], by simp [go_sem], by simp [go_sem], by simp [go_sem], by simp [go_sem], by simp [go_sem], by simp [go_sem], by simp [go_sem], (Kp.refl w).alloc _⟩
  have HB := Lib.hid hB
  have hon : (brdOk ⟨l, m, a, b, c, d, e⟩ W H lt lr ld && inB k nk && onI W H 0) = (brdOk ⟨l, m, a, b, c, d, e⟩ W H lt lr ld && inB k nk) := by
    cases hb : brdOk ⟨l, m, a, b, c, d, e⟩ W H lt lr ld
    · simp
    · obtain ⟨g1, g2, g3, g4⟩ := mapOk_side (brdOk_map hb)
      have hA := area_bd g1 g2 g3 g4
      rw [onI_mk (by omega) (by omega), Bool.and_true]
  have C1 : Hid (∀ w, BrdAt w At Ak nt nk l m x r y lt lr ld → Calls Tryz.prog 54 #[bv (.slice At nt ct) (.slice Ak nk ck) a b c d e W H x r y, .int .i64 k, .int .i64 0] w fun e' w' => e' = .returned (.bool (brdOk ⟨l, m, a, b, c, d, e⟩ W H lt lr ld && inB k nk)) ∧ Kp w w') := Lib.hid fun w hB => by
    rw [← hon]
    exact bAt_any At Ak nt nk ct ck l m a b c d e W H x r y lt lr ld k 0 w hB
  have CO : Hid ((brdOk ⟨l, m, a, b, c, d, e⟩ W H lt lr ld && inB k nk) = true → ∀ w, BrdAt w At Ak nt nk l m x r y lt lr ld → Calls Tryz.prog 63 #[bv (.slice At nt ct) (.slice Ak nk ck) a b c d e W H x r y, .int .i64 k] w fun e' w' => ∃ v, e' = .returned v ∧ OwnI w' (w.heap.size + 1) v (opnL l lt k.toNat lt.length) ∧ Kp w w') := Lib.hid fun h1 w hB => by
    simp only [Bool.and_eq_true] at h1
    obtain ⟨k', rfl, hk'⟩ := inB_at h1.2
    exact bOpen_any At Ak nt nk ct ck l m a b c d e W H x r y lt lr ld k' w hB h1.1 (by have := hB.R.rk.1; omega)
  have CV : Hid ((brdOk ⟨l, m, a, b, c, d, e⟩ W H lt lr ld && inB k nk) = true → ∀ z ∈ opnL l lt k.toNat lt.length, ∀ w, BrdAt w At Ak nt nk l m x r y lt lr ld → Calls Tryz.prog 59 #[bv (.slice At nt ct) (.slice Ak nk ck) a b c d e W H x r y, .int .i64 k, .int .i64 z] w fun e' w' => ∃ A c N, e' = .returned (.slice A N c) ∧ (N : Int) = f z ∧ Kp w w') := Lib.hid fun h1 z hz w hB => by
    simp only [Bool.and_eq_true] at h1
    rw [hf]
    obtain ⟨k', rfl, hk'⟩ := inB_at h1.2
    obtain ⟨j, hj, rfl⟩ := opnL_mem hz
    exact (vBy_any At Ak nt nk ct ck l m a b c d e W H x r y lt lr ld k' j w hB h1.1 (by have := hB.R.rk.1; omega) (onI_of (mapOk_len (brdOk_map h1.1)) hj)).mono fun _ _ ⟨v, h2, h3, h4⟩ => by
      obtain ⟨A, cc, e2⟩ := h3.slice
      exact ⟨A, cc, (byI l m lt W (j : Int) k' lt.length).length, by rw [h2, e2], rfl, h4⟩
  have hl : (brdOk ⟨l, m, a, b, c, d, e⟩ W H lt lr ld && inB k nk) = true → (opnL l lt k.toNat lt.length).length ≤ 100 := fun h1 => by
    simp only [Bool.and_eq_true] at h1
    have hh := h1.1
    obtain ⟨g1, g2, g3, g4⟩ := mapOk_side (brdOk_map hh)
    have hA := area_bd g1 g2 g3 g4
    have hlen := mapOk_len (brdOk_map hh)
    have := filN_len (opnB l lt k.toNat) lt.length
    unfold opnL
    omega
  have HK : Hid ((brdOk ⟨l, m, a, b, c, d, e⟩ W H lt lr ld && inB k nk) = true → (opnL l lt k.toNat lt.length = [] ∧ lkF f (opnL l lt k.toNat lt.length) (0, 0) = (0, 0)) ∨ (opnL l lt k.toNat lt.length ≠ [] ∧ lkF f (opnL l lt k.toNat lt.length) (0, -1) = lkF f (opnL l lt k.toNat lt.length) (0, 0) ∧ 0 < (lkF f (opnL l lt k.toNat lt.length) (0, 0)).2)) := Lib.hid fun h => look_start h f hf
  have HW : Hid (lkI l m lt W k.toNat lt.length = lkF f (opnL l lt k.toNat lt.length) (0, 0)) := Lib.hid (by rw [hf]; rfl)
  rw [HW.out]
  clear HW hB hf hon
  generalize opnL l lt k.toNat lt.length = L at CO CV hl HK ⊢
  cases hp : (brdOk ⟨l, m, a, b, c, d, e⟩ W H lt lr ld && inB k nk)
  · rw [hp] at C1
    rw [Bool.false_and]
    clear CV CO hl HK
    go_enter Tryz.func35, Tryz.ntmps35
    go_wp2_with fail
    refine (C1.out _ (HB.out.keep s0.2.2.2.2.2.2.2.2.2.2.2.2)).mono ?_
    rintro e1 w1 ⟨rfl, k1⟩
    go_wp2_with fail
    go_ret3
    exact LookPost.no (s0.2.2.2.2.2.2.2.2.2.2.2.2.trans k1)
  · rw [hp] at C1
    rw [Bool.true_and]
    have CV2 := Lib.hid (CV.out hp)
    have CO2 := Lib.hid (CO.out hp)
    have HK2 := Lib.hid (HK.out hp)
    have hl0 := hl hp
    obtain ⟨n, hn'⟩ : ∃ n, n = L.length := ⟨_, rfl⟩
    have HN := Lib.hid hn'
    have hl2 : n ≤ 100 := by omega
    clear hp hl CV CO hn' hl0 HK
    by_cases h0 : n = 0
    · have he0 : ((n : Int) == 0) = true := beq_iff_eq.2 (by omega)
      have HE : Hid (lkF f L (0, 0) = (0, 0)) := Lib.hid (by
        rcases HK2.out with ⟨e, h⟩ | ⟨e, h⟩
        · exact h
        · exact absurd (List.eq_nil_of_length_eq_zero (by have := HN.out; omega)) e)
      rw [HE.out]
      go_enter Tryz.func35, Tryz.ntmps35
      go_wp2_with fail
      refine (C1.out _ (HB.out.keep s0.2.2.2.2.2.2.2.2.2.2.2.2)).mono ?_
      rintro e1 w1 ⟨rfl, k1⟩
      have s1 := keep12k k1 s0
      clear s0 k1
      go_wp2_with fail
      refine (CO2.out _ (HB.out.keep s1.2.2.2.2.2.2.2.2.2.2.2.2)).mono ?_
      rintro e2 w2 ⟨v, rfl, o2, k2⟩
      obtain ⟨A1, c1, rfl, hv⟩ := o2.rd
      rw [← HN.out] at hv ⊢
      clear o2 hv
      go_wp2_with fail
      go_ret3
      exact LookPost.no (s1.2.2.2.2.2.2.2.2.2.2.2.2.trans k2)
    have he1 : ((n : Int) == 0) = false := beq_eq_false_iff_ne.2 (by omega)
    have HE : Hid (lkF f L (0, -1) = lkF f L (0, 0) ∧ 0 < (lkF f L (0, 0)).2) := Lib.hid (by
      rcases HK2.out with ⟨e, h⟩ | ⟨e, h⟩
      · exact absurd (by have := HN.out; rw [e] at this; exact this) h0
      · exact h)
    rw [← HE.out.1]
    go_enter Tryz.func35, Tryz.ntmps35
    go_wp2_with fail
    refine (C1.out _ (HB.out.keep s0.2.2.2.2.2.2.2.2.2.2.2.2)).mono ?_
    rintro e1 w1 ⟨rfl, k1⟩
    have s1 := keep12k k1 s0
    clear s0 k1
    go_wp2_with fail
    refine (CO2.out _ (HB.out.keep s1.2.2.2.2.2.2.2.2.2.2.2.2)).mono ?_
    rintro e2 w2 ⟨v, rfl, o2, k2⟩
    have s2 := keep12k k2 s1
    obtain ⟨A1, c1, rfl, hv⟩ := o2.rd
    rw [← HN.out] at hv ⊢
    clear s1 k2 o2 hv
    go_wp2_with fail
    refine (CO2.out _ (HB.out.keep s2.2.2.2.2.2.2.2.2.2.2.2.2)).mono ?_
    rintro e3 w3 ⟨v, rfl, o3, k3⟩
    have s3 := keep12k k3 s2
    obtain ⟨A3, c3, rfl, hv⟩ := o3.rd
    rw [← HN.out] at hv ⊢
    have HV := Lib.hid hv
    clear s2 k3 o3 hv
    go_wp2_with fail
    go_loopw [7, 8, 10, 11, 27] (fun s7 s8 _ _ sq wr => ∃ (q : Nat) (bb mm : Int), q ≤ n ∧ s7 = .int .i64 bb ∧ s8 = .int .i64 mm ∧ sq = .int .i64 q ∧ Hid (lkF f (L.take q) (0, -1) = (bb, mm)) ∧ wr.cell? ⟨w.heap.size, 0, none⟩ = some (.slice At nt ct) ∧ wr.cell? ⟨w.heap.size, 1, none⟩ = some (.slice Ak nk ck) ∧ wr.cell? ⟨w.heap.size, 2, none⟩ = some (.int .i64 a) ∧ wr.cell? ⟨w.heap.size, 3, none⟩ = some (.int .i64 b) ∧ wr.cell? ⟨w.heap.size, 4, none⟩ = some (.int .i64 c) ∧ wr.cell? ⟨w.heap.size, 5, none⟩ = some (.int .i64 d) ∧ wr.cell? ⟨w.heap.size, 6, none⟩ = some (.int .i64 e) ∧ wr.cell? ⟨w.heap.size, 7, none⟩ = some (.int .i64 W) ∧ wr.cell? ⟨w.heap.size, 8, none⟩ = some (.int .i64 H) ∧ wr.cell? ⟨w.heap.size, 9, none⟩ = some (x) ∧ wr.cell? ⟨w.heap.size, 10, none⟩ = some (r) ∧ wr.cell? ⟨w.heap.size, 11, none⟩ = some (y) ∧ Kp w wr ∧ Kp w3 wr) (fun _ _ _ _ sq _ => n - (intOf sq).toNat)
    case atStart => exact ⟨0, _, _, by omega, rfl, rfl, rfl, Lib.hid rfl, s3.1, s3.2.1, s3.2.2.1, s3.2.2.2.1, s3.2.2.2.2.1, s3.2.2.2.2.2.1, s3.2.2.2.2.2.2.1, s3.2.2.2.2.2.2.2.1, s3.2.2.2.2.2.2.2.2.1, s3.2.2.2.2.2.2.2.2.2.1, s3.2.2.2.2.2.2.2.2.2.2.1, s3.2.2.2.2.2.2.2.2.2.2.2.1, s3.2.2.2.2.2.2.2.2.2.2.2.2, Kp.refl _⟩
    case round =>
      clear s3
      obtain ⟨q, bb, mm, hqn, rfl, rfl, rfl, HQ, c0_, c1_, c2_, c3_, c4_, c5_, c6_, c7_, c8_, c9_, c10_, c11_, kw, kr⟩ := hrel
      have sr : wr.cell? ⟨w.heap.size, 0, none⟩ = some (.slice At nt ct) ∧ wr.cell? ⟨w.heap.size, 1, none⟩ = some (.slice Ak nk ck) ∧ wr.cell? ⟨w.heap.size, 2, none⟩ = some (.int .i64 a) ∧ wr.cell? ⟨w.heap.size, 3, none⟩ = some (.int .i64 b) ∧ wr.cell? ⟨w.heap.size, 4, none⟩ = some (.int .i64 c) ∧ wr.cell? ⟨w.heap.size, 5, none⟩ = some (.int .i64 d) ∧ wr.cell? ⟨w.heap.size, 6, none⟩ = some (.int .i64 e) ∧ wr.cell? ⟨w.heap.size, 7, none⟩ = some (.int .i64 W) ∧ wr.cell? ⟨w.heap.size, 8, none⟩ = some (.int .i64 H) ∧ wr.cell? ⟨w.heap.size, 9, none⟩ = some (x) ∧ wr.cell? ⟨w.heap.size, 10, none⟩ = some (r) ∧ wr.cell? ⟨w.heap.size, 11, none⟩ = some (y) ∧ Kp w wr := ⟨c0_, c1_, c2_, c3_, c4_, c5_, c6_, c7_, c8_, c9_, c10_, c11_, kw⟩
      clear c0_ c1_ c2_ c3_ c4_ c5_ c6_ c7_ c8_ c9_ c10_ c11_ kw
      by_cases hlt : q < n
      · have hlt' : (q : Int) < n := by omega
        obtain ⟨g0, off, rfl, hc⟩ := HV.out (by omega)
        obtain ⟨z, hz⟩ : ∃ z, L[q]? = some z := ⟨L[q]'(by have := HN.out; omega), List.getElem?_eq_getElem _⟩
        have a0 := kr.cell (hc q z hz)
        have CZ := Lib.hid (CV2.out z (List.mem_of_getElem? hz))
        have HZ := Lib.hid (lkF_take (f := f) (p := (0, -1)) hz)
        clear hc hz
        go_wp2_with fail
        refine (CZ.out _ (HB.out.keep sr.2.2.2.2.2.2.2.2.2.2.2.2)).mono ?_
        rintro e4 w4 ⟨A4, c4, N, rfl, hN, k4⟩
        have HF := Lib.hid hN
        have s4 := keep12k k4 sr
        have kr4 := kr.trans k4
        clear hN k4 sr kr a0
        by_cases hgt : mm < (N : Int)
        · go_wp2_with fail
          go_roundw
          case rel => exact ⟨q + 1, z, N, by omega, rfl, rfl, by go_num, Lib.hid (by rw [HZ.out, HQ.out]; unfold lkS; rw [← HF.out]; exact if_pos hgt), s4.1, s4.2.1, s4.2.2.1, s4.2.2.2.1, s4.2.2.2.2.1, s4.2.2.2.2.2.1, s4.2.2.2.2.2.2.1, s4.2.2.2.2.2.2.2.1, s4.2.2.2.2.2.2.2.2.1, s4.2.2.2.2.2.2.2.2.2.1, s4.2.2.2.2.2.2.2.2.2.2.1, s4.2.2.2.2.2.2.2.2.2.2.2.1, s4.2.2.2.2.2.2.2.2.2.2.2.2, kr4⟩
          case measure => simp [intOf]; omega
        · go_wp2_with fail
          go_roundw
          case rel => exact ⟨q + 1, bb, mm, by omega, rfl, rfl, by go_num, Lib.hid (by rw [HZ.out, HQ.out]; unfold lkS; rw [← HF.out]; exact if_neg (Int.not_lt.2 hgt)), s4.1, s4.2.1, s4.2.2.1, s4.2.2.2.1, s4.2.2.2.2.1, s4.2.2.2.2.2.1, s4.2.2.2.2.2.2.1, s4.2.2.2.2.2.2.2.1, s4.2.2.2.2.2.2.2.2.1, s4.2.2.2.2.2.2.2.2.2.1, s4.2.2.2.2.2.2.2.2.2.2.1, s4.2.2.2.2.2.2.2.2.2.2.2.1, s4.2.2.2.2.2.2.2.2.2.2.2.2, kr4⟩
          case measure => simp [intOf]; omega
      · obtain rfl : q = n := by omega
        have HQ2 : Hid (lkF f L (0, -1) = (bb, mm)) := Lib.hid (by
          have := HQ.out
          rw [HN.out, List.take_length] at this
          exact this)
        go_wp2_with fail
        go_ret3
        have h9 := HE.out.2
        rw [← HE.out.1, HQ2.out] at h9
        rw [HQ2.out, decide_eq_true h9]
        exact LookPost.yes sr.2.2.2.2.2.2.2.2.2.2.2.2

end Go.Proofs.YtfohhofpfmbheaaGreatDoor
