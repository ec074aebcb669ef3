/-
  Lists of lists of integers: the laws' size, copy (in memory of its own), comparison of two that read as the same, and marking of a copy.
-/
import Derived.Test.YtgeophllbmjjfaaDoorMarkN
import Derived.Test.YtgeophllbmjjfaaDoorListI
import Derived.Test.YtgeophllbmjjfaaDoorRowC
import Derived.Test.YtgeophllbmjjfaaDoorSzP
import Derived.Test.YtgeophllbmjjfaaDoorMk
namespace Go.Proofs.YtgeophllbmjjfaaDoor
open Go.RowKit

/-- The slice v owns the list L of lists of integers; vs: the inner slices. -/
structure OwnII (w : World) (base : Nat) (v : Value) (L : List (List Int)) (vs : List Value) : Prop where
  row : w.ownsRow base 50 1 v L.length vs
  inn : ∀ (i : Nat) (x : Value) (l : List Int), vs[i]? = some x → L[i]? = some l → OwnI w base x l
  out : ∀ (i : Nat) (x : Value) (g : Nat), vs[i]? = some x → x.ownBlock = some g → v.ownBlock ≠ some g
  two : ∀ (i j : Nat) (x y : Value) (g : Nat), i ≠ j → vs[i]? = some x → vs[j]? = some y → x.ownBlock = some g → y.ownBlock ≠ some g
theorem OwnII.len {w : World} {base : Nat} {v : Value} {L : List (List Int)} {vs : List Value} (h : OwnII w base v L vs) : vs.length = L.length := by
  have : vs.length = L.length * 1 := h.row.1
  omega
theorem OwnII.keep {w w' : World} {base : Nat} {v : Value} {L : List (List Int)} {vs : List Value} (h : OwnII w base v L vs) (k : Kp w w') : OwnII w' base v L vs :=
  ⟨ownsRow_keep h.row k, fun i x l hx hl => (h.inn i x l hx hl).keep k, h.out, h.two⟩
theorem OwnII.base {w : World} {base b : Nat} {v : Value} {L : List (List Int)} {vs : List Value} (h : OwnII w base v L vs) (hb : b ≤ base) : OwnII w b v L vs :=
  ⟨ownsRow_base h.row hb, fun i x l hx hl => (h.inn i x l hx hl).base hb, h.out, h.two⟩
theorem OwnII.nil (w : World) (base : Nat) : OwnII w base (.slice none 0 0) [] [] :=
  ⟨World.ownsRow_nil w base _ 1, fun i x l hx _ => by simp at hx, fun i x g hx _ => by simp at hx, fun i j x y g _ hx => by simp at hx⟩

theorem OwnII.snoc {w0 w w' : World} {base : Nat} {v v' x : Value} {L : List (List Int)} {vs : List Value} {l : List Int} {T : TypeId} (h : OwnII w0 base v L vs) (k : Kp w0 w) (hx : OwnI w w0.heap.size x l) (hb : base ≤ w0.heap.size)
    (ho : w'.ownsRow base 50 1 v' (L.length + 1) (vs ++ [x])) (hg : (w.alloc (.cells #[x] T)).grownBy w' v.ownBlock) (ha : v'.ownBlock = v.ownBlock ∨ v'.ownBlock = some (w.alloc (.cells #[x] T)).heap.size) :
    OwnII w' base v' (L ++ [l]) (vs ++ [x]) := by
  have hlen := h.len
  have ka : Kp w (w.alloc (.cells #[x] T)) := (Kp.refl w).alloc _
  have hsz : (w.alloc (.cells #[x] T)).heap.size = w.heap.size + 1 := by simp
  have kz := k.size
  have vlt : ∀ g, v.ownBlock = some g → g < w0.heap.size := fun g e => (World.ownsRow.lt h.row g e).2
  have xge : ∀ g, x.ownBlock = some g → w0.heap.size ≤ g ∧ g < w.heap.size := fun g e => World.ownsRow.lt hx g e
  have ilt : ∀ (i : Nat) (y : Value) (g : Nat), vs[i]? = some y → y.ownBlock = some g → g < w0.heap.size := fun i y g hy e => by
    have hi : i < L.length := by rw [← hlen]; exact (List.getElem?_eq_some_iff.1 hy).1
    exact (World.ownsRow.lt (h.inn i y _ hy (List.getElem?_eq_getElem hi)) g e).2
  refine ⟨by rw [List.length_append]; exact ho, fun i y m hy hm => ?_, fun i y g hy e => ?_, fun i j y z g hij hy hz e => ?_⟩
  · rcases snoc_cases hy with ⟨hi, hy⟩ | ⟨rfl, rfl⟩
    · rw [List.getElem?_append_left (by omega)] at hm
      have o := ((h.inn i y m hy hm).keep k).keep ka
      refine World.ownsRow.kept o hg ?_
      cases hv : y.ownBlock
      · exact .inl rfl
      · rename_i g
        exact .inr fun e => h.out i y g hy hv e.symm
    · rw [List.getElem?_append_right (by omega)] at hm
      simp [hlen] at hm
      subst hm
      refine World.ownsRow.kept ((hx.base hb).keep ka) hg ?_
      cases hv : y.ownBlock
      · exact .inl rfl
      · rename_i g
        refine .inr fun e => ?_
        have h1 := (xge g hv).1
        have h2 := vlt g e.symm
        omega
  · rcases snoc_cases hy with ⟨hi, hy⟩ | ⟨rfl, rfl⟩
    · have h1 := ilt i y g hy e
      rcases ha with ha | ha
      · rw [ha]
        exact h.out i y g hy e
      · rw [ha]
        intro e2
        have := Option.some.inj e2
        omega
    · have h1 := xge g e
      rcases ha with ha | ha
      · rw [ha]
        intro e2
        have := vlt g e2
        omega
      · rw [ha]
        intro e2
        have := Option.some.inj e2
        omega
  · rcases snoc_cases hy with ⟨hi, hy1⟩ | ⟨rfl, rfl⟩
    · rcases snoc_cases hz with ⟨hj, hz1⟩ | ⟨rfl, rfl⟩
      · exact h.two i j y z g hij hy1 hz1 e
      · intro e2
        have h1 := ilt i y g hy1 e
        have h2 := (xge g e2).1
        omega
    · rcases snoc_cases hz with ⟨hj, hz1⟩ | ⟨rfl, rfl⟩
      · intro e2
        have h1 := ilt j z g hz1 e2
        have h2 := (xge g e).1
        omega
      · exact absurd rfl hij

/-- The slice v reads as the list L of lists of integers. -/
def RdII (w : World) (v : Value) (L : List (List Int)) : Prop :=
  ∃ (A : Option Addr) (c : Nat) (vs : List Value), v = .slice A L.length c ∧ vs.length = L.length ∧ (0 < L.length → ∃ g off, A = some ⟨g, off, none⟩ ∧ ∀ (i : Nat) (x : Value), vs[i]? = some x → w.cell? ⟨g, off + i, none⟩ = some x) ∧ ∀ (i : Nat) (x : Value) (l : List Int), vs[i]? = some x → L[i]? = some l → RdI w x l
theorem RdII.keep {w w' : World} {v : Value} {L : List (List Int)} (h : RdII w v L) (hk : Kp w w') : RdII w' v L := by
  obtain ⟨A, c, vs, rfl, hl, h0, h1⟩ := h
  refine ⟨A, c, vs, rfl, hl, fun hp => ?_, fun i x l hx hm => (h1 i x l hx hm).keep hk⟩
  obtain ⟨g, off, rfl, hc⟩ := h0 hp
  exact ⟨g, off, rfl, fun i x hx => hk.cell (hc i x hx)⟩
theorem OwnII.rd {w : World} {base : Nat} {v : Value} {L : List (List Int)} {vs : List Value} (h : OwnII w base v L vs) : RdII w v L := by
  have hlen := h.len
  have hr := h.row
  rcases h.row.2 with ⟨hv, hn⟩ | ⟨g, cap, cur, hv, _⟩
  · exact ⟨none, 0, vs, by rw [hn]; exact hv, hlen, fun h0 => by omega, fun i x l hx hl => (h.inn i x l hx hl).rd⟩
  · refine ⟨_, _, vs, hv, hlen, fun _ => ⟨g, 0, rfl, fun i x hx => ?_⟩, fun i x l hx hl => (h.inn i x l hx hl).rd⟩
    rw [hv] at hr
    have hi : i < vs.length := (List.getElem?_eq_some_iff.1 hx).1
    rw [Nat.zero_add]
    exact (World.ownsRow.cellAt hr i (by omega)).trans hx

theorem lt_at {α : Type} {l : List α} {i : Nat} {t : α} (h : l[i]? = some t) : i < l.length := (List.getElem?_eq_some_iff.1 h).1
theorem liveN1 {w : World} {base g n cap : Nat} {e : TypeId} {ys : List Value} (h : w.ownsRow base e 1 (.slice (some ⟨g, 0, none⟩) n cap) n ys) {j : Nat} (hj : j < n) : (∃ u, w.cell? ⟨g, j, none⟩ = some u) ∧ w.frozen? ⟨g, j, none⟩ = false := by
  have hlen : ys.length = n * 1 := h.1
  exact ⟨⟨_, (h.cellAt j (by omega)).trans (List.getElem?_eq_getElem (by omega))⟩, h.frozenAt j⟩

set_option maxHeartbeats 1000000 in
theorem eqIntSS_same (va vb : Value) (L : List (List Int)) (w : World) (ha : RdII w va L) (hb : RdII w vb L) (hl : L.length ≤ 1048576) (hi : ∀ l ∈ L, l.length ≤ 1048576) :
    Calls Tryd.prog 25 #[va, vb] w fun e w' => e = .returned (.bool true) ∧ Kp w w' := by
  obtain ⟨A, ca, va', rfl, hla, ha, ra⟩ := ha
  obtain ⟨B, cb, vb', rfl, hlb, hb, rb⟩ := hb
  have HA := Lib.hid ha
  have HB := Lib.hid hb
  have RA := Lib.hid ra
  have RB := Lib.hid rb
  have HI := Lib.hid hi
  have HLA := Lib.hid hla
  have HLB := Lib.hid hlb
  clear ha hb ra rb hi hla hlb
  generalize hn : L.length = n at *
  have HN := Lib.hid hn
  clear hn
  go_enter Tryd.func25, Tryd.ntmps25
  go_wp2_with fail
  go_loopw [5] (fun i wr => ∃ k : Nat, k ≤ n ∧ i = .int .i64 k ∧ Kp w wr) (fun i _ => n - (intOf i).toNat)
  case atStart => exact ⟨0, by omega, rfl, Kp.refl _⟩
  case round =>
    obtain ⟨k, hk, rfl, kr⟩ := hrel
    by_cases hlt : k < n
    · obtain ⟨ga, oa, rfl, ca'⟩ := HA.out (by omega)
      obtain ⟨gb, ob, rfl, cb'⟩ := HB.out (by omega)
      obtain ⟨x, hx⟩ : ∃ x, va'[k]? = some x := ⟨va'[k]'(by have := HLA.out; omega), List.getElem?_eq_getElem _⟩
      obtain ⟨y, hy⟩ : ∃ y, vb'[k]? = some y := ⟨vb'[k]'(by have := HLB.out; omega), List.getElem?_eq_getElem _⟩
      obtain ⟨l, hl2⟩ : ∃ l, L[k]? = some l := ⟨L[k]'(by have := HN.out; omega), List.getElem?_eq_getElem _⟩
      have a0 := kr.cell (ca' k x hx)
      have b0 := kr.cell (cb' k y hy)
      have RX := Lib.hid ((RA.out k x l hx hl2).keep kr)
      have RY := Lib.hid ((RB.out k y l hy hl2).keep kr)
      have hll := Lib.hid (HI.out l (List.mem_of_getElem? hl2))
      clear ca' cb' hx hy hl2
      have hlt' : (k : Int) < n := by omega
      go_wp2_with fail
      go_region_held3 (fun w' => w'.cell? ⟨ga, oa + k, none⟩ = some x ∧ w'.cell? ⟨gb, ob + k, none⟩ = some y) (first | assumption | go_keep)
        (first | (go_at_call 50; refine (eqIntS_same x y l _ (RX.out.keep ((Kp.refl _).drew)) (RY.out.keep ((Kp.refl _).drew)) (by have := hll.out; omega)).mono ?_; rintro e w1 ⟨rfl, k1⟩; have s1 := k1.two (by assumption)))
      all_goals
        go_wp2_with fail
        go_roundw
        case rel => exact ⟨k + 1, by omega, by go_num, kr.drew.trans k1⟩
        case measure => simp [intOf]; omega
    · obtain rfl : k = n := by omega
      go_wp2_with fail
      go_ret
      exact ⟨rfl, kr⟩
set_option maxRecDepth 100000 in
set_option maxHeartbeats 1000000 in
theorem szIntSS_any (v : Value) (L : List (List Int)) (left : Int) (w : World) (h : RdII w v L) (h0 : 0 ≤ left) (h1 : left ≤ 1048576) (hn : L.length ≤ 9223372036854775807) (hb : ∀ l ∈ L, l.length ≤ 9223372036854775807) :
    Calls Tryd.prog 15 #[v, .int .i64 left] w (SzPost (L.length ≤ 1048576 ∧ ∀ l ∈ L, l.length ≤ 1048576) w) := by
  obtain ⟨A, c, vs, rfl, hvs, hA, hR⟩ := h
  have HV := Lib.hid hvs
  have HA := Lib.hid hA
  have HR := Lib.hid hR
  have HB := Lib.hid hb
  clear hvs hA hR hb
  obtain ⟨n, hn'⟩ : ∃ n, L.length = n := ⟨_, rfl⟩
  have HN := Lib.hid hn'
  rw [hn'] at hn
  obtain ⟨P, hP⟩ : ∃ P, P = (L.length ≤ 1048576 ∧ ∀ l ∈ L, l.length ≤ 1048576) := ⟨_, rfl⟩
  rw [← hP]
  have HP := Lib.hid hP
  rw [hn']
  clear hP hn'
  by_cases a1 : (n : Int) ≤ left
  · have a1' : ¬ (left - n) < 0 := by omega
    go_enter Tryd.func15, Tryd.ntmps15
    go_wp2_with fail
    go_loopw [1, 5] (fun v i wr => ∃ (k : Nat) (r : Int), k ≤ n ∧ i = .int .i64 k ∧ v = .int .i64 r ∧ 0 ≤ r ∧ r ≤ 1048576 ∧ Hid (∀ j x, j < k → L[j]? = some x → x.length ≤ 1048576) ∧ Kp w wr) (fun _ i _ => n - (intOf i).toNat)
    case atStart => exact ⟨0, _, by omega, rfl, rfl, by omega, by omega, Lib.hid fun j x hj => absurd hj (by omega), Kp.refl _⟩
    case round =>
      obtain ⟨k, r, hk, rfl, rfl, r0, r1, hE, kr⟩ := hrel
      by_cases hlt : k < n
      · have hlt' : (k : Int) < n := by omega
        obtain ⟨g, off, rfl, hc⟩ := HA.out (by have := HN.out; omega)
        obtain ⟨x, hx⟩ : ∃ x, vs[k]? = some x := ⟨vs[k]'(by have := HV.out; have := HN.out; omega), List.getElem?_eq_getElem _⟩
        obtain ⟨l, hl⟩ : ∃ l, L[k]? = some l := ⟨L[k]'(by have := HN.out; omega), List.getElem?_eq_getElem _⟩
        have a0 := kr.cell (hc k x hx)
        obtain ⟨Ax, cx, rfl, _⟩ := HR.out k x l hx hl
        have hll := HB.out l (List.mem_of_getElem? hl)
        have HX := Lib.hid hl
        generalize hm : l.length = m at a0 hll
        have HM := Lib.hid hm
        clear hc hx hl hm
        by_cases a2 : (m : Int) ≤ r
        · have a2' : ¬ (r - m) < 0 := by omega
          have HE2 : Hid (∀ j x, j < k + 1 → L[j]? = some x → x.length ≤ 1048576) := Lib.hid fun j x hj hx => by
            rcases Nat.lt_or_ge j k with hjk | hjk
            · exact hE.out j x hjk hx
            · obtain rfl : j = k := by omega
              rw [HX.out] at hx
              obtain rfl := Option.some.inj hx
              have := HM.out
              omega
          go_wp2_with fail
          refine (szIntS_yes _ _ _ _ _ a2 r0 r1).mono ?_
          rintro e1 w1 ⟨rfl, rfl⟩
          go_wp2_with fail
          go_roundw
          case rel => exact ⟨k + 1, _, by omega, by go_num, rfl, by omega, by omega, HE2, kr⟩
          case measure => simp [intOf]; omega
        · go_wp2_with fail
          refine (szIntS_no _ _ _ _ _ (by omega) r0 r1 hll).mono ?_
          rintro e1 w1 ⟨rfl, rfl⟩
          go_wp2_with fail
          go_ret
          exact ⟨_, rfl, by omega, by omega, fun h => absurd h (by omega), kr⟩
      · obtain rfl : k = n := by omega
        go_wp2_with fail
        go_ret
        refine ⟨_, rfl, by omega, by omega, fun _ => ?_, kr⟩
        rw [HP.out]
        refine ⟨by have := HN.out; omega, fun x hx => ?_⟩
        obtain ⟨i, hi, rfl⟩ := List.mem_iff_getElem.1 hx
        exact hE.out i _ (by have := HN.out; omega) (List.getElem?_eq_getElem hi)
  · have a1' : (left - n) < 0 := by omega
    go_enter Tryd.func15, Tryd.ntmps15
    go_wp2_with fail
    go_ret
    exact ⟨_, rfl, by omega, by omega, fun h => absurd h (by omega), Kp.refl _⟩

theorem infoIntS : (Tryd.prog.info? 50).map (fun i => (i.zero, i.size, i.bytes)) = some (some (.slice none 0 0), 1, 24) := by kernel_rfl
theorem mkIntSS (n : Nat) (hn : n ≤ 1048576) (w : World) :
    (Instr.makeSlice 23 (.int .i64 (n : Int)) (.int .i64 (n : Int))).run Tryd.prog w = .ok (.slice (some ⟨w.heap.size, 0, none⟩) n n) (w.alloc (.cells (madeCells #[.slice none 0 0] n) 50)) := by
  obtain ⟨i, hi, hz, hs, hb⟩ := info_parts infoIntS
  have hr := run_make (P := Tryd.prog) w 23 50 i (.slice none 0 0) Tryd.underlying23 hi hz .i64 .i64 (n : Int) (n : Int) (by omega) (Int.le_refl _) (by rw [hb]; omega) (by omega)
  rw [hs, Int.toNat_natCast, Nat.mul_one] at hr
  exact hr

/-- A row of slices in block g, the first k of which own lists, each in a block of its own behind g. -/
structure PreII (w : World) (g n k : Nat) (L : List (List Int)) (ys : List Value) : Prop where
  row : w.ownsRow g 50 1 (.slice (some ⟨g, 0, none⟩) n n) n ys
  inn : ∀ (j : Nat) (x : Value) (l : List Int), j < k → ys[j]? = some x → L[j]? = some l → OwnI w (g + 1) x l
  two : ∀ (i j : Nat) (x y : Value) (b : Nat), i < k → j < k → i ≠ j → ys[i]? = some x → ys[j]? = some y → x.ownBlock = some b → y.ownBlock ≠ some b
theorem PreII.step {w w1 : World} {g n k : Nat} {L : List (List Int)} {ys : List Value} {x : Value} {l : List Int} (h : PreII w g n k L ys) (hk : k < n) (hl : L[k]? = some l) (hL : L.length = n) (k1 : Kp w w1) (hg : g < w.heap.size) (hx : OwnI w1 w.heap.size x l) :
    PreII (w1.setCell ⟨g, k, none⟩ x) g n (k + 1) L (ys.set k x) := by
  have hlen : ys.length = n * 1 := h.row.1
  have row1 := ownsRow_keep h.row k1
  have far : ∀ {v l'}, OwnI w1 (g + 1) v l' → OwnI (w1.setCell ⟨g, k, none⟩ x) (g + 1) v l' := fun {v l'} o => o.far (o.not (g := g) (by omega)) x
  have old : ∀ (j : Nat) (y : Value), j < k → ys[j]? = some y → ∀ b, y.ownBlock = some b → b < w.heap.size := fun j y hj hy b hb => by
    have hjl : L[j]? = some (L[j]'(by omega)) := List.getElem?_eq_getElem _
    exact (World.ownsRow.lt (h.inn j y _ hj hy hjl) b hb).2
  have new : ∀ b, x.ownBlock = some b → w.heap.size ≤ b := fun b hb => (World.ownsRow.lt hx b hb).1
  have at' : ∀ (j : Nat) (y : Value), j < k + 1 → (ys.set k x)[j]? = some y → (j < k ∧ ys[j]? = some y) ∨ (j = k ∧ y = x) := fun j y hj hy => by
    by_cases e : k = j
    · subst e
      rw [List.getElem?_set_self (by omega)] at hy
      exact .inr ⟨rfl, (Option.some.inj hy).symm⟩
    · rw [List.getElem?_set_ne e] at hy
      exact .inl ⟨by omega, hy⟩
  refine ⟨(row1.stored k x).1, fun j y m hj hy hm => ?_, fun i j y z b hi hj hij hy hz hb => ?_⟩
  · rcases at' j y hj hy with ⟨hj', hy'⟩ | ⟨rfl, rfl⟩
    · exact far ((h.inn j y m hj' hy' hm).keep k1)
    · rw [hl] at hm
      obtain rfl := Option.some.inj hm
      exact far (hx.base (by omega))
  · rcases at' i y hi hy with ⟨hi', hy'⟩ | ⟨rfl, rfl⟩
    · rcases at' j z hj hz with ⟨hj', hz'⟩ | ⟨rfl, rfl⟩
      · exact h.two i j y z b hi' hj' hij hy' hz' hb
      · intro e
        have := old i y hi' hy' b hb
        have := new b e
        omega
    · rcases at' j z hj hz with ⟨hj', hz'⟩ | ⟨rfl, rfl⟩
      · intro e
        have := old j z hj' hz' b e
        have := new b hb
        omega
      · exact absurd rfl hij

set_option maxRecDepth 100000 in
set_option maxHeartbeats 1000000 in
theorem toIntSS_any (v : Value) (L : List (List Int)) (n : Nat) (w : World) (h : RdII w v L) (hL : L.length = n) (hn : n ≤ 1048576) (hb : ∀ l ∈ L, l.length ≤ 1048576) :
    Calls Tryd.prog 19 #[v] w fun e w' => ∃ vs, e = .returned (.slice (some ⟨w.heap.size, 0, none⟩) n n) ∧ OwnII w' w.heap.size (.slice (some ⟨w.heap.size, 0, none⟩) n n) L vs ∧ Kp w w' := by
  obtain ⟨A, c, us, rfl, hvs, hA, hR⟩ := h
  have HV := Lib.hid hvs
  have HA := Lib.hid hA
  have HR := Lib.hid hR
  have HB := Lib.hid hb
  have HN := Lib.hid hL
  clear hvs hA hR hb
  rw [hL]
  clear hL
  have hmk := fun w => mkIntSS n hn w
  have own0 : (w.alloc (.cells (madeCells #[.slice none 0 0] n) 50)).ownsRow w.heap.size 50 1 (.slice (some ⟨w.heap.size, 0, none⟩) n n) n (madeCells #[.slice none 0 0] n).toList :=
    World.ownsRow_lit w _ n (Nat.le_refl _) (by simp only [maxLen]; omega) (by rw [size_madeCells, Nat.mul_one])
  go_enter Tryd.func19, Tryd.ntmps19
  go_wp2_with fail
  go_loopw [4] (fun i wr => ∃ (k : Nat) (ys : List Value), k ≤ n ∧ i = .int .i64 k ∧ Hid (PreII wr w.heap.size n k L ys) ∧ Kp w wr ∧ w.heap.size < wr.heap.size) (fun i _ => n - (intOf i).toNat)
  case atStart => exact ⟨0, _, by omega, rfl, Lib.hid ⟨own0, fun j x l hj => absurd hj (by omega), fun i j x y b hi => absurd hi (by omega)⟩, (Kp.refl _).alloc _, by simp⟩
  case round =>
    clear own0 hmk
    obtain ⟨k, ys, hk, rfl, HO, kr, hz⟩ := hrel
    by_cases hlt : k < n
    · have hlt' : (k : Int) < n := by omega
      obtain ⟨g, off, rfl, hc⟩ := HA.out (by have := HN.out; omega)
      obtain ⟨x, hx⟩ : ∃ x, us[k]? = some x := ⟨us[k]'(by have := HV.out; have := HN.out; omega), List.getElem?_eq_getElem _⟩
      obtain ⟨l, hl⟩ : ∃ l, L[k]? = some l := ⟨L[k]'(by have := HN.out; omega), List.getElem?_eq_getElem _⟩
      have a0 := kr.cell (hc k x hx)
      have RX := Lib.hid ((HR.out k x l hx hl).keep kr)
      have hll := HB.out l (List.mem_of_getElem? hl)
      have HE := Lib.hid (fun (w1 : World) (y : Value) (k1 : Kp wr w1) (ho : OwnI w1 wr.heap.size y l) => PreII.step HO.out hlt hl HN.out k1 hz ho)
      have HR0 := Lib.hid HO.out.row
      clear hc hx hl
      go_wp2_with fail
      refine (toIntS_any x l _ RX.out hll).mono ?_
      rintro e1 w1 ⟨y, rfl, o1, k1⟩
      obtain ⟨Ay, cy, rfl⟩ := o1.slice
      have HR1 := ownsRow_keep HR0.out k1
      obtain ⟨⟨u0, b0⟩, f0⟩ := liveN1 HR1 (j := k) (by omega)
      have HT := Lib.hid (HE.out w1 _ k1 o1)
      have K1 : Kp w w1 := kr.trans k1
      have hz1 : w.heap.size < w1.heap.size := by have := k1.size; omega
      clear HR1 HE o1 k1 a0 RX HO HR0
      go_wp2_with fail
      go_roundw
      case rel => exact ⟨k + 1, _, by omega, by go_num, HT, K1.setCell (by simp) _, by simpa using hz1⟩
      case measure => simp [intOf]; omega
    · obtain rfl : k = n := by omega
      go_wp2_with fail
      go_ret
      have hp := HO.out
      have hlen : ys.length = k * 1 := hp.row.1
      refine ⟨ys, rfl, ⟨?_, fun i x l hx hl => (hp.inn i x l (by have := lt_at hx; omega) hx hl).base (by omega), fun i x g hx hg => ?_, fun i j x y g hij hx hy hg => hp.two i j x y g (by have := lt_at hx; omega) (by have := lt_at hy; omega) hij hx hy hg⟩, kr⟩
      · rw [HN.out]
        exact hp.row
      · have hl : L[i]? = some (L[i]'(by have := lt_at hx; have := HN.out; omega)) := List.getElem?_eq_getElem _
        have := (World.ownsRow.lt (hp.inn i x _ (by have := lt_at hx; omega) hx hl) g hg).1
        intro e
        have e2 : w.heap.size = g := Option.some.inj e
        omega

/-- What the marking of lists of lists needs of those from the q-th on. -/
def RestII (w : World) (base q : Nat) (L : List (List Int)) (vs : List Value) : Prop := ∀ (j : Nat) (x : Value) (l : List Int), q ≤ j → vs[j]? = some x → L[j]? = some l → OwnI w base x l

set_option maxRecDepth 100000 in
set_option maxHeartbeats 1000000 in
theorem markIntSS_w (v : Value) (L : List (List Int)) (vs : List Value) (base lo hi : Nat) (k0 : Int) (w : World) (ho : OwnII w base v L vs) (hl : L.length ≤ 1048576) (hb : ∀ l ∈ L, l.length ≤ 1048576) (hlo : lo ≤ base) (hlw : lo ≤ w.heap.size)
    (hhi : ∀ (j : Nat) (x : Value) (b : Nat), vs[j]? = some x → x.ownBlock = some b → b < hi) (p0 : 0 ≤ k0) (p1 : k0 ≤ 10000000000000) :
    Calls Tryd.prog 30 #[v, .int .i64 k0] w fun e w' => ∃ k', e = .returned (.int .i64 k') ∧ k0 ≤ k' ∧ k' ≤ k0 + 1048576 * (L.length : Int) ∧ Mk lo hi w w' := by
  have HV := Lib.hid ho.len
  have HB := Lib.hid hb
  have HHI := Lib.hid hhi
  have HTW := Lib.hid ho.two
  have HRow : Hid (∀ wr, Mk base hi w wr → True) := Lib.hid fun _ _ => trivial
  rcases ho.row.2 with ⟨rfl, hn0⟩ | ⟨g, cap, cur, rfl, _⟩
  · have hL : L = [] := List.eq_nil_of_length_eq_zero hn0
    subst hL
    clear HV HB HHI HTW ho hb hhi hn0 HRow
    go_enter Tryd.func30, Tryd.ntmps30
    go_wp2_with fail
    go_loop [1, 5] (fun k i => k = .int .i64 k0 ∧ i = .int .i64 0) (fun _ _ => 0)
    case atStart => exact ⟨rfl, rfl⟩
    case round =>
      obtain ⟨rfl, rfl⟩ := hrel
      go_wp2_with fail
      go_ret
      exact ⟨_, rfl, by omega, by omega, Mk.refl _ _ _⟩
  · have HOUT := Lib.hid ho.out
    have R0 := Lib.hid ho.row
    have S0 : Hid (RestII w base 0 L vs) := Lib.hid fun j x l _ hx hl => ho.inn j x l hx hl
    obtain ⟨n, hn⟩ : ∃ n, L.length = n := ⟨_, rfl⟩
    have HN := Lib.hid hn
    rw [hn] at hl R0 ⊢
    have hgb : base ≤ g := (World.ownsRow.lt ho.row g rfl).1
    clear ho hb hhi hn HRow
    go_enter Tryd.func30, Tryd.ntmps30
    go_wp2_with fail
    go_loopw [1, 5] (fun kk i wr => ∃ (q : Nat) (k : Int), q ≤ n ∧ i = .int .i64 q ∧ kk = .int .i64 k ∧ k0 ≤ k ∧ k ≤ k0 + 1048576 * (q : Int) ∧ Hid (wr.ownsRow base 50 1 (.slice (some ⟨g, 0, none⟩) n cap) n vs) ∧ Hid (RestII wr base q L vs) ∧ Hid (Mk lo hi w wr) ∧ w.heap.size ≤ wr.heap.size) (fun _ i _ => n - (intOf i).toNat)
    case atStart => exact ⟨0, _, by omega, rfl, rfl, by omega, by omega, R0, S0, Lib.hid (Mk.refl _ _ _), Nat.le_refl _⟩
    case round =>
      clear R0 S0
      obtain ⟨q, k, hq, rfl, rfl, hk0, hk1, HR, HS, mk, hz⟩ := hrel
      by_cases hlt : q < n
      · have hlt' : (q : Int) < n := by omega
        obtain ⟨x, hx⟩ : ∃ x, vs[q]? = some x := ⟨vs[q]'(by have := HV.out; have := HN.out; omega), List.getElem?_eq_getElem _⟩
        obtain ⟨l, hl2⟩ : ∃ l, L[q]? = some l := ⟨L[q]'(by have := HN.out; omega), List.getElem?_eq_getElem _⟩
        have hnc := HB.out l (List.mem_of_getElem? hl2)
        have c0 : wr.cell? ⟨g, q, none⟩ = some x := (HR.out.cellAt q (by have : vs.length = n * 1 := HR.out.1; omega)).trans hx
        have OX := Lib.hid (HS.out q x l (Nat.le_refl _) hx hl2)
        have HX := Lib.hid hx
        have HNG : Hid (∀ b, x.ownBlock = some b → some g ≠ some b) := Lib.hid fun b hb e => HOUT.out q x b hx hb e
        have HBL : Hid (∀ b, x.ownBlock = some b → base ≤ b ∧ b < hi) := Lib.hid fun b hb => ⟨(World.ownsRow.lt OX.out b hb).1, HHI.out q x b hx hb⟩
        clear hx hl2
        go_wp2_with fail
        refine (markIntS_own x l.length base k (cellsI l) _ (by omega) (by omega) hnc OX.out).mono ?_
        rintro e1 w1 ⟨rfl, om, gm⟩
        have R1 : Hid (w1.ownsRow base 50 1 (.slice (some ⟨g, 0, none⟩) n cap) n vs) := Lib.hid (World.ownsRow.kept HR.out gm (.inr fun e => HNG.out g e.symm rfl))
        have S1 : Hid (RestII w1 base (q + 1) L vs) := Lib.hid fun j y m hj hy hm => World.ownsRow.kept (HS.out j y m (by omega) hy hm) gm (by
          cases hv : y.ownBlock
          · exact .inl rfl
          · rename_i b
            exact .inr fun e => HTW.out q j x y b (by omega) HX.out hy e.symm hv)
        have M1 : Hid (Mk lo hi w w1) := Lib.hid (mk.out.grown gm (by omega) (fun b e => ⟨by have := (HBL.out b e).1; omega, (HBL.out b e).2⟩))
        have hz1 : w.heap.size ≤ w1.heap.size := by
          have := gm.size
          omega
        clear om gm HR HS mk OX
        go_wp2_with fail
        go_roundw
        case rel => exact ⟨q + 1, _, by omega, by go_num, rfl, by omega, by simp; omega, R1, S1, M1, hz1⟩
        case measure => simp [intOf]; omega
      · obtain rfl : q = n := by omega
        go_wp2_with fail
        go_ret
        exact ⟨_, rfl, by omega, by omega, mk.out⟩

end Go.Proofs.YtgeophllbmjjfaaDoor
