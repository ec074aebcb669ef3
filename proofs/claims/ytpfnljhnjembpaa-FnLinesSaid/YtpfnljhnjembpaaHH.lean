/-
  Lists of lists of hexes: slices that a call owns, each in a block of its own; comparing two that read as the same, marking all cells and finding the marks again.
-/
import Derived.Test.YtpfnljhnjembpaaCells
namespace Go.Proofs.Ytpfnljhnjembpaa
open Go.RowKit

/-- The slice v owns the list L of lists of hexes; vs: the inner slices. -/
structure OwnHH (w : World) (base : Nat) (v : Value) (L : List (List (Int × Int))) (vs : List Value) : Prop where
  row : w.ownsRow base 32 1 v L.length vs
  inn : ∀ (i : Nat) (x : Value) (l : List (Int × Int)), vs[i]? = some x → L[i]? = some l → OwnH w base x l
  out : ∀ (i : Nat) (x : Value) (g : Nat), vs[i]? = some x → x.ownBlock = some g → v.ownBlock ≠ some g
  two : ∀ (i j : Nat) (x y : Value) (g : Nat), i ≠ j → vs[i]? = some x → vs[j]? = some y → x.ownBlock = some g → y.ownBlock ≠ some g
theorem OwnHH.len {w : World} {base : Nat} {v : Value} {L : List (List (Int × Int))} {vs : List Value} (h : OwnHH w base v L vs) : vs.length = L.length := by
  have : vs.length = L.length * 1 := h.row.1
  omega
theorem OwnHH.keep {w w' : World} {base : Nat} {v : Value} {L : List (List (Int × Int))} {vs : List Value} (h : OwnHH w base v L vs) (k : Kp w w') : OwnHH w' base v L vs :=
  ⟨ownsRow_keep h.row k, fun i x l hx hl => (h.inn i x l hx hl).keep k, h.out, h.two⟩
theorem ownsRow_base {w : World} {base b : Nat} {e : TypeId} {size : Nat} {v : Value} {n : Nat} {xs : List Value} (h : w.ownsRow base e size v n xs) (hb : b ≤ base) : w.ownsRow b e size v n xs := by
  refine ⟨h.1, ?_⟩
  rcases h.2 with h | ⟨g, cap, cur, h1, h2, h3⟩
  · exact .inl h
  · exact .inr ⟨g, cap, cur, h1, by omega, h3⟩
theorem OwnHH.base {w : World} {base b : Nat} {v : Value} {L : List (List (Int × Int))} {vs : List Value} (h : OwnHH w base v L vs) (hb : b ≤ base) : OwnHH w b v L vs :=
  ⟨ownsRow_base h.row hb, fun i x l hx hl => (h.inn i x l hx hl).base hb, h.out, h.two⟩
theorem OwnHH.nil (w : World) (base : Nat) : OwnHH w base (.slice none 0 0) [] [] :=
  ⟨World.ownsRow_nil w base _ 1, fun i x l hx _ => by simp at hx, fun i x g hx _ => by simp at hx, fun i j x y g _ hx => by simp at hx⟩

theorem snoc_cases {α : Type} {l : List α} {a x : α} {i : Nat} (h : (l ++ [a])[i]? = some x) : (i < l.length ∧ l[i]? = some x) ∨ (i = l.length ∧ x = a) := by
  rcases Nat.lt_or_ge i l.length with hi | hi
  · rw [List.getElem?_append_left hi] at h
    exact .inl ⟨hi, h⟩
  · rw [List.getElem?_append_right hi] at h
    match e : i - l.length, h with
    | 0, h =>
      simp at h
      exact .inr ⟨by omega, h.symm⟩
    | n + 1, h => simp at h

theorem OwnHH.snoc {w0 w w' : World} {base : Nat} {v v' x : Value} {L : List (List (Int × Int))} {vs : List Value} {l : List (Int × Int)} {T : TypeId} (h : OwnHH w0 base v L vs) (k : Kp w0 w) (hx : OwnH w w0.heap.size x l) (hb : base ≤ w0.heap.size)
    (ho : w'.ownsRow base 32 1 v' (L.length + 1) (vs ++ [x])) (hg : (w.alloc (.cells #[x] T)).grownBy w' v.ownBlock) (ha : v'.ownBlock = v.ownBlock ∨ v'.ownBlock = some (w.alloc (.cells #[x] T)).heap.size) :
    OwnHH w' base v' (L ++ [l]) (vs ++ [x]) := by
  have hlen := h.len
  have ka : Kp w (w.alloc (.cells #[x] T)) := (Kp.refl w).alloc _
  have hsz : (w.alloc (.cells #[x] T)).heap.size = w.heap.size + 1 := by simp
  have kz := k.size
  have vlt : ∀ g, v.ownBlock = some g → g < w0.heap.size := fun g e => (World.ownsRow.lt h.row g e).2
  have xge : ∀ g, x.ownBlock = some g → w0.heap.size ≤ g ∧ g < w.heap.size := fun g e => World.ownsRow.lt hx g e
  have ilt : ∀ (i : Nat) (y : Value) (g : Nat), vs[i]? = some y → y.ownBlock = some g → g < w0.heap.size := fun i y g hy e => by
    have hi : i < L.length := by rw [← hlen]; exact (List.getElem?_eq_some_iff.1 hy).1
    exact (World.ownsRow.lt (h.inn i y _ hy (List.getElem?_eq_getElem hi)) g e).2
  refine ⟨by rw [List.length_append]; exact ho, fun i y m hy hm => ?_, fun i y g hy e => ?_, fun i j y z g hij hy hz e => ?_⟩
  · rcases snoc_cases hy with ⟨hi, hy⟩ | ⟨rfl, rfl⟩
    · rw [List.getElem?_append_left (by omega)] at hm
      have o := ((h.inn i y m hy hm).keep k).keep ka
      refine World.ownsRow.kept o hg ?_
      cases hv : y.ownBlock
      · exact .inl rfl
      · rename_i g
        exact .inr fun e => h.out i y g hy hv e.symm
    · rw [List.getElem?_append_right (by omega)] at hm
      simp [hlen] at hm
      subst hm
      refine World.ownsRow.kept ((hx.base hb).keep ka) hg ?_
      cases hv : y.ownBlock
      · exact .inl rfl
      · rename_i g
        refine .inr fun e => ?_
        have h1 := (xge g hv).1
        have h2 := vlt g e.symm
        omega
  · rcases snoc_cases hy with ⟨hi, hy⟩ | ⟨rfl, rfl⟩
    · have h1 := ilt i y g hy e
      rcases ha with ha | ha
      · rw [ha]
        exact h.out i y g hy e
      · rw [ha]
        intro e2
        have := Option.some.inj e2
        omega
    · have h1 := xge g e
      rcases ha with ha | ha
      · rw [ha]
        intro e2
        have := vlt g e2
        omega
      · rw [ha]
        intro e2
        have := Option.some.inj e2
        omega
  · rcases snoc_cases hy with ⟨hi, hy1⟩ | ⟨rfl, rfl⟩
    · rcases snoc_cases hz with ⟨hj, hz1⟩ | ⟨rfl, rfl⟩
      · exact h.two i j y z g hij hy1 hz1 e
      · intro e2
        have h1 := ilt i y g hy1 e
        have h2 := (xge g e2).1
        omega
    · rcases snoc_cases hz with ⟨hj, hz1⟩ | ⟨rfl, rfl⟩
      · intro e2
        have h1 := ilt j z g hz1 e2
        have h2 := (xge g e).1
        omega
      · exact absurd rfl hij

/-- The slice v reads as the list L of lists of hexes. -/
def RdHH (w : World) (v : Value) (L : List (List (Int × Int))) : Prop :=
  ∃ (A : Option Addr) (c : Nat) (vs : List Value), v = .slice A L.length c ∧ vs.length = L.length ∧ (0 < L.length → ∃ g off, A = some ⟨g, off, none⟩ ∧ ∀ (i : Nat) (x : Value), vs[i]? = some x → w.cell? ⟨g, off + i, none⟩ = some x) ∧ ∀ (i : Nat) (x : Value) (l : List (Int × Int)), vs[i]? = some x → L[i]? = some l → RdH w x l
theorem RdHH.keep {w w' : World} {v : Value} {L : List (List (Int × Int))} (h : RdHH w v L) (hk : Kp w w') : RdHH w' v L := by
  obtain ⟨A, c, vs, rfl, hl, h0, h1⟩ := h
  refine ⟨A, c, vs, rfl, hl, fun hp => ?_, fun i x l hx hm => (h1 i x l hx hm).keep hk⟩
  obtain ⟨g, off, rfl, hc⟩ := h0 hp
  exact ⟨g, off, rfl, fun i x hx => hk.cell (hc i x hx)⟩
theorem OwnHH.rd {w : World} {base : Nat} {v : Value} {L : List (List (Int × Int))} {vs : List Value} (h : OwnHH w base v L vs) : RdHH w v L := by
  have hlen := h.len
  have hr := h.row
  rcases h.row.2 with ⟨hv, hn⟩ | ⟨g, cap, cur, hv, _⟩
  · exact ⟨none, 0, vs, by rw [hn]; exact hv, hlen, fun h0 => by omega, fun i x l hx hl => (h.inn i x l hx hl).rd⟩
  · refine ⟨_, _, vs, hv, hlen, fun _ => ⟨g, 0, rfl, fun i x hx => ?_⟩, fun i x l hx hl => (h.inn i x l hx hl).rd⟩
    rw [hv] at hr
    have hi : i < vs.length := (List.getElem?_eq_some_iff.1 hx).1
    rw [Nat.zero_add]
    exact (World.ownsRow.cellAt hr i (by omega)).trans hx

set_option maxHeartbeats 1000000 in
theorem eqHexSS_same (va vb : Value) (L : List (List (Int × Int))) (w : World) (ha : RdHH w va L) (hb : RdHH w vb L) (hl : L.length ≤ 1000) (hi : ∀ l ∈ L, l.length ≤ 1000) :
    Calls Try.prog 13 #[va, vb] w fun e w' => e = .returned (.bool true) ∧ Kp w w' := by
  obtain ⟨A, ca, va', rfl, hla, ha, ra⟩ := ha
  obtain ⟨B, cb, vb', rfl, hlb, hb, rb⟩ := hb
  have HA := Lib.hid ha
  have HB := Lib.hid hb
  have RA := Lib.hid ra
  have RB := Lib.hid rb
  have HI := Lib.hid hi
  have HLA := Lib.hid hla
  have HLB := Lib.hid hlb
  clear ha hb ra rb hi hla hlb
  generalize hn : L.length = n at *
  have HN := Lib.hid hn
  clear hn
  go_enter Try.func13, Try.ntmps13
  go_wp2_with fail
  go_loopw [5] (fun i wr => ∃ k : Nat, k ≤ n ∧ i = .int .i64 k ∧ Kp w wr) (fun i _ => n - (intOf i).toNat)
  case atStart => exact ⟨0, by omega, rfl, Kp.refl _⟩
  case round =>
    obtain ⟨k, hk, rfl, kr⟩ := hrel
    by_cases hlt : k < n
    · obtain ⟨ga, oa, rfl, ca'⟩ := HA.out (by omega)
      obtain ⟨gb, ob, rfl, cb'⟩ := HB.out (by omega)
      obtain ⟨x, hx⟩ : ∃ x, va'[k]? = some x := ⟨va'[k]'(by have := HLA.out; omega), List.getElem?_eq_getElem _⟩
      obtain ⟨y, hy⟩ : ∃ y, vb'[k]? = some y := ⟨vb'[k]'(by have := HLB.out; omega), List.getElem?_eq_getElem _⟩
      obtain ⟨l, hl2⟩ : ∃ l, L[k]? = some l := ⟨L[k]'(by have := HN.out; omega), List.getElem?_eq_getElem _⟩
      have a0 := kr.cell (ca' k x hx)
      have b0 := kr.cell (cb' k y hy)
      have RX := Lib.hid ((RA.out k x l hx hl2).keep kr)
      have RY := Lib.hid ((RB.out k y l hy hl2).keep kr)
      have hll := Lib.hid (HI.out l (List.mem_of_getElem? hl2))
      clear ca' cb' hx hy hl2
      have hlt' : (k : Int) < n := by omega
      go_wp2_with fail
      go_region_held3 (fun w' => w'.cell? ⟨ga, oa + k, none⟩ = some x ∧ w'.cell? ⟨gb, ob + k, none⟩ = some y) (first | assumption | go_keep)
        (first | (go_at_call 23; refine (eqHexS_same x y l _ (RX.out.keep ((Kp.refl _).drew)) (RY.out.keep ((Kp.refl _).drew)) (by have := hll.out; omega)).mono ?_; rintro e w1 ⟨rfl, k1⟩; have s1 := k1.two (by assumption)))
      all_goals
        go_wp2_with fail
        go_roundw
        case rel => exact ⟨k + 1, by omega, by go_num, kr.drew.trans k1⟩
        case measure => simp [intOf]; omega
    · obtain rfl : k = n := by omega
      go_wp2_with fail
      go_ret
      exact ⟨rfl, kr⟩

theorem markHexS_gen (v : Value) (n base : Nat) (k0 : Int) (xs : List Value) (w : World) (h0 : 0 ≤ k0) (h1 : k0 ≤ 1000000) (hn : n ≤ 1000000) (hown : w.ownsRow base 25 2 v n xs) :
    Calls Try.prog 24 #[v, .int .i64 k0] w fun e w' => e = .returned (.int .i64 (k0 + 2 * n)) ∧ w'.ownsRow base 25 2 v n (marks k0 (n * 2)) ∧ w.grownBy w' v.ownBlock := by
  rcases hown.2 with ⟨rfl, rfl⟩ | ⟨g, cap, cur, rfl, _⟩
  · go_enter Try.func24, Try.ntmps24
    go_wp2_with fail
    go_loop [1, 5] (fun k i => k = .int .i64 k0 ∧ i = .int .i64 0) (fun _ _ => 0)
    case atStart => exact ⟨rfl, rfl⟩
    case round =>
      obtain ⟨rfl, rfl⟩ := hrel
      go_wp2_with fail
      go_ret
      exact ⟨ret_int (by simp), World.ownsRow_nil _ _ _ _, World.grownBy.refl w _⟩
  · exact markHexS_own g n cap base k0 xs w h0 h1 hn hown
theorem heldHexS_gen (v : Value) (n base : Nat) (k0 : Int) (w : World) (h0 : 0 ≤ k0) (h1 : k0 ≤ 1000000) (hn : n ≤ 1000000) (hown : w.ownsRow base 25 2 v n (marks k0 (n * 2))) :
    Calls Try.prog 25 #[v, .int .i64 k0] w fun e w' => e = .returned (.int .i64 (k0 + 2 * n)) ∧ w = w' := by
  rcases hown.2 with ⟨rfl, rfl⟩ | ⟨g, cap, cur, rfl, _⟩
  · go_enter Try.func25, Try.ntmps25
    go_wp2_with fail
    go_loop [1, 5] (fun k i => k = .int .i64 k0 ∧ i = .int .i64 0) (fun _ _ => 0)
    case atStart => exact ⟨rfl, rfl⟩
    case round =>
      obtain ⟨rfl, rfl⟩ := hrel
      go_wp2_with fail
      go_ret
      exact ⟨ret_int (by simp), rfl⟩
  · exact heldHexS_own g n cap base k0 w h0 h1 hn hown

/-- The first mark of the inner list number i. -/
def kk (L : List (List (Int × Int))) (i : Nat) : Int := 1 + 2 * (((L.take i).map List.length).sum : Nat)
theorem kk_zero (L : List (List (Int × Int))) : kk L 0 = 1 := by simp [kk]
theorem kk_succ {L : List (List (Int × Int))} {i : Nat} {l : List (Int × Int)} (h : L[i]? = some l) : kk L (i + 1) = kk L i + 2 * l.length := by
  obtain ⟨hi, rfl⟩ := List.getElem?_eq_some_iff.1 h
  unfold kk
  rw [List.take_succ_eq_append_getElem hi, List.map_append, List.sum_append]
  simp
  omega
theorem kk_bd {L : List (List (Int × Int))} (hi : ∀ l ∈ L, l.length ≤ 100) : ∀ i, i ≤ L.length → 1 ≤ kk L i ∧ kk L i ≤ 1 + 200 * i
  | 0, _ => by simp [kk]
  | i + 1, h => by
    have ih := kk_bd hi i (by omega)
    have hl : L[i]? = some (L[i]'(by omega)) := List.getElem?_eq_getElem _
    have := hi _ (List.mem_of_getElem? hl)
    rw [kk_succ hl]
    omega

/-- All cells of the inner lists bear their marks. -/
structure MarkHH (w : World) (base : Nat) (v : Value) (L : List (List (Int × Int))) (vs : List Value) : Prop where
  row : w.ownsRow base 32 1 v L.length vs
  inn : ∀ (i : Nat) (x : Value) (l : List (Int × Int)), vs[i]? = some x → L[i]? = some l → w.ownsRow base 25 2 x l.length (marks (kk L i) (l.length * 2))
theorem MarkHH.keep {w w' : World} {base : Nat} {v : Value} {L : List (List (Int × Int))} {vs : List Value} (h : MarkHH w base v L vs) (k : Kp w w') : MarkHH w' base v L vs :=
  ⟨ownsRow_keep h.row k, fun i x l hx hl => ownsRow_keep (h.inn i x l hx hl) k⟩

set_option maxHeartbeats 1000000 in
theorem markHexSS_any (v : Value) (L : List (List (Int × Int))) (vs : List Value) (base : Nat) (W0 w : World) (ho : OwnHH w base v L vs) (hK : Kp W0 w) (hb : W0.heap.size ≤ base) (hl : L.length ≤ 1000) (hi : ∀ l ∈ L, l.length ≤ 100) :
    Calls Try.prog 14 #[v, .int .i64 1] w fun e w' => e = .returned (.int .i64 (kk L L.length)) ∧ MarkHH w' base v L vs ∧ Kp W0 w' := by
  have HO := Lib.hid ho
  have HI := Lib.hid hi
  have hlen := ho.len
  have HK := Lib.hid (kk_bd hi)
  rcases ho.row.2 with ⟨rfl, hn0⟩ | ⟨g, cap, cur, rfl, _⟩
  · have hL : L = [] := List.eq_nil_of_length_eq_zero hn0
    subst hL
    clear hi ho HK HI hlen hn0
    go_enter Try.func14, Try.ntmps14
    go_wp2_with fail
    go_loop [1, 5] (fun k i => k = .int .i64 1 ∧ i = .int .i64 0) (fun _ _ => 0)
    case atStart => exact ⟨rfl, rfl⟩
    case round =>
      obtain ⟨rfl, rfl⟩ := hrel
      go_wp2_with fail
      go_ret
      exact ⟨rfl, ⟨HO.out.row, fun i x l hx hl => by simp at hl⟩, hK⟩
  · have HLn := Lib.hid hlen
    obtain ⟨n, hn⟩ : ∃ n, L.length = n := ⟨_, rfl⟩
    have HN := Lib.hid hn
    rw [hn] at hl ⊢
    clear hi ho hlen hn
    go_enter Try.func14, Try.ntmps14
    go_wp2_with fail
    go_loopw [1, 5] (fun kx i wr => ∃ t : Nat, t ≤ n ∧ i = .int .i64 t ∧ kx = .int .i64 (kk L t) ∧ Hid (wr.ownsRow base 32 1 (.slice (some ⟨g, 0, none⟩) n cap) n vs ∧
      (∀ (i : Nat) (x : Value) (l : List (Int × Int)), i < t → vs[i]? = some x → L[i]? = some l → wr.ownsRow base 25 2 x l.length (marks (kk L i) (l.length * 2))) ∧ (∀ (i : Nat) (x : Value) (l : List (Int × Int)), t ≤ i → vs[i]? = some x → L[i]? = some l → OwnH wr base x l) ∧ Kp W0 wr)) (fun _ i _ => n - (intOf i).toNat)
    case atStart => exact ⟨0, by omega, rfl, by rw [kk_zero], Lib.hid ⟨by have := HO.out.row; rw [HN.out] at this; exact this, fun i x l hi => absurd hi (by omega), fun i x l _ hx hl => HO.out.inn i x l hx hl, hK⟩⟩
    case round =>
      obtain ⟨t, ht, rfl, rfl, hR⟩ := hrel
      by_cases hlt : t < n
      · have hlt' : (t : Int) < n := by omega
        obtain ⟨x, hx⟩ : ∃ x, vs[t]? = some x := ⟨vs[t]'(by have := HLn.out; have := HN.out; omega), List.getElem?_eq_getElem _⟩
        obtain ⟨l, hl2⟩ : ∃ l, L[t]? = some l := ⟨L[t]'(by have := HN.out; omega), List.getElem?_eq_getElem _⟩
        have c0 : wr.cell? ⟨g, t, none⟩ = some x := (hR.out.1.cellAt t (by have : vs.length = n * 1 := hR.out.1.1; omega)).trans hx
        have kb := HK.out t (by have := HN.out; omega)
        have hll := HI.out l (List.mem_of_getElem? hl2)
        have hks := Lib.hid (kk_succ hl2)
        have HX := Lib.hid (And.intro hx hl2)
        have hn1000 : (t : Int) ≤ 1000 := by omega
        have OX := Lib.hid (hR.out.2.2.1 t x l (Nat.le_refl _) hx hl2)
        clear hx hl2
        go_wp2_with fail
        refine (markHexS_gen x l.length base _ _ _ (by omega) (by omega) (by omega) OX.out).mono ?_
        rintro e1 w1 ⟨rfl, om, gm⟩
        have R1 : Hid (w1.ownsRow base 32 1 (.slice (some ⟨g, 0, none⟩) n cap) n vs ∧
          (∀ (i : Nat) (y : Value) (m : List (Int × Int)), i < t + 1 → vs[i]? = some y → L[i]? = some m → w1.ownsRow base 25 2 y m.length (marks (kk L i) (m.length * 2))) ∧ (∀ (i : Nat) (y : Value) (m : List (Int × Int)), t + 1 ≤ i → vs[i]? = some y → L[i]? = some m → OwnH w1 base y m) ∧ Kp W0 w1) := Lib.hid (by
            have ne : ∀ (i : Nat) (y : Value), i ≠ t → vs[i]? = some y → y.ownBlock = none ∨ y.ownBlock ≠ x.ownBlock := fun i y hne hy => by
              cases hv : y.ownBlock
              · exact .inl rfl
              · rename_i g'
                exact .inr fun e => HO.out.two i t y x g' hne hy HX.out.1 hv e.symm
            refine ⟨World.ownsRow.kept hR.out.1 gm ?_, fun i y m hi hy hm => ?_, fun i y m hi hy hm => ?_, hR.out.2.2.2.grown gm (fun k e => Nat.le_trans hb (World.ownsRow.lt OX.out k e).1)⟩
            · right
              intro e
              exact HO.out.out t x g HX.out.1 e.symm rfl
            · by_cases hit : i = t
              · subst hit
                obtain rfl := Option.some.inj (HX.out.1.symm.trans hy)
                obtain rfl := Option.some.inj (HX.out.2.symm.trans hm)
                exact om
              · exact World.ownsRow.kept (hR.out.2.1 i y m (by omega) hy hm) gm (ne i y hit hy)
            · exact World.ownsRow.kept (hR.out.2.2.1 i y m (by omega) hy hm) gm (ne i y (by omega) hy))
        clear om gm hR
        rw [← hks.out]
        go_wp2_with fail
        go_roundw
        case rel => exact ⟨t + 1, by omega, by go_num, rfl, R1⟩
        case measure => simp [intOf]; omega
      · obtain rfl : t = n := by omega
        go_wp2_with fail
        go_ret
        refine ⟨rfl, ⟨?_, fun i x l hx hl => hR.out.2.1 i x l ?_ hx hl⟩, hR.out.2.2.2⟩
        · rw [HN.out]
          exact hR.out.1
        · have := (List.getElem?_eq_some_iff.1 hl).1
          have := HN.out
          omega

theorem heldHexSS_any (v : Value) (L : List (List (Int × Int))) (vs : List Value) (base : Nat) (w : World) (ho : MarkHH w base v L vs) (hl : L.length ≤ 1000) (hi : ∀ l ∈ L, l.length ≤ 100) :
    Calls Try.prog 15 #[v, .int .i64 1] w fun e w' => e = .returned (.int .i64 (kk L L.length)) ∧ w = w' := by
  have HO := Lib.hid ho
  have HI := Lib.hid hi
  have HK := Lib.hid (kk_bd hi)
  rcases ho.row.2 with ⟨rfl, hn0⟩ | ⟨g, cap, cur, rfl, _⟩
  · have hL : L = [] := List.eq_nil_of_length_eq_zero hn0
    subst hL
    clear hi ho HK HI hn0 HO
    go_enter Try.func15, Try.ntmps15
    go_wp2_with fail
    go_loop [1, 5] (fun k i => k = .int .i64 1 ∧ i = .int .i64 0) (fun _ _ => 0)
    case atStart => exact ⟨rfl, rfl⟩
    case round =>
      obtain ⟨rfl, rfl⟩ := hrel
      go_wp2_with fail
      go_ret
      exact ⟨rfl, rfl⟩
  · have hlen : vs.length = L.length * 1 := ho.row.1
    have HLn := Lib.hid hlen
    obtain ⟨n, hn⟩ : ∃ n, L.length = n := ⟨_, rfl⟩
    have HN := Lib.hid hn
    rw [hn] at hl ⊢
    clear hi ho hlen hn
    go_enter Try.func15, Try.ntmps15
    go_wp2_with fail
    go_loop [1, 5] (fun kx i => ∃ t : Nat, t ≤ n ∧ i = .int .i64 t ∧ kx = .int .i64 (kk L t)) (fun _ i => n - (intOf i).toNat)
    case atStart => exact ⟨0, by omega, rfl, by rw [kk_zero]⟩
    case round =>
      obtain ⟨t, ht, rfl, rfl⟩ := hrel
      by_cases hlt : t < n
      · have hlt' : (t : Int) < n := by omega
        obtain ⟨x, hx⟩ : ∃ x, vs[t]? = some x := ⟨vs[t]'(by have := HLn.out; have := HN.out; omega), List.getElem?_eq_getElem _⟩
        obtain ⟨l, hl2⟩ : ∃ l, L[t]? = some l := ⟨L[t]'(by have := HN.out; omega), List.getElem?_eq_getElem _⟩
        have c0 : w.cell? ⟨g, t, none⟩ = some x := (HO.out.row.cellAt t (by have := HLn.out; have := HN.out; omega)).trans hx
        have kb := HK.out t (by have := HN.out; omega)
        have hll := HI.out l (List.mem_of_getElem? hl2)
        have hks := Lib.hid (kk_succ hl2)
        have kb2 := HK.out (t + 1) (by have := HN.out; omega)
        have OX := Lib.hid (HO.out.inn t x l hx hl2)
        clear hx hl2
        go_wp2_with fail
        refine (heldHexS_gen x l.length base _ _ (by omega) (by omega) (by omega) OX.out).mono ?_
        rintro e1 w1 ⟨rfl, rfl⟩
        rw [← hks.out]
        go_wp2_with fail
        go_round
        case rel => exact ⟨t + 1, by omega, by go_num, rfl⟩
        case measure => simp [intOf]; omega
      · obtain rfl : t = n := by omega
        go_wp2_with fail
        go_ret
        exact ⟨rfl, rfl⟩

end Go.Proofs.Ytpfnljhnjembpaa
