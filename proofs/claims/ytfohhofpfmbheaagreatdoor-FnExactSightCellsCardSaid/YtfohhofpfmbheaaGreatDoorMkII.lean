/-
  Marks of lists of lists of integers that the call owns, and the look at them. Nothing else is written.
-/
import Derived.Test.YtfohhofpfmbheaaGreatDoorQg
namespace Go.Proofs.YtfohhofpfmbheaaGreatDoor
open Go.RowKit

/-- The first mark of the inner list number i. -/
def kkI (L : List (List Int)) (i : Nat) : Int := 1 + (((L.take i).map List.length).sum : Nat)
theorem kkI_zero (L : List (List Int)) : kkI L 0 = 1 := by simp [kkI]
theorem kkI_succ {L : List (List Int)} {i : Nat} {l : List Int} (h : L[i]? = some l) : kkI L (i + 1) = kkI L i + l.length := by
  obtain ⟨hi, rfl⟩ := List.getElem?_eq_some_iff.1 h
  unfold kkI
  rw [List.take_succ_eq_append_getElem hi, List.map_append, List.sum_append]
  simp
  omega
theorem kkI_bd {L : List (List Int)} (hi : ∀ l ∈ L, l.length ≤ 100) : ∀ i, i ≤ L.length → 1 ≤ kkI L i ∧ kkI L i ≤ 1 + 100 * i
  | 0, _ => by simp [kkI]
  | i + 1, h => by
    have ih := kkI_bd hi i (by omega)
    have hl : L[i]? = some (L[i]'(by omega)) := List.getElem?_eq_getElem _
    have := hi _ (List.mem_of_getElem? hl)
    rw [kkI_succ hl]
    omega

/-- All cells of the inner lists bear their marks. -/
structure MarkII (w : World) (base : Nat) (v : Value) (L : List (List Int)) (vs : List Value) : Prop where
  row : w.ownsRow base 26 1 v L.length vs
  inn : ∀ (i : Nat) (x : Value) (l : List Int), vs[i]? = some x → L[i]? = some l → w.ownsRow base 3 1 x l.length (marks (kkI L i) l.length)
theorem MarkII.keep {w w' : World} {base : Nat} {v : Value} {L : List (List Int)} {vs : List Value} (h : MarkII w base v L vs) (k : Kp w w') : MarkII w' base v L vs :=
  ⟨ownsRow_keep h.row k, fun i x l hx hl => ownsRow_keep (h.inn i x l hx hl) k⟩

set_option maxHeartbeats 1000000 in
theorem markIntSS_any (v : Value) (L : List (List Int)) (vs : List Value) (base : Nat) (W0 w : World) (ho : OwnII w base v L vs) (hK : Kp W0 w) (hb : W0.heap.size ≤ base) (hl : L.length ≤ 1000) (hi : ∀ l ∈ L, l.length ≤ 100) :
    Calls Tryz.prog 18 #[v, .int .i64 1] w fun e w' => e = .returned (.int .i64 (kkI L L.length)) ∧ MarkII w' base v L vs ∧ Kp W0 w' := by
  have HO := Lib.hid ho
  have HI := Lib.hid hi
  have hlen := ho.len
  have HK := Lib.hid (kkI_bd hi)
  rcases ho.row.2 with ⟨rfl, hn0⟩ | ⟨g, cap, cur, rfl, _⟩
  · have hL : L = [] := List.eq_nil_of_length_eq_zero hn0
    subst hL
    clear hi ho HK HI hlen hn0
    go_enter Tryz.func18, Tryz.ntmps18
    go_wp2_with fail
    go_loop [1, 5] (fun k i => k = .int .i64 1 ∧ i = .int .i64 0) (fun _ _ => 0)
    case atStart => exact ⟨rfl, rfl⟩
    case round =>
      obtain ⟨rfl, rfl⟩ := hrel
      go_wp2_with fail
      go_ret
      exact ⟨rfl, ⟨HO.out.row, fun i x l hx hl => by simp at hl⟩, hK⟩
  · have HLn := Lib.hid hlen
    obtain ⟨n, hn⟩ : ∃ n, L.length = n := ⟨_, rfl⟩
    have HN := Lib.hid hn
    rw [hn] at hl ⊢
    clear hi ho hlen hn
    go_enter Tryz.func18, Tryz.ntmps18
    go_wp2_with fail
    go_loopw [1, 5] (fun kx i wr => ∃ t : Nat, t ≤ n ∧ i = .int .i64 t ∧ kx = .int .i64 (kkI L t) ∧ Hid (wr.ownsRow base 26 1 (.slice (some ⟨g, 0, none⟩) n cap) n vs ∧
      (∀ (i : Nat) (x : Value) (l : List Int), i < t → vs[i]? = some x → L[i]? = some l → wr.ownsRow base 3 1 x l.length (marks (kkI L i) l.length)) ∧ (∀ (i : Nat) (x : Value) (l : List Int), t ≤ i → vs[i]? = some x → L[i]? = some l → OwnI wr base x l) ∧ Kp W0 wr)) (fun _ i _ => n - (intOf i).toNat)
    case atStart => exact ⟨0, by omega, rfl, by rw [kkI_zero], Lib.hid ⟨by have := HO.out.row; rw [HN.out] at this; exact this, fun i x l hi => absurd hi (by omega), fun i x l _ hx hl => HO.out.inn i x l hx hl, hK⟩⟩
    case round =>
      obtain ⟨t, ht, rfl, rfl, hR⟩ := hrel
      by_cases hlt : t < n
      · have hlt' : (t : Int) < n := by omega
        obtain ⟨x, hx⟩ : ∃ x, vs[t]? = some x := ⟨vs[t]'(by have := HLn.out; have := HN.out; omega), List.getElem?_eq_getElem _⟩
        obtain ⟨l, hl2⟩ : ∃ l, L[t]? = some l := ⟨L[t]'(by have := HN.out; omega), List.getElem?_eq_getElem _⟩
        have c0 : wr.cell? ⟨g, t, none⟩ = some x := (hR.out.1.cellAt t (by have : vs.length = n * 1 := hR.out.1.1; omega)).trans hx
        have kb := HK.out t (by have := HN.out; omega)
        have hll := HI.out l (List.mem_of_getElem? hl2)
        have hks := Lib.hid (kkI_succ hl2)
        have HX := Lib.hid (And.intro hx hl2)
        have hn1000 : (t : Int) ≤ 1000 := by omega
        have OX := Lib.hid (hR.out.2.2.1 t x l (Nat.le_refl _) hx hl2)
        clear hx hl2
        go_wp2_with fail
        refine (markIntS_own x l.length base _ _ _ (by omega) (by omega) (by omega) OX.out).mono ?_
        rintro e1 w1 ⟨rfl, om, gm⟩
        have R1 : Hid (w1.ownsRow base 26 1 (.slice (some ⟨g, 0, none⟩) n cap) n vs ∧
          (∀ (i : Nat) (y : Value) (m : List Int), i < t + 1 → vs[i]? = some y → L[i]? = some m → w1.ownsRow base 3 1 y m.length (marks (kkI L i) m.length)) ∧ (∀ (i : Nat) (y : Value) (m : List Int), t + 1 ≤ i → vs[i]? = some y → L[i]? = some m → OwnI w1 base y m) ∧ Kp W0 w1) := Lib.hid (by
            have ne : ∀ (i : Nat) (y : Value), i ≠ t → vs[i]? = some y → y.ownBlock = none ∨ y.ownBlock ≠ x.ownBlock := fun i y hne hy => by
              cases hv : y.ownBlock
              · exact .inl rfl
              · rename_i g'
                exact .inr fun e => HO.out.two i t y x g' hne hy HX.out.1 hv e.symm
            refine ⟨World.ownsRow.kept hR.out.1 gm ?_, fun i y m hi hy hm => ?_, fun i y m hi hy hm => ?_, hR.out.2.2.2.grown gm (fun k e => Nat.le_trans hb (World.ownsRow.lt OX.out k e).1)⟩
            · right
              intro e
              exact HO.out.out t x g HX.out.1 e.symm rfl
            · by_cases hit : i = t
              · subst hit
                obtain rfl := Option.some.inj (HX.out.1.symm.trans hy)
                obtain rfl := Option.some.inj (HX.out.2.symm.trans hm)
                exact om
              · exact World.ownsRow.kept (hR.out.2.1 i y m (by omega) hy hm) gm (ne i y hit hy)
            · exact World.ownsRow.kept (hR.out.2.2.1 i y m (by omega) hy hm) gm (ne i y (by omega) hy))
        clear om gm hR
        rw [← hks.out]
        go_wp2_with fail
        go_roundw
        case rel => exact ⟨t + 1, by omega, by go_num, rfl, R1⟩
        case measure => simp [intOf]; omega
      · obtain rfl : t = n := by omega
        go_wp2_with fail
        go_ret
        refine ⟨rfl, ⟨?_, fun i x l hx hl => hR.out.2.1 i x l ?_ hx hl⟩, hR.out.2.2.2⟩
        · rw [HN.out]
          exact hR.out.1
        · have := (List.getElem?_eq_some_iff.1 hl).1
          have := HN.out
          omega

theorem heldIntSS_any (v : Value) (L : List (List Int)) (vs : List Value) (base : Nat) (w : World) (ho : MarkII w base v L vs) (hl : L.length ≤ 1000) (hi : ∀ l ∈ L, l.length ≤ 100) :
    Calls Tryz.prog 19 #[v, .int .i64 1] w fun e w' => e = .returned (.int .i64 (kkI L L.length)) ∧ Kp w w' := by
  have HO := Lib.hid ho
  have HI := Lib.hid hi
  have HK := Lib.hid (kkI_bd hi)
  rcases ho.row.2 with ⟨rfl, hn0⟩ | ⟨g, cap, cur, rfl, _⟩
  · have hL : L = [] := List.eq_nil_of_length_eq_zero hn0
    subst hL
    clear hi ho HK HI hn0 HO
    go_enter Tryz.func19, Tryz.ntmps19
    go_wp2_with fail
    go_loop [1, 5] (fun k i => k = .int .i64 1 ∧ i = .int .i64 0) (fun _ _ => 0)
    case atStart => exact ⟨rfl, rfl⟩
    case round =>
      obtain ⟨rfl, rfl⟩ := hrel
      go_wp2_with fail
      go_ret
      exact ⟨rfl, Kp.refl w⟩
  · have hlen : vs.length = L.length * 1 := ho.row.1
    have HLn := Lib.hid hlen
    obtain ⟨n, hn⟩ : ∃ n, L.length = n := ⟨_, rfl⟩
    have HN := Lib.hid hn
    rw [hn] at hl ⊢
    clear hi ho hlen hn
    go_enter Tryz.func19, Tryz.ntmps19
    go_wp2_with fail
    go_loopw [1, 5] (fun kx i wr => ∃ t : Nat, t ≤ n ∧ i = .int .i64 t ∧ kx = .int .i64 (kkI L t) ∧ Kp w wr) (fun _ i _ => n - (intOf i).toNat)
    case atStart => exact ⟨0, by omega, rfl, by rw [kkI_zero], Kp.refl w⟩
    case round =>
      obtain ⟨t, ht, rfl, rfl, kr⟩ := hrel
      by_cases hlt : t < n
      · have hlt' : (t : Int) < n := by omega
        obtain ⟨x, hx⟩ : ∃ x, vs[t]? = some x := ⟨vs[t]'(by have := HLn.out; have := HN.out; omega), List.getElem?_eq_getElem _⟩
        obtain ⟨l, hl2⟩ : ∃ l, L[t]? = some l := ⟨L[t]'(by have := HN.out; omega), List.getElem?_eq_getElem _⟩
        have c0 : wr.cell? ⟨g, t, none⟩ = some x := kr.cell ((HO.out.row.cellAt t (by have := HLn.out; have := HN.out; omega)).trans hx)
        have kb := HK.out t (by have := HN.out; omega)
        have hll := HI.out l (List.mem_of_getElem? hl2)
        have hks := Lib.hid (kkI_succ hl2)
        have kb2 := HK.out (t + 1) (by have := HN.out; omega)
        have OX := Lib.hid (ownsRow_keep (HO.out.inn t x l hx hl2) kr)
        clear hx hl2
        go_wp2_with fail
        refine (heldIntS_own x l.length base _ _ (by omega) (by omega) (by omega) OX.out).mono ?_
        rintro e1 w1 ⟨rfl, k1⟩
        rw [← hks.out]
        go_wp2_with fail
        go_roundw
        case rel => exact ⟨t + 1, by omega, by go_num, rfl, kr.trans k1⟩
        case measure => simp [intOf]; omega
      · obtain rfl : t = n := by omega
        go_wp2_with fail
        go_ret
        exact ⟨rfl, kr⟩

end Go.Proofs.YtfohhofpfmbheaaGreatDoor
