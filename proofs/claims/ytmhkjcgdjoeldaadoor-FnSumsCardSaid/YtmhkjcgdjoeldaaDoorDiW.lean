/-
  Counts of lists of faces by their sum: both sides' lists of counts. Nothing that was there is changed.
-/
import Derived.Test.YtmhkjcgdjoeldaaDoorDiL
namespace Go.Proofs.YtmhkjcgdjoeldaaDoor
open Go.RowKit

def getI (l : List Int) (k : Nat) : Int := (l[k]?).getD 0
def addF (acc : List Int) (s : Nat) (x : Int) : Nat → List Int
  | 0 => acc
  | z + 1 => (addF acc s x z).set (s + (z + 1)) (getI (addF acc s x z) (s + (z + 1)) + x)
def accL (l : List Int) : Nat → List Int
  | 0 => List.replicate (l.length + 6) 0
  | q + 1 => addF (accL l q) q (getI l q) 6
def waysL : Nat → List Int
  | 0 => [1]
  | n + 1 => accL (waysL n) (waysL n).length
theorem addF_len (acc : List Int) (s : Nat) (x : Int) : ∀ z, (addF acc s x z).length = acc.length
  | 0 => rfl
  | z + 1 => by rw [addF, List.length_set, addF_len acc s x z]
theorem accL_len (l : List Int) : ∀ q, (accL l q).length = l.length + 6
  | 0 => by simp [accL]
  | q + 1 => by rw [accL, addF_len, accL_len l q]
theorem waysL_len : ∀ n, (waysL n).length = 6 * n + 1
  | 0 => rfl
  | n + 1 => by rw [waysL, accL_len, waysL_len n]; omega
/-- All numbers of the list lie in 0..B. -/
def NB (B : Int) (l : List Int) : Prop := ∀ (k : Nat) (x : Int), l[k]? = some x → 0 ≤ x ∧ x ≤ B
theorem NB.get {B : Int} {l : List Int} (h : NB B l) (hB : 0 ≤ B) (k : Nat) : 0 ≤ getI l k ∧ getI l k ≤ B := by
  unfold getI
  cases hk : l[k]?
  · exact ⟨Int.le_refl _, hB⟩
  · exact h k _ hk
theorem NB.le {B C : Int} {l : List Int} (h : NB B l) (hc : B ≤ C) : NB C l := fun k x hx => ⟨(h k x hx).1, Int.le_trans (h k x hx).2 hc⟩
theorem addF_bd {acc : List Int} {C B x : Int} {s : Nat} (hC : 0 ≤ C) (h : NB C acc) (h0 : 0 ≤ x) (h1 : x ≤ B) : ∀ z : Nat, NB (C + (z : Int) * B) (addF acc s x z)
  | 0 => by simpa [addF] using h
  | z + 1 => by
    have ih := addF_bd hC h h0 h1 z (s := s)
    have hz : 0 ≤ (z : Int) * B := Int.mul_nonneg (by omega) (by omega)
    have hg := ih.get (by omega) (s + (z + 1))
    have e : C + ((z + 1 : Nat) : Int) * B = C + (z : Int) * B + B := by rw [Int.natCast_succ, Int.add_mul]; omega
    intro k y hy
    rw [addF, List.getElem?_set] at hy
    rw [e]
    split at hy
    · split at hy
      · obtain rfl := Option.some.inj hy
        omega
      · cases hy
    · have := ih k y hy
      omega
theorem accL_bd {l : List Int} {B : Int} (hB : 0 ≤ B) (h : NB B l) : ∀ q : Nat, NB ((q : Int) * (6 * B)) (accL l q)
  | 0 => by
    intro k x hx
    rw [accL, List.getElem?_replicate] at hx
    split at hx
    · obtain rfl := Option.some.inj hx
      simp
    · cases hx
  | q + 1 => by
    have ih := accL_bd hB h q
    have hg := h.get hB q
    have hq : 0 ≤ (q : Int) * (6 * B) := Int.mul_nonneg (by omega) (by omega)
    have := addF_bd (s := q) hq ih hg.1 hg.2 6
    have e : ((q + 1 : Nat) : Int) * (6 * B) = (q : Int) * (6 * B) + 6 * B := by rw [Int.natCast_succ, Int.add_mul]; omega
    rw [e]
    exact this.le (by omega)
def wbd : Nat → Int
  | 0 => 1
  | n + 1 => (6 * (n : Int) + 1) * (6 * wbd n)
theorem wbd_nonneg : ∀ n, 0 ≤ wbd n
  | 0 => by decide
  | n + 1 => Int.mul_nonneg (by omega) (by have := wbd_nonneg n; omega)
theorem waysL_bd : ∀ n, NB (wbd n) (waysL n)
  | 0 => by
    intro k x hx
    rcases k with _ | k
    · simp [waysL] at hx
      subst hx
      decide
    · simp [waysL] at hx
  | n + 1 => by
    have := accL_bd (wbd_nonneg n) (waysL_bd n) (waysL n).length
    rw [waysL_len] at this
    rw [waysL, wbd, waysL_len]
    exact this.le (by rw [show ((6 * n + 1 : Nat) : Int) = 6 * (n : Int) + 1 by omega]; exact Int.le_refl _)
theorem wbd_le {n : Nat} (h : n ≤ 8) : wbd n ≤ 4000000000000000 := by
  have H : ∀ a : Fin 9, wbd a.val ≤ 4000000000000000 := by decide +kernel
  exact H ⟨n, by omega⟩
/-- What lies in the lists under way is far below the greatest number. -/
theorem step_bd {n q z : Nat} (hn : n ≤ 7) (hq : q ≤ 6 * n + 1) (hz : z ≤ 6) :
    NB 10000000000000000 (addF (accL (waysL n) q) q (getI (waysL n) q) z) ∧ 0 ≤ getI (waysL n) q ∧ getI (waysL n) q ≤ 4000000000000000 := by
  have h0 := wbd_nonneg n
  have h := waysL_bd n
  have hg := h.get h0 q
  have ha := accL_bd h0 h q
  have h8 := wbd_le (n := n + 1) (by omega)
  rw [wbd] at h8
  have h9 := wbd_le (n := n) (by omega)
  have hqq : (q : Int) * (6 * wbd n) ≤ (6 * (n : Int) + 1) * (6 * wbd n) := Int.mul_le_mul_of_nonneg_right (by omega) (by omega)
  have hqp : 0 ≤ (q : Int) * (6 * wbd n) := Int.mul_nonneg (by omega) (by omega)
  have hzz : (z : Int) * wbd n ≤ 6 * wbd n := Int.mul_le_mul_of_nonneg_right (by omega) h0
  have hA := addF_bd (s := q) hqp ha hg.1 hg.2 z
  have h6 : 6 * wbd n ≤ 4000000000000000 := by
    have : 1 * (6 * wbd n) ≤ (6 * (n : Int) + 1) * (6 * wbd n) := Int.mul_le_mul_of_nonneg_right (by omega) (by omega)
    omega
  exact ⟨hA.le (by omega), hg.1, by omega⟩
theorem getI_some {l : List Int} {k : Nat} (h : k < l.length) : l[k]? = some (getI l k) := by
  unfold getI
  rw [List.getElem?_eq_getElem h]
  rfl
theorem OwnI.at {w : World} {base n g cap : Nat} {l : List Int} (h : OwnI w base (.slice (some ⟨g, 0, none⟩) n cap) l) {k : Nat} (hk : k < l.length) : w.cell? ⟨g, k, none⟩ = some (.int .i64 (getI l k)) := by
  obtain ⟨A, c, e, hh⟩ := h.rd
  obtain ⟨g', off, e2, hc⟩ := hh (by omega)
  simp only [Value.slice.injEq] at e
  obtain ⟨rfl, -, -⟩ := e
  simp only [Option.some.injEq, Addr.mk.injEq] at e2
  obtain ⟨rfl, rfl, -⟩ := e2
  have := hc k _ (getI_some hk)
  rwa [Nat.zero_add] at this

set_option maxRecDepth 100000 in
set_option maxHeartbeats 8000000 in
theorem waysOfSums_any (N : Nat) (w : World) (hN : N ≤ 8) :
    Calls Tryd.prog 22 #[.int .i64 (N : Int)] w fun e w' => ∃ v, e = .returned v ∧ OwnI w' w.heap.size v (waysL N) ∧ Kp w w' := by
  have own0 : Hid (OwnI (w.alloc (.cells #[.int .i64 1] 3)) w.heap.size (.slice (some ⟨w.heap.size, 0, none⟩) 1 1) (waysL 0)) := Lib.hid (World.ownsRow_lit w #[.int .i64 1] 1 (Nat.le_refl _) (by simp [maxLen]) rfl)
  go_enter Tryd.func22, Tryd.ntmps22
  go_wp2_with fail
  go_loopw [3, 10] (fun v i wx => ∃ k : Nat, k ≤ N ∧ i = .int .i64 k ∧ Hid (OwnI wx w.heap.size v (waysL k)) ∧ Kp w wx) (fun _ i _ => N - (intOf i).toNat)
  case atStart => exact ⟨0, by omega, rfl, own0, (Kp.refl _).alloc _⟩
  case round =>
    clear own0
    obtain ⟨k, hk, rfl, hO, kr⟩ := hrel
    by_cases hlt : k < N
    · have hlt' : (k : Int) < N := by omega
      have hlt2 : 0 < (N : Int) - k := by omega
      obtain ⟨A3, c3, ev, hA⟩ := hO.out.rd
      subst ev
      have HSB : Hid (∀ q z, q ≤ 6 * k + 1 → z ≤ 6 → NB 10000000000000000 (addF (accL (waysL k) q) q (getI (waysL k) q) z) ∧ 0 ≤ getI (waysL k) q ∧ getI (waysL k) q ≤ 4000000000000000) := Lib.hid (fun q z hq hz => step_bd (by omega) hq hz)
      have HSK : Hid (waysL (k + 1) = accL (waysL k) (waysL k).length) := Lib.hid rfl
      have hl6 : (waysL k).length = 6 * k + 1 := waysL_len k
      generalize waysL k = S at hl6 HSB HSK hA ⊢
      obtain ⟨n, hn⟩ : ∃ n, S.length = n := ⟨_, rfl⟩
      have HN := Lib.hid hn
      have HQ : Hid (n = 6 * k + 1) := Lib.hid (by omega)
      rw [hn] at hA HSK ⊢
      have hnb : n ≤ 100 := by omega
      have RD := Lib.hid hA
      obtain ⟨m, hm⟩ : ∃ m, m = n + 6 := ⟨_, rfl⟩
      have HMM := Lib.hid hm
      have em : IntKind.i64.wrap ((n : Int) + 6) = (m : Int) := by rw [IntWalk.i64_in _ (by omega)]; omega
      have hmk := mkInts m (by omega) wr
      have HM : Hid (OwnI (wr.alloc (.cells (madeCells #[.int .i64 0] m) 3)) wr.heap.size (.slice (some ⟨wr.heap.size, 0, none⟩) m m) (accL S 0)) := Lib.hid (by
        have := ownI_zero wr m (by omega)
        rw [accL, hn, ← hm]
        exact this)
      have HL := Lib.hid (fun q => accL_len S q)
      clear hn hA hO hl6 hm
      generalize wr = wB at *
      go_wp2_with fail
      clear hmk
      go_loopw [18] (fun i wx => ∃ q : Nat, q ≤ n ∧ i = .int .i64 q ∧ Hid (OwnI wx wB.heap.size (.slice (some ⟨wB.heap.size, 0, none⟩) m m) (accL S q)) ∧ Kp wB wx) (fun i _ => n - (intOf i).toNat)
      case atStart => exact ⟨0, by omega, rfl, HM, (Kp.refl _).alloc _⟩
      case round =>
        clear HM
        obtain ⟨q, hq, rfl, hO, kB⟩ := hrel
        by_cases hqn : q < n
        · have hqn' : (q : Int) < n := by omega
          obtain ⟨g, off, rfl, hc⟩ := RD.out (by omega)
          have a0 := kB.cell (hc q _ (getI_some (by rw [HN.out]; exact hqn)))
          have HSZ : Hid (∀ z, z ≤ 6 → NB 10000000000000000 (addF (accL S q) q (getI S q) z)) := Lib.hid fun z hz => (HSB.out q z (by have := HQ.out; omega) hz).1
          have hx := (HSB.out q 0 (by have := HQ.out; omega) (by omega)).2
          have HN1 : Hid (accL S (q + 1) = addF (accL S q) q (getI S q) 6) := Lib.hid rfl
          have HL2 := Lib.hid (HL.out q)
          have HNN := HN.out
          generalize accL S q = acc at *
          generalize getI S q = x at *
          clear hc
          go_wp2_with fail
          go_loopw [7] (fun f wx => ∃ z : Nat, z ≤ 6 ∧ f = .int .i64 ((z : Int) + 1) ∧ Hid (OwnI wx wB.heap.size (.slice (some ⟨wB.heap.size, 0, none⟩) m m) (addF acc q x z)) ∧ Kp wB wx) (fun f _ => 7 - (intOf f).toNat)
          case atStart => exact ⟨0, by omega, rfl, hO, kB⟩
          case round =>
            clear hO kB a0
            obtain ⟨z, hz, rfl, hO, kB⟩ := hrel
            by_cases hz6 : z < 6
            · have hz1 : (z : Int) + 1 ≤ 6 := by omega
              obtain ⟨J, hJ⟩ : ∃ J : Nat, J = q + (z + 1) := ⟨_, rfl⟩
              have eJ : IntKind.i64.wrap ((q : Int) + ((z : Int) + 1)) = (J : Int) := by rw [IntWalk.i64_in _ (by omega)]; omega
              have hln : (addF acc q x z).length = m := by rw [addF_len, HL2.out, HNN, HMM.out]
              have HS : Hid (addF acc q x (z + 1) = (addF acc q x z).set J (getI (addF acc q x z) J + x)) := Lib.hid (by rw [hJ]; rfl)
              have hy := (HSZ.out z (by omega)).get (by omega) J
              have b0 := hO.out.at (k := J) (by have := HMM.out; omega)
              generalize addF acc q x z = L at *
              generalize getI L J = y at *
              have ey : IntKind.i64.wrap (y + x) = y + x := IntWalk.i64_in _ (by omega)
              have hJ1 : (J : Int) < (m : Int) := by have := HMM.out; omega
              have hJ2 : J < m := by have := HMM.out; omega
              obtain ⟨⟨u9, a9⟩, f9, o9⟩ := hO.out.put hln hJ2 (y + x)
              have O9 := Lib.hid o9
              have K9 : Kp wB (wr.setCell ⟨wB.heap.size, J, none⟩ (.int .i64 (y + x))) := kB.setCell (by simp) _
              clear o9 hO kB a9 hln hJ
              go_wp2_with fail
              go_roundw
              case rel => exact ⟨z + 1, by omega, by go_num, Lib.hid (by rw [HS.out]; exact O9.out), K9⟩
              case measure => simp [intOf]; omega
            · obtain rfl : z = 6 := by omega
              have O4 : Hid (OwnI wr wB.heap.size (.slice (some ⟨wB.heap.size, 0, none⟩) m m) (accL S (q + 1))) := Lib.hid (by rw [HN1.out]; exact hO.out)
              go_wp2_with fail
              go_roundw
              case rel => exact ⟨q + 1, by omega, by go_num, O4, kB⟩
              case measure => simp [intOf]; omega
        · obtain rfl : q = n := by omega
          have O5 : Hid (OwnI wr wB.heap.size (.slice (some ⟨wB.heap.size, 0, none⟩) m m) (waysL (k + 1))) := Lib.hid (by rw [HSK.out]; exact hO.out)
          go_wp2_with fail
          go_roundw
          case rel => exact ⟨k + 1, by omega, by go_num, Lib.hid (O5.out.base kr.size), kr.trans kB⟩
          case measure => simp [intOf]; omega
    · obtain rfl : k = N := by omega
      go_wp2_with fail
      go_ret
      exact ⟨_, rfl, hO.out, kr⟩

set_option maxRecDepth 100000 in
set_option maxHeartbeats 8000000 in
theorem dWays_any (N : Nat) (w : World) (hN : N ≤ 8) :
    Calls Tryd.prog 24 #[.int .i64 (N : Int)] w fun e w' => ∃ v, e = .returned v ∧ OwnI w' w.heap.size v (waysL N) ∧ Kp w w' := by
  have own0 : Hid (OwnI (w.alloc (.cells #[.int .i64 1] 3)) w.heap.size (.slice (some ⟨w.heap.size, 0, none⟩) 1 1) (waysL 0)) := Lib.hid (World.ownsRow_lit w #[.int .i64 1] 1 (Nat.le_refl _) (by simp [maxLen]) rfl)
  go_enter Tryd.func24, Tryd.ntmps24
  go_wp2_with fail
  go_loopw [0, 3] (fun i v wx => ∃ k : Nat, k ≤ N ∧ i = .int .i64 ((N : Int) - k) ∧ Hid (OwnI wx w.heap.size v (waysL k)) ∧ Kp w wx) (fun i _ _ => (intOf i).toNat)
  case atStart => exact ⟨0, by omega, by simp, own0, (Kp.refl _).alloc _⟩
  case round =>
    clear own0
    obtain ⟨k, hk, rfl, hO, kr⟩ := hrel
    by_cases hlt : k < N
    · have hlt' : (k : Int) < N := by omega
      have hlt2 : 0 < (N : Int) - k := by omega
      obtain ⟨A3, c3, ev, hA⟩ := hO.out.rd
      subst ev
      have HSB : Hid (∀ q z, q ≤ 6 * k + 1 → z ≤ 6 → NB 10000000000000000 (addF (accL (waysL k) q) q (getI (waysL k) q) z) ∧ 0 ≤ getI (waysL k) q ∧ getI (waysL k) q ≤ 4000000000000000) := Lib.hid (fun q z hq hz => step_bd (by omega) hq hz)
      have HSK : Hid (waysL (k + 1) = accL (waysL k) (waysL k).length) := Lib.hid rfl
      have hl6 : (waysL k).length = 6 * k + 1 := waysL_len k
      generalize waysL k = S at hl6 HSB HSK hA ⊢
      obtain ⟨n, hn⟩ : ∃ n, S.length = n := ⟨_, rfl⟩
      have HN := Lib.hid hn
      have HQ : Hid (n = 6 * k + 1) := Lib.hid (by omega)
      rw [hn] at hA HSK ⊢
      have hnb : n ≤ 100 := by omega
      have RD := Lib.hid hA
      obtain ⟨m, hm⟩ : ∃ m, m = n + 6 := ⟨_, rfl⟩
      have HMM := Lib.hid hm
      have em : IntKind.i64.wrap ((n : Int) + 6) = (m : Int) := by rw [IntWalk.i64_in _ (by omega)]; omega
      have hmk := mkInts m (by omega) wr
      have HM : Hid (OwnI (wr.alloc (.cells (madeCells #[.int .i64 0] m) 3)) wr.heap.size (.slice (some ⟨wr.heap.size, 0, none⟩) m m) (accL S 0)) := Lib.hid (by
        have := ownI_zero wr m (by omega)
        rw [accL, hn, ← hm]
        exact this)
      have HL := Lib.hid (fun q => accL_len S q)
      clear hn hA hO hl6 hm
      generalize wr = wB at *
      go_wp2_with fail
      clear hmk
      go_loopw [19] (fun i wx => ∃ q : Nat, q ≤ n ∧ i = .int .i64 q ∧ Hid (OwnI wx wB.heap.size (.slice (some ⟨wB.heap.size, 0, none⟩) m m) (accL S q)) ∧ Kp wB wx) (fun i _ => n - (intOf i).toNat)
      case atStart => exact ⟨0, by omega, rfl, HM, (Kp.refl _).alloc _⟩
      case round =>
        clear HM
        obtain ⟨q, hq, rfl, hO, kB⟩ := hrel
        by_cases hqn : q < n
        · have hqn' : (q : Int) < n := by omega
          obtain ⟨g, off, rfl, hc⟩ := RD.out (by omega)
          have a0 := kB.cell (hc q _ (getI_some (by rw [HN.out]; exact hqn)))
          have HSZ : Hid (∀ z, z ≤ 6 → NB 10000000000000000 (addF (accL S q) q (getI S q) z)) := Lib.hid fun z hz => (HSB.out q z (by have := HQ.out; omega) hz).1
          have hx := (HSB.out q 0 (by have := HQ.out; omega) (by omega)).2
          have HN1 : Hid (accL S (q + 1) = addF (accL S q) q (getI S q) 6) := Lib.hid rfl
          have HL2 := Lib.hid (HL.out q)
          have HNN := HN.out
          generalize accL S q = acc at *
          generalize getI S q = x at *
          clear hc
          go_wp2_with fail
          go_loopw [7] (fun f wx => ∃ z : Nat, z ≤ 6 ∧ f = .int .i64 ((z : Int) + 1) ∧ Hid (OwnI wx wB.heap.size (.slice (some ⟨wB.heap.size, 0, none⟩) m m) (addF acc q x z)) ∧ Kp wB wx) (fun f _ => 7 - (intOf f).toNat)
          case atStart => exact ⟨0, by omega, rfl, hO, kB⟩
          case round =>
            clear hO kB a0
            obtain ⟨z, hz, rfl, hO, kB⟩ := hrel
            by_cases hz6 : z < 6
            · have hz1 : (z : Int) + 1 ≤ 6 := by omega
              obtain ⟨J, hJ⟩ : ∃ J : Nat, J = q + (z + 1) := ⟨_, rfl⟩
              have eJ : IntKind.i64.wrap ((q : Int) + ((z : Int) + 1)) = (J : Int) := by rw [IntWalk.i64_in _ (by omega)]; omega
              have hln : (addF acc q x z).length = m := by rw [addF_len, HL2.out, HNN, HMM.out]
              have HS : Hid (addF acc q x (z + 1) = (addF acc q x z).set J (getI (addF acc q x z) J + x)) := Lib.hid (by rw [hJ]; rfl)
              have hy := (HSZ.out z (by omega)).get (by omega) J
              have b0 := hO.out.at (k := J) (by have := HMM.out; omega)
              generalize addF acc q x z = L at *
              generalize getI L J = y at *
              have ey : IntKind.i64.wrap (y + x) = y + x := IntWalk.i64_in _ (by omega)
              have hJ1 : (J : Int) < (m : Int) := by have := HMM.out; omega
              have hJ2 : J < m := by have := HMM.out; omega
              obtain ⟨⟨u9, a9⟩, f9, o9⟩ := hO.out.put hln hJ2 (y + x)
              have O9 := Lib.hid o9
              have K9 : Kp wB (wr.setCell ⟨wB.heap.size, J, none⟩ (.int .i64 (y + x))) := kB.setCell (by simp) _
              clear o9 hO kB a9 hln hJ
              go_wp2_with fail
              go_roundw
              case rel => exact ⟨z + 1, by omega, by go_num, Lib.hid (by rw [HS.out]; exact O9.out), K9⟩
              case measure => simp [intOf]; omega
            · obtain rfl : z = 6 := by omega
              have O4 : Hid (OwnI wr wB.heap.size (.slice (some ⟨wB.heap.size, 0, none⟩) m m) (accL S (q + 1))) := Lib.hid (by rw [HN1.out]; exact hO.out)
              go_wp2_with fail
              go_roundw
              case rel => exact ⟨q + 1, by omega, by go_num, O4, kB⟩
              case measure => simp [intOf]; omega
        · obtain rfl : q = n := by omega
          have O5 : Hid (OwnI wr wB.heap.size (.slice (some ⟨wB.heap.size, 0, none⟩) m m) (waysL (k + 1))) := Lib.hid (by rw [HSK.out]; exact hO.out)
          go_wp2_with fail
          go_roundw
          case rel => exact ⟨k + 1, by omega, by go_num, Lib.hid (O5.out.base kr.size), kr.trans kB⟩
          case measure => simp [intOf]; omega
    · obtain rfl : k = N := by omega
      go_wp2_with fail
      go_ret
      exact ⟨_, rfl, hO.out, kr⟩

end Go.Proofs.YtmhkjcgdjoeldaaDoor
