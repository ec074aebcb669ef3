/-
  Texts of this seat in one module: LineS, LineMath, II, PutI.
-/
import Derived.Test.YtfohhofpfmbheaaGreatDoorQb
import Derived.Test.YtfohhofpfmbheaaGreatDoorQe
import Derived.Test.YtfohhofpfmbheaaGreatDoorQf

/-
  Lines of hexes: the reference's list of lists is what a plain function says, in memory of its own, or none; both functions at whatever hexes. Nothing that was there is changed.
-/
namespace Go.Proofs.YtfohhofpfmbheaaGreatDoor
open Go.RowKit

theorem cellsL_one (q r : Int) : cellsL q r 1 = [(q, r)] := by
  have h1 : q.tmod 1 = 0 := Int.tmod_one q
  have h2 : nrI r 1 = [r] := by
    unfold nrI
    rw [nrFS_1 (by rw [Int.emod_one]; omega), Int.ediv_one]
  unfold cellsL
  rw [if_pos h1, h2, Int.tdiv_one]
  rfl
def NewLine (L : List (List (Int × Int))) (w : World) (e : Ending) (w' : World) : Prop := ∃ v vs, e = .returned v ∧ OwnHH w' w.heap.size v L vs ∧ Kp w w'

theorem own_lit (w : World) (q r : Int) (base : Nat) (hb : base ≤ w.heap.size) :
    OwnHH ((w.alloc (.cells #[.int .i64 q, .int .i64 r] 86)).alloc (.cells #[.slice (some ⟨w.heap.size, 0, none⟩) 1 1] 88)) base (.slice (some ⟨w.heap.size + 1, 0, none⟩) 1 1) [[(q, r)]] [.slice (some ⟨w.heap.size, 0, none⟩) 1 1] := by
  have i1 : OwnH (w.alloc (.cells #[.int .i64 q, .int .i64 r] 86)) base (.slice (some ⟨w.heap.size, 0, none⟩) 1 1) [(q, r)] :=
    World.ownsRow_lit w #[.int .i64 q, .int .i64 r] 1 hb (by simp only [maxLen]; omega) rfl
  have hsz : (w.alloc (.cells #[.int .i64 q, .int .i64 r] 86)).heap.size = w.heap.size + 1 := by simp
  have r1 := World.ownsRow_lit (base := base) (e := 88) (size := 1) (w.alloc (.cells #[.int .i64 q, .int .i64 r] 86)) #[.slice (some ⟨w.heap.size, 0, none⟩) 1 1] 1 (by omega) (by simp only [maxLen]; omega) rfl
  rw [hsz] at r1
  refine ⟨r1, fun i x l hx hl => ?_, fun i x g hx e => ?_, fun i j x y g hij hx hy e => ?_⟩
  · match i, hx, hl with
    | 0, hx, hl =>
      simp at hx hl
      subst hx hl
      exact i1.keep ((Kp.refl _).alloc _)
  · match i, hx with
    | 0, hx =>
      simp at hx
      subst hx
      have h1 : w.heap.size = g := Option.some.inj e
      intro e2
      have h2 : w.heap.size + 1 = g := Option.some.inj e2
      omega
  · match i, j, hx, hy with
    | 0, 0, _, _ => exact absurd rfl hij
    | 0, j + 1, _, hy => simp at hy
    | i + 1, _, hx, _ => simp at hx

set_option maxRecDepth 100000 in
set_option maxHeartbeats 8000000 in
theorem hLine_any (aq ar bq br : Int) (N : Nat) (w : World) (ha : okH aq ar = true) (hb : okH bq br = true) (hN : (N : Int) = distH aq ar bq br) :
    Calls Tryz.prog 72 #[hx aq ar, hx bq br] w (NewLine (lineF aq ar bq br (onep N) (N + 1)) w) := by
  have A1 := okH_true ha
  have B1 := okH_true hb
  have D1 := dist_bd ha hb
  have hN2 : N ≤ 160 := by omega
  have HC : Hid (∀ w, Calls Tryz.prog 101 #[hx aq ar, hx bq br] w fun e w' => e = .returned (.int .i64 N) ∧ Kp w w') := Lib.hid fun w => by
    rw [hN]
    exact hDistance_any aq ar bq br w (by omega) (by omega) (by omega) (by omega) (by omega) (by omega) (by omega) (by omega)
  obtain ⟨j0, hj0, hz0, hs0, hb0⟩ := info_parts infoHexS
  clear ha hb hN D1
  by_cases hN0 : N = 0
  · subst hN0
    rw [show lineF aq ar bq br (onep (0 : Nat)) (0 + 1) = [[(aq, ar)]] by
      simp only [lineF, onep]
      rw [if_pos (by decide)]
      simp [cellsL_one]]
    go_enter Tryz.func72, Tryz.ntmps72
    go_wp2_with fail
    refine (HC.out _).mono ?_
    rintro e1 w1 ⟨rfl, k1⟩
    have c1 : w1.cell? ⟨w.heap.size, 0, none⟩ = some (.int .i64 aq) ∧ w1.cell? ⟨w.heap.size, 1, none⟩ = some (.int .i64 ar) := ⟨k1.cell (by simp [go_sem]), k1.cell (by simp [go_sem])⟩
    have K1 : Kp w w1 := (((Kp.refl _).alloc _).alloc _).trans k1
    clear k1
    go_wp2_with fail
    go_ret
    exact ⟨_, _, rfl, own_lit w1 aq ar w.heap.size K1.size, (K1.alloc _).alloc _⟩
  · have hp : onep N = N := by unfold onep; rw [if_neg (by omega)]
    rw [hp]
    have hNe : ((N : Int) == 0) = false := by simp; omega
    have n1 : (1 : Int) ≤ N := by omega
    clear hN0 hp
    go_enter Tryz.func72, Tryz.ntmps72
    go_wp2_with fail
    refine (HC.out _).mono ?_
    rintro e1 w1 ⟨rfl, k1⟩
    have c1 : w1.cell? ⟨w.heap.size, 0, none⟩ = some (.int .i64 aq) ∧ w1.cell? ⟨w.heap.size, 1, none⟩ = some (.int .i64 ar) ∧ w1.cell? ⟨w.heap.size + 1, 0, none⟩ = some (.int .i64 bq) ∧ w1.cell? ⟨w.heap.size + 1, 1, none⟩ = some (.int .i64 br) :=
      ⟨k1.cell (by simp [go_sem]), k1.cell (by simp [go_sem]), k1.cell (by simp [go_sem]), k1.cell (by simp [go_sem])⟩
    have K1 : Kp w w1 := (((Kp.refl _).alloc _).alloc _).trans k1
    clear k1 HC
    go_wp2_with fail
    go_loopw [6, 7] (fun v s7 wx => ∃ k : Nat, k ≤ N + 1 ∧ s7 = .int .i64 k ∧ (∃ vs, OwnHH wx (w.heap.size + 2) v (lineF aq ar bq br (N : Int) k) vs) ∧ (wx.cell? ⟨w.heap.size, 0, none⟩ = some (.int .i64 aq) ∧ wx.cell? ⟨w.heap.size, 1, none⟩ = some (.int .i64 ar) ∧ wx.cell? ⟨w.heap.size + 1, 0, none⟩ = some (.int .i64 bq) ∧ wx.cell? ⟨w.heap.size + 1, 1, none⟩ = some (.int .i64 br)) ∧ Kp w wx) (fun _ s7 _ => N + 1 - (intOf s7).toNat)
    case atStart => exact ⟨0, by omega, rfl, ⟨_, OwnHH.nil _ _⟩, c1, K1⟩
    case round =>
      clear c1 K1
      obtain ⟨k, hk, rfl, ⟨vs, hoR⟩, sr, kR⟩ := hrel
      by_cases hlt : k < N + 1
      · have hlt' : (k : Int) ≤ N := by omega
        have HO := Lib.hid hoR
        have blt : w.heap.size + 1 < wr.heap.size := cell_lt sr.2.2.1
        have n1' := Lib.hid (fun e => (Nat.lt_irrefl _ (Nat.lt_of_lt_of_le (show w.heap.size < w.heap.size + 2 by omega) (World.ownsRow.lt hoR.row w.heap.size e).1)))
        have n2' := Lib.hid (fun e => (Nat.lt_irrefl _ (Nat.lt_of_lt_of_le (show w.heap.size + 1 < w.heap.size + 2 by omega) (World.ownsRow.lt hoR.row (w.heap.size + 1) e).1)))
        have hln : Hid ((lineF aq ar bq br (N : Int) k).length = k) := Lib.hid (lineF_len _ _ _ _ _ _)
        clear hoR
        go_wp2_with fail
        refine (hCells_any _ _ _ _ _ _ _ _ _ (by omega) (by omega) (by omega) (by omega) (by omega) (by omega) (by omega) (by omega) (by omega) (by omega) (by omega) (by omega) rfl rfl).mono ?_
        rintro e3 w3 ⟨x0, rfl, o3, k3⟩
        obtain ⟨Ax, nx, cx, rfl⟩ := o3.sl
        have O3 := Lib.hid o3
        have s3 := k3.four sr
        have K3 : Kp w w3 := kR.trans k3
        have hz4 := k3.size
        have k3' := Lib.hid k3
        have oRow := Lib.hid (ownsRow_keep HO.out.row k3)
        clear o3 k3 sr kR
        go_wp2_with (at_builtin; refine wpList_append_own_at _ rfl (.tmp 21) (.tmp 27) 83 rfl (w.heap.size + 2) 88 j0 (.slice none 0 0) 1 24 Tryz.underlying83 hj0 hz0 hs0 hb0 rfl (by decide) _ (lineF aq ar bq br (N : Int) k).length vs rfl (World.ownsRow.alloc oRow.out _) ⟨w3.heap.size, 0, none⟩ 1 1 [.slice Ax nx cx] rfl rfl (cell_one _ _ _) (by simp [Value.oneCell']) (by have := hln.out; simp only [maxLen]; omega) (by have := hln.out; omega) (by simp; omega) ?_; intro v' w4 hown2 hgrow2 hnil2 hat2; clear hnil2; have s4 := ((Kp.refl w3).alloc (.cells #[.slice Ax nx cx] 88)).four s3; have q0 := hgrow2.cell s4.1 (fun e => n1'.out e.symm); have q1 := hgrow2.cell s4.2.1 (fun e => n1'.out e.symm); have q2 := hgrow2.cell s4.2.2.1 (fun e => n2'.out e.symm); have q3 := hgrow2.cell s4.2.2.2 (fun e => n2'.out e.symm); have K4 : Kp w w4 := (K3.alloc (.cells #[.slice Ax nx cx] 88)).grown hgrow2 (fun k e => by have := (World.ownsRow.lt oRow.out k e).1; omega); have O4 := Lib.hid (HO.out.snoc k3'.out O3.out (by omega) hown2 hgrow2 hat2); clear hown2 hgrow2 hat2 s3 s4)
        go_roundw
        case rel => exact ⟨k + 1, by omega, by go_num, ⟨_, by rw [lineF]; exact O4.out⟩, ⟨q0, q1, q2, q3⟩, K4⟩
        case measure => simp [intOf]; omega
      · obtain rfl : k = N + 1 := by omega
        go_wp2_with fail
        go_ret
        exact ⟨_, _, rfl, hoR.base (by omega), kR⟩

theorem lineL_eq {aq ar bq br : Int} {N : Nat} (hN : (N : Int) = distH aq ar bq br) : lineL aq ar bq br = lineF aq ar bq br (onep N) (N + 1) := by
  unfold lineL
  rw [← hN, Int.toNat_natCast]

theorem lineOf_any (aq ar bq br : Int) (w : World) : Calls Tryz.prog 79 #[hx aq ar, hx bq br] w (LinePost (ok2 aq ar bq br) (lineL aq ar bq br) w) := by
  cases h : ok2 aq ar bq br
  · exact lineOf_no aq ar bq br w h
  · have hs : okH aq ar = true ∧ okH bq br = true := by simpa [ok2] using h
    have D1 := dist_bd hs.1 hs.2
    obtain ⟨N, hN⟩ : ∃ N : Nat, (N : Int) = distH aq ar bq br := ⟨(distH aq ar bq br).toNat, by omega⟩
    rw [lineL_eq hN]
    exact lineOf_yes aq ar bq br _ N w hs.1 hs.2 hN rfl

end Go.Proofs.YtfohhofpfmbheaaGreatDoor

/-
  Lines as plain numbers: each hex of a line's step k has distance k from the beginning and N - k from the end, is valid, and the line back has the same hexes. No program is looked into.
-/
namespace Go.Proofs.YtfohhofpfmbheaaGreatDoor
open Go.RowKit

theorem nrI_mul {m p : Int} (hp : 1 ≤ p) : nrI (m * p) p = [m] := by
  unfold nrI
  rw [nrFS_1 (by rw [Int.mul_emod_left]; omega), Int.mul_ediv_cancel _ (by omega)]
theorem nrI_iv {n p lo hi x : Int} (hp : 1 ≤ p) (h1 : lo * p ≤ n) (h2 : n ≤ hi * p) (hx : x ∈ nrI n p) : lo ≤ x ∧ x ≤ hi := by
  have f1 : lo ≤ n / p := Int.le_ediv_of_mul_le (by omega) h1
  have f2 : n / p ≤ hi := by
    have := Int.ediv_le_ediv (show 0 < p by omega) h2
    rwa [Int.mul_ediv_cancel _ (by omega)] at this
  have em := Int.emod_nonneg n (show p ≠ 0 by omega)
  have ed := Int.ediv_mul_add_emod n p
  have f3 : 0 < n % p → n / p < hi := fun hr => by
    rcases Int.lt_or_eq_of_le f2 with h | h
    · exact h
    · rw [h] at ed
      omega
  unfold nrI nrFS at hx
  split at hx
  · simp at hx
    omega
  · rename_i hc
    have := f3 (by omega)
    split at hx
    · simp at hx
      omega
    · simp at hx
      omega

/-- What a rounded coordinate between a and b at step k of N can be. -/
def Iv (a b k N x : Int) : Prop := (b ≤ a → a - k ≤ x ∧ x ≤ a ∧ b ≤ x ∧ x ≤ b + (N - k)) ∧ (a ≤ b → a ≤ x ∧ x ≤ a + k ∧ b - (N - k) ≤ x ∧ x ≤ b)
theorem iv_of {a b k N x : Int} (hN : 1 ≤ N) (k0 : 0 ≤ k) (k1 : k ≤ N) (d1 : -N ≤ b - a) (d2 : b - a ≤ N) (hx : x ∈ nrI (a * N + (b - a) * k) N) : Iv a b k N x := by
  have e1 : (a - k) * N = a * N - k * N := Int.sub_mul _ _ _
  have e2 : (a + k) * N = a * N + k * N := Int.add_mul _ _ _
  have e3 : (b + (N - k)) * N = b * N + (N * N - k * N) := by rw [Int.add_mul, Int.sub_mul]
  have e4 : (b - (N - k)) * N = b * N - (N * N - k * N) := by rw [Int.sub_mul, Int.sub_mul]
  have e5 : b * N = a * N + (b - a) * N := by rw [Int.sub_mul]; omega
  have p1 : 0 ≤ (N + (b - a)) * k := Int.mul_nonneg (by omega) k0
  have p2 : 0 ≤ (N - (b - a)) * k := Int.mul_nonneg (by omega) k0
  have p3 : 0 ≤ (N + (b - a)) * (N - k) := Int.mul_nonneg (by omega) (by omega)
  have p4 : 0 ≤ (N - (b - a)) * (N - k) := Int.mul_nonneg (by omega) (by omega)
  have c1 : k * N = N * k := Int.mul_comm _ _
  rw [Int.add_mul] at p1
  rw [Int.sub_mul] at p2
  rw [Int.add_mul, Int.mul_sub, Int.mul_sub] at p3
  rw [Int.sub_mul, Int.mul_sub, Int.mul_sub] at p4
  refine ⟨fun h => ?_, fun h => ?_⟩
  · have q1 : 0 ≤ (a - b) * k := Int.mul_nonneg (by omega) k0
    have q2 : 0 ≤ (a - b) * (N - k) := Int.mul_nonneg (by omega) (by omega)
    have f1 : (a - b) * k = -((b - a) * k) := by rw [← Int.neg_mul]; congr 1; omega
    have f2 : (a - b) * (N - k) = -((b - a) * N) + (b - a) * k := by rw [Int.mul_sub, show a - b = -(b - a) by omega, Int.neg_mul, Int.neg_mul]; omega
    obtain ⟨x1, x2⟩ := nrI_iv (lo := a - k) (hi := a) hN (by omega) (by omega) hx
    obtain ⟨x3, x4⟩ := nrI_iv (lo := b) (hi := b + (N - k)) hN (by omega) (by omega) hx
    omega
  · have q1 : 0 ≤ (b - a) * k := Int.mul_nonneg (by omega) k0
    have q2 : 0 ≤ (b - a) * (N - k) := Int.mul_nonneg (by omega) (by omega)
    rw [Int.mul_sub] at q2
    obtain ⟨x1, x2⟩ := nrI_iv (lo := a) (hi := a + k) hN (by omega) (by omega) hx
    obtain ⟨x3, x4⟩ := nrI_iv (lo := b - (N - k)) (hi := b) hN (by omega) (by omega) hx
    omega

theorem dist_of {u v k : Int} (hk : 0 ≤ k) (a : -k ≤ u) (b : u ≤ k) (c : -k ≤ v) (d : v ≤ k) (e : -k ≤ u + v) (f : u + v ≤ k) (h : u = k ∨ u = -k ∨ v = k ∨ v = -k ∨ u + v = k ∨ u + v = -k) : distI u v = k := by
  have b1 := absI_bd u
  have b2 := absI_bd v
  have b3 := absI_bd (u + v)
  unfold distI
  omega
theorem dist_inv {u v N : Int} (h : N = distI u v) : (-N ≤ u ∧ u ≤ N ∧ -N ≤ v ∧ v ≤ N ∧ -N ≤ u + v ∧ u + v ≤ N) ∧ (u = N ∨ u = -N ∨ v = N ∨ v = -N ∨ u + v = N ∨ u + v = -N) := by
  have b1 := absI_bd u
  have b2 := absI_bd v
  have b3 := absI_bd (u + v)
  unfold distI at h
  omega

/-- The three ways in which a hex of a step lies on the line. -/
def OnL (aq ar bq br k N x y : Int) : Prop :=
  (bq - aq = N ∧ x = aq + k ∧ Iv ar br k N y) ∨ (bq - aq = -N ∧ x = aq - k ∧ Iv ar br k N y) ∨ (br - ar = N ∧ y = ar + k ∧ Iv aq bq k N x) ∨ (br - ar = -N ∧ y = ar - k ∧ Iv aq bq k N x) ∨
  (bq - aq + (br - ar) = N ∧ x + y = aq + ar + k ∧ Iv aq bq k N x) ∨ (bq - aq + (br - ar) = -N ∧ x + y = aq + ar - k ∧ Iv aq bq k N x)

theorem cancel {a b N : Int} (hN : 1 ≤ N) (h : a * N = b * N) : a = b := Int.eq_of_mul_eq_mul_right (by omega) h
theorem tmod_mul {m p : Int} : (m * p).tmod p = 0 := Int.mul_tmod_left m p
theorem tdiv_mul {m p : Int} (hp : 1 ≤ p) : (m * p).tdiv p = m := Int.mul_tdiv_cancel m (by omega)
theorem tdiv_exact {n p : Int} (h : n.tmod p = 0) : n.tdiv p * p = n := by
  have := Int.tdiv_mul_add_tmod n p
  omega
theorem exact_mem {n p x : Int} (hp : 1 ≤ p) (h : x * p = n) : x ∈ nrI n p := by
  rw [← h, nrI_mul hp]
  simp

theorem onL_of {aq ar bq br k N x y : Int} (hN : 1 ≤ N) (hd : N = distI (bq - aq) (br - ar)) (k0 : 0 ≤ k) (k1 : k ≤ N) (h : (x, y) ∈ cellsL (aq * N + (bq - aq) * k) (ar * N + (br - ar) * k) N) : OnL aq ar bq br k N x y := by
  obtain ⟨⟨i1, i2, i3, i4, i5, i6⟩, dom⟩ := dist_inv hd
  have kc : N * k = k * N := Int.mul_comm _ _
  have nk : -N * k = -(k * N) := by rw [Int.neg_mul, kc]
  have ap : (aq + k) * N = aq * N + k * N := Int.add_mul _ _ _
  have am : (aq - k) * N = aq * N - k * N := Int.sub_mul _ _ _
  have rp : (ar + k) * N = ar * N + k * N := Int.add_mul _ _ _
  have rm : (ar - k) * N = ar * N - k * N := Int.sub_mul _ _ _
  have sp : (aq + ar + k) * N = aq * N + ar * N + k * N := by rw [Int.add_mul, Int.add_mul]
  have sm : (aq + ar - k) * N = aq * N + ar * N - k * N := by rw [Int.sub_mul, Int.add_mul]
  have ds : (bq - aq) * k + (br - ar) * k = (bq - aq + (br - ar)) * k := (Int.add_mul _ _ _).symm
  unfold cellsL at h
  by_cases hq : (aq * N + (bq - aq) * k).tmod N = 0
  · rw [if_pos hq] at h
    simp only [List.mem_map, Prod.mk.injEq] at h
    obtain ⟨y', hy, rfl, rfl⟩ := h
    have hx := tdiv_exact hq
    generalize (aq * N + (bq - aq) * k).tdiv N = x at hx ⊢
    have ivx := iv_of hN k0 k1 i1 i2 (exact_mem hN hx)
    have ivy := iv_of hN k0 k1 i3 i4 hy
    rcases dom with e | e | e | e | e | e
    · rw [e] at hx
      exact .inl ⟨e, cancel hN (by omega), ivy⟩
    · rw [e] at hx
      exact .inr (.inl ⟨e, cancel hN (by omega), ivy⟩)
    · rw [e, show ar * N + N * k = (ar + k) * N by omega, nrI_mul hN] at hy
      simp at hy
      exact .inr (.inr (.inl ⟨e, hy, ivx⟩))
    · rw [e, show ar * N + -N * k = (ar - k) * N by omega, nrI_mul hN] at hy
      simp at hy
      exact .inr (.inr (.inr (.inl ⟨e, hy, ivx⟩)))
    · rw [e] at ds
      rw [show ar * N + (br - ar) * k = (aq + ar + k - x) * N by rw [Int.sub_mul (aq + ar + k) x N, sp]; omega, nrI_mul hN] at hy
      simp at hy
      exact .inr (.inr (.inr (.inr (.inl ⟨e, by omega, ivx⟩))))
    · rw [e] at ds
      rw [show ar * N + (br - ar) * k = (aq + ar - k - x) * N by rw [Int.sub_mul (aq + ar - k) x N, sm]; omega, nrI_mul hN] at hy
      simp at hy
      exact .inr (.inr (.inr (.inr (.inr ⟨e, by omega, ivx⟩))))
  · rw [if_neg hq] at h
    by_cases hr : (ar * N + (br - ar) * k).tmod N = 0
    · rw [if_pos hr] at h
      simp only [List.mem_map, Prod.mk.injEq] at h
      obtain ⟨x', hx, rfl, rfl⟩ := h
      have hy := tdiv_exact hr
      generalize (ar * N + (br - ar) * k).tdiv N = y at hy ⊢
      have ivx := iv_of hN k0 k1 i1 i2 hx
      rcases dom with e | e | e | e | e | e
      · refine absurd ?_ hq
        rw [e, show aq * N + N * k = (aq + k) * N by omega, tmod_mul]
      · refine absurd ?_ hq
        rw [e, show aq * N + -N * k = (aq - k) * N by omega, tmod_mul]
      · rw [e] at hy
        exact .inr (.inr (.inl ⟨e, cancel hN (by omega), ivx⟩))
      · rw [e] at hy
        exact .inr (.inr (.inr (.inl ⟨e, cancel hN (by omega), ivx⟩)))
      · rw [e] at ds
        refine absurd ?_ hq
        rw [show aq * N + (bq - aq) * k = (aq + ar + k - y) * N by rw [Int.sub_mul (aq + ar + k) y N, sp]; omega, tmod_mul]
      · rw [e] at ds
        refine absurd ?_ hq
        rw [show aq * N + (bq - aq) * k = (aq + ar - k - y) * N by rw [Int.sub_mul (aq + ar - k) y N, sm]; omega, tmod_mul]
    · rw [if_neg hr] at h
      simp only [List.mem_map, Prod.mk.injEq] at h
      obtain ⟨x', hx, rfl, rfl⟩ := h
      have ivx := iv_of hN k0 k1 i1 i2 hx
      rcases dom with e | e | e | e | e | e
      · refine absurd ?_ hq
        rw [e, show aq * N + N * k = (aq + k) * N by omega, tmod_mul]
      · refine absurd ?_ hq
        rw [e, show aq * N + -N * k = (aq - k) * N by omega, tmod_mul]
      · refine absurd ?_ hr
        rw [e, show ar * N + N * k = (ar + k) * N by omega, tmod_mul]
      · refine absurd ?_ hr
        rw [e, show ar * N + -N * k = (ar - k) * N by omega, tmod_mul]
      · rw [e] at ds
        rw [show aq * N + (bq - aq) * k + (ar * N + (br - ar) * k) = (aq + ar + k) * N by omega, tdiv_mul hN]
        exact .inr (.inr (.inr (.inr (.inl ⟨e, by omega, ivx⟩))))
      · rw [e] at ds
        rw [show aq * N + (bq - aq) * k + (ar * N + (br - ar) * k) = (aq + ar - k) * N by omega, tdiv_mul hN]
        exact .inr (.inr (.inr (.inr (.inr ⟨e, by omega, ivx⟩))))

theorem onL_dist {aq ar bq br k N x y : Int} (hd : N = distI (bq - aq) (br - ar)) (k0 : 0 ≤ k) (k1 : k ≤ N) (a1 : -40 ≤ aq ∧ aq ≤ 40 ∧ -40 ≤ ar ∧ ar ≤ 40) (b1 : -40 ≤ bq ∧ bq ≤ 40 ∧ -40 ≤ br ∧ br ≤ 40) (h : OnL aq ar bq br k N x y) :
    okH x y = true ∧ distH aq ar x y = k ∧ distH x y bq br = N - k := by
  obtain ⟨⟨i1, i2, i3, i4, i5, i6⟩, _⟩ := dist_inv hd
  unfold distH
  clear hd
  have key : (-40 ≤ x ∧ x ≤ 40 ∧ -40 ≤ y ∧ y ≤ 40) ∧ ((-k ≤ x - aq ∧ x - aq ≤ k ∧ -k ≤ y - ar ∧ y - ar ≤ k ∧ -k ≤ x - aq + (y - ar) ∧ x - aq + (y - ar) ≤ k) ∧ (x - aq = k ∨ x - aq = -k ∨ y - ar = k ∨ y - ar = -k ∨ x - aq + (y - ar) = k ∨ x - aq + (y - ar) = -k)) ∧
      ((-(N - k) ≤ bq - x ∧ bq - x ≤ N - k ∧ -(N - k) ≤ br - y ∧ br - y ≤ N - k ∧ -(N - k) ≤ bq - x + (br - y) ∧ bq - x + (br - y) ≤ N - k) ∧ (bq - x = N - k ∨ bq - x = -(N - k) ∨ br - y = N - k ∨ br - y = -(N - k) ∨ bq - x + (br - y) = N - k ∨ bq - x + (br - y) = -(N - k))) := by
    rcases h with ⟨e, rfl, iv⟩ | ⟨e, rfl, iv⟩ | ⟨e, rfl, iv⟩ | ⟨e, rfl, iv⟩ | ⟨e, f, iv⟩ | ⟨e, f, iv⟩
    · have := iv.1 (by omega)
      omega
    · have := iv.2 (by omega)
      omega
    · have := iv.1 (by omega)
      omega
    · have := iv.2 (by omega)
      omega
    · have := iv.2 (by omega)
      omega
    · have := iv.1 (by omega)
      omega
  obtain ⟨v, ⟨⟨u1, u2, u3, u4, u5, u6⟩, ud⟩, ⟨⟨w1, w2, w3, w4, w5, w6⟩, wd⟩⟩ := key
  exact ⟨okH_mk v.1 v.2.1 v.2.2.1 v.2.2.2, dist_of k0 u1 u2 u3 u4 u5 u6 ud, dist_of (by omega) w1 w2 w3 w4 w5 w6 wd⟩

theorem lineF_at (aq ar bq br p : Int) : ∀ (m i : Nat), i < m → (lineF aq ar bq br p m)[i]? = some (cellsL (aq * p + (bq - aq) * i) (ar * p + (br - ar) * i) p)
  | m + 1, i, h => by
    rw [lineF]
    rcases Nat.lt_or_ge i m with hi | hi
    · rw [List.getElem?_append_left (by rw [lineF_len]; exact hi)]
      exact lineF_at aq ar bq br p m i hi
    · obtain rfl : i = m := by omega
      rw [List.getElem?_append_right (by rw [lineF_len]; omega), lineF_len]
      simp

theorem distI_neg (u v : Int) : distI (-u) (-v) = distI u v := by
  have b1 := absI_bd u
  have b2 := absI_bd v
  have b3 := absI_bd (u + v)
  have c1 := absI_bd (-u)
  have c2 := absI_bd (-v)
  have c3 := absI_bd (-u + -v)
  unfold distI
  omega
theorem distH_comm (aq ar bq br : Int) : distH bq br aq ar = distH aq ar bq br := by
  unfold distH
  rw [← distI_neg]
  congr 1 <;> omega
/-- A point of the line back. -/
theorem back_pt (a b : Int) (N i : Nat) (hi : i ≤ N) : b * (N : Int) + (a - b) * ((N - i : Nat) : Int) = a * (N : Int) + (b - a) * (i : Int) := by
  rw [show ((N - i : Nat) : Int) = (N : Int) - i by omega, Int.mul_sub, Int.sub_mul, Int.sub_mul, Int.sub_mul]
  omega

end Go.Proofs.YtfohhofpfmbheaaGreatDoor

/-
  Lists of lists of integers: the laws' size, copy (in memory of its own), comparison of two that read as the same, and marking of a copy.
-/
namespace Go.Proofs.YtfohhofpfmbheaaGreatDoor
open Go.RowKit

/-- The slice v owns the list L of lists of integers; vs: the inner slices. -/
structure OwnII (w : World) (base : Nat) (v : Value) (L : List (List Int)) (vs : List Value) : Prop where
  row : w.ownsRow base 26 1 v L.length vs
  inn : ∀ (i : Nat) (x : Value) (l : List Int), vs[i]? = some x → L[i]? = some l → OwnI w base x l
  out : ∀ (i : Nat) (x : Value) (g : Nat), vs[i]? = some x → x.ownBlock = some g → v.ownBlock ≠ some g
  two : ∀ (i j : Nat) (x y : Value) (g : Nat), i ≠ j → vs[i]? = some x → vs[j]? = some y → x.ownBlock = some g → y.ownBlock ≠ some g
theorem OwnII.len {w : World} {base : Nat} {v : Value} {L : List (List Int)} {vs : List Value} (h : OwnII w base v L vs) : vs.length = L.length := by
  have : vs.length = L.length * 1 := h.row.1
  omega
theorem OwnII.keep {w w' : World} {base : Nat} {v : Value} {L : List (List Int)} {vs : List Value} (h : OwnII w base v L vs) (k : Kp w w') : OwnII w' base v L vs :=
  ⟨ownsRow_keep h.row k, fun i x l hx hl => (h.inn i x l hx hl).keep k, h.out, h.two⟩
theorem OwnII.base {w : World} {base b : Nat} {v : Value} {L : List (List Int)} {vs : List Value} (h : OwnII w base v L vs) (hb : b ≤ base) : OwnII w b v L vs :=
  ⟨ownsRow_base h.row hb, fun i x l hx hl => (h.inn i x l hx hl).base hb, h.out, h.two⟩
theorem OwnII.nil (w : World) (base : Nat) : OwnII w base (.slice none 0 0) [] [] :=
  ⟨World.ownsRow_nil w base _ 1, fun i x l hx _ => by simp at hx, fun i x g hx _ => by simp at hx, fun i j x y g _ hx => by simp at hx⟩

theorem OwnII.snoc {w0 w w' : World} {base : Nat} {v v' x : Value} {L : List (List Int)} {vs : List Value} {l : List Int} {T : TypeId} (h : OwnII w0 base v L vs) (k : Kp w0 w) (hx : OwnI w w0.heap.size x l) (hb : base ≤ w0.heap.size)
    (ho : w'.ownsRow base 26 1 v' (L.length + 1) (vs ++ [x])) (hg : (w.alloc (.cells #[x] T)).grownBy w' v.ownBlock) (ha : v'.ownBlock = v.ownBlock ∨ v'.ownBlock = some (w.alloc (.cells #[x] T)).heap.size) :
    OwnII w' base v' (L ++ [l]) (vs ++ [x]) := by
  have hlen := h.len
  have ka : Kp w (w.alloc (.cells #[x] T)) := (Kp.refl w).alloc _
  have hsz : (w.alloc (.cells #[x] T)).heap.size = w.heap.size + 1 := by simp
  have kz := k.size
  have vlt : ∀ g, v.ownBlock = some g → g < w0.heap.size := fun g e => (World.ownsRow.lt h.row g e).2
  have xge : ∀ g, x.ownBlock = some g → w0.heap.size ≤ g ∧ g < w.heap.size := fun g e => World.ownsRow.lt hx g e
  have ilt : ∀ (i : Nat) (y : Value) (g : Nat), vs[i]? = some y → y.ownBlock = some g → g < w0.heap.size := fun i y g hy e => by
    have hi : i < L.length := by rw [← hlen]; exact (List.getElem?_eq_some_iff.1 hy).1
    exact (World.ownsRow.lt (h.inn i y _ hy (List.getElem?_eq_getElem hi)) g e).2
  refine ⟨by rw [List.length_append]; exact ho, fun i y m hy hm => ?_, fun i y g hy e => ?_, fun i j y z g hij hy hz e => ?_⟩
  · rcases snoc_cases hy with ⟨hi, hy⟩ | ⟨rfl, rfl⟩
    · rw [List.getElem?_append_left (by omega)] at hm
      have o := ((h.inn i y m hy hm).keep k).keep ka
      refine World.ownsRow.kept o hg ?_
      cases hv : y.ownBlock
      · exact .inl rfl
      · rename_i g
        exact .inr fun e => h.out i y g hy hv e.symm
    · rw [List.getElem?_append_right (by omega)] at hm
      simp [hlen] at hm
      subst hm
      refine World.ownsRow.kept ((hx.base hb).keep ka) hg ?_
      cases hv : y.ownBlock
      · exact .inl rfl
      · rename_i g
        refine .inr fun e => ?_
        have h1 := (xge g hv).1
        have h2 := vlt g e.symm
        omega
  · rcases snoc_cases hy with ⟨hi, hy⟩ | ⟨rfl, rfl⟩
    · have h1 := ilt i y g hy e
      rcases ha with ha | ha
      · rw [ha]
        exact h.out i y g hy e
      · rw [ha]
        intro e2
        have := Option.some.inj e2
        omega
    · have h1 := xge g e
      rcases ha with ha | ha
      · rw [ha]
        intro e2
        have := vlt g e2
        omega
      · rw [ha]
        intro e2
        have := Option.some.inj e2
        omega
  · rcases snoc_cases hy with ⟨hi, hy1⟩ | ⟨rfl, rfl⟩
    · rcases snoc_cases hz with ⟨hj, hz1⟩ | ⟨rfl, rfl⟩
      · exact h.two i j y z g hij hy1 hz1 e
      · intro e2
        have h1 := ilt i y g hy1 e
        have h2 := (xge g e2).1
        omega
    · rcases snoc_cases hz with ⟨hj, hz1⟩ | ⟨rfl, rfl⟩
      · intro e2
        have h1 := ilt j z g hz1 e2
        have h2 := (xge g e).1
        omega
      · exact absurd rfl hij

/-- The slice v reads as the list L of lists of integers. -/
def RdII (w : World) (v : Value) (L : List (List Int)) : Prop :=
  ∃ (A : Option Addr) (c : Nat) (vs : List Value), v = .slice A L.length c ∧ vs.length = L.length ∧ (0 < L.length → ∃ g off, A = some ⟨g, off, none⟩ ∧ ∀ (i : Nat) (x : Value), vs[i]? = some x → w.cell? ⟨g, off + i, none⟩ = some x) ∧ ∀ (i : Nat) (x : Value) (l : List Int), vs[i]? = some x → L[i]? = some l → RdI w x l
theorem RdII.keep {w w' : World} {v : Value} {L : List (List Int)} (h : RdII w v L) (hk : Kp w w') : RdII w' v L := by
  obtain ⟨A, c, vs, rfl, hl, h0, h1⟩ := h
  refine ⟨A, c, vs, rfl, hl, fun hp => ?_, fun i x l hx hm => (h1 i x l hx hm).keep hk⟩
  obtain ⟨g, off, rfl, hc⟩ := h0 hp
  exact ⟨g, off, rfl, fun i x hx => hk.cell (hc i x hx)⟩
theorem OwnII.rd {w : World} {base : Nat} {v : Value} {L : List (List Int)} {vs : List Value} (h : OwnII w base v L vs) : RdII w v L := by
  have hlen := h.len
  have hr := h.row
  rcases h.row.2 with ⟨hv, hn⟩ | ⟨g, cap, cur, hv, _⟩
  · exact ⟨none, 0, vs, by rw [hn]; exact hv, hlen, fun h0 => by omega, fun i x l hx hl => (h.inn i x l hx hl).rd⟩
  · refine ⟨_, _, vs, hv, hlen, fun _ => ⟨g, 0, rfl, fun i x hx => ?_⟩, fun i x l hx hl => (h.inn i x l hx hl).rd⟩
    rw [hv] at hr
    have hi : i < vs.length := (List.getElem?_eq_some_iff.1 hx).1
    rw [Nat.zero_add]
    exact (World.ownsRow.cellAt hr i (by omega)).trans hx

theorem lt_at {α : Type} {l : List α} {i : Nat} {t : α} (h : l[i]? = some t) : i < l.length := (List.getElem?_eq_some_iff.1 h).1
theorem liveN1 {w : World} {base g n cap : Nat} {e : TypeId} {ys : List Value} (h : w.ownsRow base e 1 (.slice (some ⟨g, 0, none⟩) n cap) n ys) {j : Nat} (hj : j < n) : (∃ u, w.cell? ⟨g, j, none⟩ = some u) ∧ w.frozen? ⟨g, j, none⟩ = false := by
  have hlen : ys.length = n * 1 := h.1
  exact ⟨⟨_, (h.cellAt j (by omega)).trans (List.getElem?_eq_getElem (by omega))⟩, h.frozenAt j⟩

set_option maxHeartbeats 1000000 in
theorem eqIntSS_same (va vb : Value) (L : List (List Int)) (w : World) (ha : RdII w va L) (hb : RdII w vb L) (hl : L.length ≤ 1048576) (hi : ∀ l ∈ L, l.length ≤ 1048576) :
    Calls Tryz.prog 15 #[va, vb] w fun e w' => e = .returned (.bool true) ∧ Kp w w' := by
  obtain ⟨A, ca, va', rfl, hla, ha, ra⟩ := ha
  obtain ⟨B, cb, vb', rfl, hlb, hb, rb⟩ := hb
  have HA := Lib.hid ha
  have HB := Lib.hid hb
  have RA := Lib.hid ra
  have RB := Lib.hid rb
  have HI := Lib.hid hi
  have HLA := Lib.hid hla
  have HLB := Lib.hid hlb
  clear ha hb ra rb hi hla hlb
  generalize hn : L.length = n at *
  have HN := Lib.hid hn
  clear hn
  go_enter Tryz.func15, Tryz.ntmps15
  go_wp2_with fail
  go_loopw [5] (fun i wr => ∃ k : Nat, k ≤ n ∧ i = .int .i64 k ∧ Kp w wr) (fun i _ => n - (intOf i).toNat)
  case atStart => exact ⟨0, by omega, rfl, Kp.refl _⟩
  case round =>
    obtain ⟨k, hk, rfl, kr⟩ := hrel
    by_cases hlt : k < n
    · obtain ⟨ga, oa, rfl, ca'⟩ := HA.out (by omega)
      obtain ⟨gb, ob, rfl, cb'⟩ := HB.out (by omega)
      obtain ⟨x, hx⟩ : ∃ x, va'[k]? = some x := ⟨va'[k]'(by have := HLA.out; omega), List.getElem?_eq_getElem _⟩
      obtain ⟨y, hy⟩ : ∃ y, vb'[k]? = some y := ⟨vb'[k]'(by have := HLB.out; omega), List.getElem?_eq_getElem _⟩
      obtain ⟨l, hl2⟩ : ∃ l, L[k]? = some l := ⟨L[k]'(by have := HN.out; omega), List.getElem?_eq_getElem _⟩
      have a0 := kr.cell (ca' k x hx)
      have b0 := kr.cell (cb' k y hy)
      have RX := Lib.hid ((RA.out k x l hx hl2).keep kr)
      have RY := Lib.hid ((RB.out k y l hy hl2).keep kr)
      have hll := Lib.hid (HI.out l (List.mem_of_getElem? hl2))
      clear ca' cb' hx hy hl2
      have hlt' : (k : Int) < n := by omega
      go_wp2_with fail
      go_region_held3 (fun w' => w'.cell? ⟨ga, oa + k, none⟩ = some x ∧ w'.cell? ⟨gb, ob + k, none⟩ = some y) (first | assumption | go_keep)
        (first | (go_at_call 26; refine (eqIntS_same x y l _ (RX.out.keep ((Kp.refl _).drew)) (RY.out.keep ((Kp.refl _).drew)) (by have := hll.out; omega)).mono ?_; rintro e w1 ⟨rfl, k1⟩; have s1 := k1.two (by assumption)))
      all_goals
        go_wp2_with fail
        go_roundw
        case rel => exact ⟨k + 1, by omega, by go_num, kr.drew.trans k1⟩
        case measure => simp [intOf]; omega
    · obtain rfl : k = n := by omega
      go_wp2_with fail
      go_ret
      exact ⟨rfl, kr⟩
theorem infoIntS : (Tryz.prog.info? 26).map (fun i => (i.zero, i.size, i.bytes)) = some (some (.slice none 0 0), 1, 24) := by kernel_rfl
theorem mkIntSS (n : Nat) (hn : n ≤ 1048576) (w : World) :
    (Instr.makeSlice 32 (.int .i64 (n : Int)) (.int .i64 (n : Int))).run Tryz.prog w = .ok (.slice (some ⟨w.heap.size, 0, none⟩) n n) (w.alloc (.cells (madeCells #[.slice none 0 0] n) 26)) := by
  obtain ⟨i, hi, hz, hs, hb⟩ := info_parts infoIntS
  have hr := run_make (P := Tryz.prog) w 32 26 i (.slice none 0 0) Tryz.underlying32 hi hz .i64 .i64 (n : Int) (n : Int) (by omega) (Int.le_refl _) (by rw [hb]; omega) (by omega)
  rw [hs, Int.toNat_natCast, Nat.mul_one] at hr
  exact hr

/-- A row of slices in block g, the first k of which own lists, each in a block of its own behind g. -/
structure PreII (w : World) (g n k : Nat) (L : List (List Int)) (ys : List Value) : Prop where
  row : w.ownsRow g 26 1 (.slice (some ⟨g, 0, none⟩) n n) n ys
  inn : ∀ (j : Nat) (x : Value) (l : List Int), j < k → ys[j]? = some x → L[j]? = some l → OwnI w (g + 1) x l
  two : ∀ (i j : Nat) (x y : Value) (b : Nat), i < k → j < k → i ≠ j → ys[i]? = some x → ys[j]? = some y → x.ownBlock = some b → y.ownBlock ≠ some b
theorem PreII.step {w w1 : World} {g n k : Nat} {L : List (List Int)} {ys : List Value} {x : Value} {l : List Int} (h : PreII w g n k L ys) (hk : k < n) (hl : L[k]? = some l) (hL : L.length = n) (k1 : Kp w w1) (hg : g < w.heap.size) (hx : OwnI w1 w.heap.size x l) :
    PreII (w1.setCell ⟨g, k, none⟩ x) g n (k + 1) L (ys.set k x) := by
  have hlen : ys.length = n * 1 := h.row.1
  have row1 := ownsRow_keep h.row k1
  have far : ∀ {v l'}, OwnI w1 (g + 1) v l' → OwnI (w1.setCell ⟨g, k, none⟩ x) (g + 1) v l' := fun {v l'} o => o.far (o.not (g := g) (by omega)) x
  have old : ∀ (j : Nat) (y : Value), j < k → ys[j]? = some y → ∀ b, y.ownBlock = some b → b < w.heap.size := fun j y hj hy b hb => by
    have hjl : L[j]? = some (L[j]'(by omega)) := List.getElem?_eq_getElem _
    exact (World.ownsRow.lt (h.inn j y _ hj hy hjl) b hb).2
  have new : ∀ b, x.ownBlock = some b → w.heap.size ≤ b := fun b hb => (World.ownsRow.lt hx b hb).1
  have at' : ∀ (j : Nat) (y : Value), j < k + 1 → (ys.set k x)[j]? = some y → (j < k ∧ ys[j]? = some y) ∨ (j = k ∧ y = x) := fun j y hj hy => by
    by_cases e : k = j
    · subst e
      rw [List.getElem?_set_self (by omega)] at hy
      exact .inr ⟨rfl, (Option.some.inj hy).symm⟩
    · rw [List.getElem?_set_ne e] at hy
      exact .inl ⟨by omega, hy⟩
  refine ⟨(row1.stored k x).1, fun j y m hj hy hm => ?_, fun i j y z b hi hj hij hy hz hb => ?_⟩
  · rcases at' j y hj hy with ⟨hj', hy'⟩ | ⟨rfl, rfl⟩
    · exact far ((h.inn j y m hj' hy' hm).keep k1)
    · rw [hl] at hm
      obtain rfl := Option.some.inj hm
      exact far (hx.base (by omega))
  · rcases at' i y hi hy with ⟨hi', hy'⟩ | ⟨rfl, rfl⟩
    · rcases at' j z hj hz with ⟨hj', hz'⟩ | ⟨rfl, rfl⟩
      · exact h.two i j y z b hi' hj' hij hy' hz' hb
      · intro e
        have := old i y hi' hy' b hb
        have := new b e
        omega
    · rcases at' j z hj hz with ⟨hj', hz'⟩ | ⟨rfl, rfl⟩
      · intro e
        have := old j z hj' hz' b e
        have := new b hb
        omega
      · exact absurd rfl hij

/-- What the marking of lists of lists needs of those from the q-th on. -/
def RestII (w : World) (base q : Nat) (L : List (List Int)) (vs : List Value) : Prop := ∀ (j : Nat) (x : Value) (l : List Int), q ≤ j → vs[j]? = some x → L[j]? = some l → OwnI w base x l

set_option maxRecDepth 100000 in
set_option maxHeartbeats 1000000 in
theorem markIntSS_w (v : Value) (L : List (List Int)) (vs : List Value) (base lo hi : Nat) (k0 : Int) (w : World) (ho : OwnII w base v L vs) (hl : L.length ≤ 1048576) (hb : ∀ l ∈ L, l.length ≤ 1048576) (hlo : lo ≤ base) (hlw : lo ≤ w.heap.size)
    (hhi : ∀ (j : Nat) (x : Value) (b : Nat), vs[j]? = some x → x.ownBlock = some b → b < hi) (p0 : 0 ≤ k0) (p1 : k0 ≤ 10000000000000) :
    Calls Tryz.prog 18 #[v, .int .i64 k0] w fun e w' => ∃ k', e = .returned (.int .i64 k') ∧ k0 ≤ k' ∧ k' ≤ k0 + 1048576 * (L.length : Int) ∧ Mk lo hi w w' := by
  have HV := Lib.hid ho.len
  have HB := Lib.hid hb
  have HHI := Lib.hid hhi
  have HTW := Lib.hid ho.two
  have HRow : Hid (∀ wr, Mk base hi w wr → True) := Lib.hid fun _ _ => trivial
  rcases ho.row.2 with ⟨rfl, hn0⟩ | ⟨g, cap, cur, rfl, _⟩
  · have hL : L = [] := List.eq_nil_of_length_eq_zero hn0
    subst hL
    clear HV HB HHI HTW ho hb hhi hn0 HRow
    go_enter Tryz.func18, Tryz.ntmps18
    go_wp2_with fail
    go_loop [1, 5] (fun k i => k = .int .i64 k0 ∧ i = .int .i64 0) (fun _ _ => 0)
    case atStart => exact ⟨rfl, rfl⟩
    case round =>
      obtain ⟨rfl, rfl⟩ := hrel
      go_wp2_with fail
      go_ret
      exact ⟨_, rfl, by omega, by omega, Mk.refl _ _ _⟩
  · have HOUT := Lib.hid ho.out
    have R0 := Lib.hid ho.row
    have S0 : Hid (RestII w base 0 L vs) := Lib.hid fun j x l _ hx hl => ho.inn j x l hx hl
    obtain ⟨n, hn⟩ : ∃ n, L.length = n := ⟨_, rfl⟩
    have HN := Lib.hid hn
    rw [hn] at hl R0 ⊢
    have hgb : base ≤ g := (World.ownsRow.lt ho.row g rfl).1
    clear ho hb hhi hn HRow
    go_enter Tryz.func18, Tryz.ntmps18
    go_wp2_with fail
    go_loopw [1, 5] (fun kk i wr => ∃ (q : Nat) (k : Int), q ≤ n ∧ i = .int .i64 q ∧ kk = .int .i64 k ∧ k0 ≤ k ∧ k ≤ k0 + 1048576 * (q : Int) ∧ Hid (wr.ownsRow base 26 1 (.slice (some ⟨g, 0, none⟩) n cap) n vs) ∧ Hid (RestII wr base q L vs) ∧ Hid (Mk lo hi w wr) ∧ w.heap.size ≤ wr.heap.size) (fun _ i _ => n - (intOf i).toNat)
    case atStart => exact ⟨0, _, by omega, rfl, rfl, by omega, by omega, R0, S0, Lib.hid (Mk.refl _ _ _), Nat.le_refl _⟩
    case round =>
      clear R0 S0
      obtain ⟨q, k, hq, rfl, rfl, hk0, hk1, HR, HS, mk, hz⟩ := hrel
      by_cases hlt : q < n
      · have hlt' : (q : Int) < n := by omega
        obtain ⟨x, hx⟩ : ∃ x, vs[q]? = some x := ⟨vs[q]'(by have := HV.out; have := HN.out; omega), List.getElem?_eq_getElem _⟩
        obtain ⟨l, hl2⟩ : ∃ l, L[q]? = some l := ⟨L[q]'(by have := HN.out; omega), List.getElem?_eq_getElem _⟩
        have hnc := HB.out l (List.mem_of_getElem? hl2)
        have c0 : wr.cell? ⟨g, q, none⟩ = some x := (HR.out.cellAt q (by have : vs.length = n * 1 := HR.out.1; omega)).trans hx
        have OX := Lib.hid (HS.out q x l (Nat.le_refl _) hx hl2)
        have HX := Lib.hid hx
        have HNG : Hid (∀ b, x.ownBlock = some b → some g ≠ some b) := Lib.hid fun b hb e => HOUT.out q x b hx hb e
        have HBL : Hid (∀ b, x.ownBlock = some b → base ≤ b ∧ b < hi) := Lib.hid fun b hb => ⟨(World.ownsRow.lt OX.out b hb).1, HHI.out q x b hx hb⟩
        clear hx hl2
        go_wp2_with fail
        refine (markIntS_own x l.length base k (cellsI l) _ (by omega) (by omega) hnc OX.out).mono ?_
        rintro e1 w1 ⟨rfl, om, gm⟩
        have R1 : Hid (w1.ownsRow base 26 1 (.slice (some ⟨g, 0, none⟩) n cap) n vs) := Lib.hid (World.ownsRow.kept HR.out gm (.inr fun e => HNG.out g e.symm rfl))
        have S1 : Hid (RestII w1 base (q + 1) L vs) := Lib.hid fun j y m hj hy hm => World.ownsRow.kept (HS.out j y m (by omega) hy hm) gm (by
          cases hv : y.ownBlock
          · exact .inl rfl
          · rename_i b
            exact .inr fun e => HTW.out q j x y b (by omega) HX.out hy e.symm hv)
        have M1 : Hid (Mk lo hi w w1) := Lib.hid (mk.out.grown gm (by omega) (fun b e => ⟨by have := (HBL.out b e).1; omega, (HBL.out b e).2⟩))
        have hz1 : w.heap.size ≤ w1.heap.size := by
          have := gm.size
          omega
        clear om gm HR HS mk OX
        go_wp2_with fail
        go_roundw
        case rel => exact ⟨q + 1, _, by omega, by go_num, rfl, by omega, by simp; omega, R1, S1, M1, hz1⟩
        case measure => simp [intOf]; omega
      · obtain rfl : q = n := by omega
        go_wp2_with fail
        go_ret
        exact ⟨_, rfl, by omega, by omega, mk.out⟩

end Go.Proofs.YtfohhofpfmbheaaGreatDoor

/-
  A store into a list of integers that the call owns; a new list of zeros.
-/
namespace Go.Proofs.YtfohhofpfmbheaaGreatDoor
open Go.RowKit

theorem cellsI_set (l : List Int) (k : Nat) (x : Int) : cellsI (l.set k x) = (cellsI l).set k (.int .i64 x) := by simp [cellsI, List.map_set]
theorem cellsI_zero (n : Nat) : (madeCells #[.int .i64 0] n).toList = cellsI (List.replicate n 0) := by
  apply List.ext_getElem?
  intro i
  by_cases h : i < n
  · have : i % 1 = 0 := Nat.mod_one i
    simp [madeCells, cellsI, h, this]
  · simp [madeCells, cellsI, h]
/-- The cell at k, that it may be written, and what is owned when it has been. -/
theorem OwnI.put {w : World} {base n g cap : Nat} {l : List Int} (h : OwnI w base (.slice (some ⟨g, 0, none⟩) n cap) l) (hn : l.length = n) {k : Nat} (hk : k < n) (x : Int) :
    (∃ u, w.cell? ⟨g, k, none⟩ = some u) ∧ w.frozen? ⟨g, k, none⟩ = false ∧ OwnI (w.setCell ⟨g, k, none⟩ (.int .i64 x)) base (.slice (some ⟨g, 0, none⟩) n cap) (l.set k x) := by
  subst hn
  have ho : w.ownsRow base 3 1 (.slice (some ⟨g, 0, none⟩) l.length cap) l.length (cellsI l) := h
  have hlen : (cellsI l).length = l.length * 1 := ho.1
  refine ⟨⟨_, (ho.cellAt k (by omega)).trans (List.getElem?_eq_getElem (by omega))⟩, ho.frozenAt k, ?_⟩
  have o1 := (ho.stored k (.int .i64 x)).1
  unfold OwnI
  rw [cellsI_set, List.length_set]
  exact o1

theorem ownI_zero (w : World) (n : Nat) (hn : n ≤ 1048576) : OwnI (w.alloc (.cells (madeCells #[.int .i64 0] n) 3)) w.heap.size (.slice (some ⟨w.heap.size, 0, none⟩) n n) (List.replicate n 0) := by
  have own0 : (w.alloc (.cells (madeCells #[.int .i64 0] n) 3)).ownsRow w.heap.size 3 1 (.slice (some ⟨w.heap.size, 0, none⟩) n n) n (madeCells #[.int .i64 0] n).toList :=
    World.ownsRow_lit w _ n (Nat.le_refl _) (by simp only [maxLen]; omega) (by rw [size_madeCells, Nat.mul_one])
  rw [cellsI_zero] at own0
  unfold OwnI
  rw [List.length_replicate]
  exact own0

end Go.Proofs.YtfohhofpfmbheaaGreatDoor
