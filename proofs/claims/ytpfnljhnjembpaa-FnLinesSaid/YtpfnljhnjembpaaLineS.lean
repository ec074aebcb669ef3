/-
  Lines of hexes: the reference's list of lists is what a plain function says, in memory of its own, or none; both functions at whatever hexes. Nothing that was there is changed.
-/
import Derived.Test.YtpfnljhnjembpaaLine
namespace Go.Proofs.Ytpfnljhnjembpaa
open Go.RowKit

theorem cellsL_one (q r : Int) : cellsL q r 1 = [(q, r)] := by
  have h1 : q.tmod 1 = 0 := Int.tmod_one q
  have h2 : nrI r 1 = [r] := by
    unfold nrI
    rw [nrFS_1 (by rw [Int.emod_one]; omega), Int.ediv_one]
  unfold cellsL
  rw [if_pos h1, h2, Int.tdiv_one]
  rfl
def NewLine (L : List (List (Int × Int))) (w : World) (e : Ending) (w' : World) : Prop := ∃ v vs, e = .returned v ∧ OwnHH w' w.heap.size v L vs ∧ Kp w w'

theorem own_lit (w : World) (q r : Int) (base : Nat) (hb : base ≤ w.heap.size) :
    OwnHH ((w.alloc (.cells #[.int .i64 q, .int .i64 r] 25)).alloc (.cells #[.slice (some ⟨w.heap.size, 0, none⟩) 1 1] 32)) base (.slice (some ⟨w.heap.size + 1, 0, none⟩) 1 1) [[(q, r)]] [.slice (some ⟨w.heap.size, 0, none⟩) 1 1] := by
  have i1 : OwnH (w.alloc (.cells #[.int .i64 q, .int .i64 r] 25)) base (.slice (some ⟨w.heap.size, 0, none⟩) 1 1) [(q, r)] :=
    World.ownsRow_lit w #[.int .i64 q, .int .i64 r] 1 hb (by simp only [maxLen]; omega) rfl
  have hsz : (w.alloc (.cells #[.int .i64 q, .int .i64 r] 25)).heap.size = w.heap.size + 1 := by simp
  have r1 := World.ownsRow_lit (base := base) (e := 32) (size := 1) (w.alloc (.cells #[.int .i64 q, .int .i64 r] 25)) #[.slice (some ⟨w.heap.size, 0, none⟩) 1 1] 1 (by omega) (by simp only [maxLen]; omega) rfl
  rw [hsz] at r1
  refine ⟨r1, fun i x l hx hl => ?_, fun i x g hx e => ?_, fun i j x y g hij hx hy e => ?_⟩
  · match i, hx, hl with
    | 0, hx, hl =>
      simp at hx hl
      subst hx hl
      exact i1.keep ((Kp.refl _).alloc _)
  · match i, hx with
    | 0, hx =>
      simp at hx
      subst hx
      have h1 : w.heap.size = g := Option.some.inj e
      intro e2
      have h2 : w.heap.size + 1 = g := Option.some.inj e2
      omega
  · match i, j, hx, hy with
    | 0, 0, _, _ => exact absurd rfl hij
    | 0, j + 1, _, hy => simp at hy
    | i + 1, _, hx, _ => simp at hx

set_option maxRecDepth 100000 in
set_option maxHeartbeats 8000000 in
theorem hLine_any (aq ar bq br : Int) (N : Nat) (w : World) (ha : okH aq ar = true) (hb : okH bq br = true) (hN : (N : Int) = distH aq ar bq br) :
    Calls Try.prog 20 #[hx aq ar, hx bq br] w (NewLine (lineF aq ar bq br (onep N) (N + 1)) w) := by
  have A1 := okH_true ha
  have B1 := okH_true hb
  have D1 := dist_bd ha hb
  have hN2 : N ≤ 160 := by omega
  have HC : Hid (∀ w, Calls Try.prog 29 #[hx aq ar, hx bq br] w fun e w' => e = .returned (.int .i64 N) ∧ Kp w w') := Lib.hid fun w => by
    rw [hN]
    exact hDistance_any aq ar bq br w (by omega) (by omega) (by omega) (by omega) (by omega) (by omega) (by omega) (by omega)
  obtain ⟨j0, hj0, hz0, hs0, hb0⟩ := info_parts infoHexS
  clear ha hb hN D1
  by_cases hN0 : N = 0
  · subst hN0
    rw [show lineF aq ar bq br (onep (0 : Nat)) (0 + 1) = [[(aq, ar)]] by
      simp only [lineF, onep]
      rw [if_pos (by decide)]
      simp [cellsL_one]]
    go_enter Try.func20, Try.ntmps20
    go_wp2_with fail
    refine (HC.out _).mono ?_
    rintro e1 w1 ⟨rfl, k1⟩
    have c1 : w1.cell? ⟨w.heap.size, 0, none⟩ = some (.int .i64 aq) ∧ w1.cell? ⟨w.heap.size, 1, none⟩ = some (.int .i64 ar) := ⟨k1.cell (by simp [go_sem]), k1.cell (by simp [go_sem])⟩
    have K1 : Kp w w1 := (((Kp.refl _).alloc _).alloc _).trans k1
    clear k1
    go_wp2_with fail
    go_ret
    exact ⟨_, _, rfl, own_lit w1 aq ar w.heap.size K1.size, (K1.alloc _).alloc _⟩
  · have hp : onep N = N := by unfold onep; rw [if_neg (by omega)]
    rw [hp]
    have hNe : ((N : Int) == 0) = false := by simp; omega
    have n1 : (1 : Int) ≤ N := by omega
    clear hN0 hp
    go_enter Try.func20, Try.ntmps20
    go_wp2_with fail
    refine (HC.out _).mono ?_
    rintro e1 w1 ⟨rfl, k1⟩
    have c1 : w1.cell? ⟨w.heap.size, 0, none⟩ = some (.int .i64 aq) ∧ w1.cell? ⟨w.heap.size, 1, none⟩ = some (.int .i64 ar) ∧ w1.cell? ⟨w.heap.size + 1, 0, none⟩ = some (.int .i64 bq) ∧ w1.cell? ⟨w.heap.size + 1, 1, none⟩ = some (.int .i64 br) :=
      ⟨k1.cell (by simp [go_sem]), k1.cell (by simp [go_sem]), k1.cell (by simp [go_sem]), k1.cell (by simp [go_sem])⟩
    have K1 : Kp w w1 := (((Kp.refl _).alloc _).alloc _).trans k1
    clear k1 HC
    go_wp2_with fail
    go_loopw [6, 7] (fun v s7 wx => ∃ k : Nat, k ≤ N + 1 ∧ s7 = .int .i64 k ∧ (∃ vs, OwnHH wx (w.heap.size + 2) v (lineF aq ar bq br (N : Int) k) vs) ∧ (wx.cell? ⟨w.heap.size, 0, none⟩ = some (.int .i64 aq) ∧ wx.cell? ⟨w.heap.size, 1, none⟩ = some (.int .i64 ar) ∧ wx.cell? ⟨w.heap.size + 1, 0, none⟩ = some (.int .i64 bq) ∧ wx.cell? ⟨w.heap.size + 1, 1, none⟩ = some (.int .i64 br)) ∧ Kp w wx) (fun _ s7 _ => N + 1 - (intOf s7).toNat)
    case atStart => exact ⟨0, by omega, rfl, ⟨_, OwnHH.nil _ _⟩, c1, K1⟩
    case round =>
      clear c1 K1
      obtain ⟨k, hk, rfl, ⟨vs, hoR⟩, sr, kR⟩ := hrel
      by_cases hlt : k < N + 1
      · have hlt' : (k : Int) ≤ N := by omega
        have HO := Lib.hid hoR
        have blt : w.heap.size + 1 < wr.heap.size := cell_lt sr.2.2.1
        have n1' := Lib.hid (fun e => (Nat.lt_irrefl _ (Nat.lt_of_lt_of_le (show w.heap.size < w.heap.size + 2 by omega) (World.ownsRow.lt hoR.row w.heap.size e).1)))
        have n2' := Lib.hid (fun e => (Nat.lt_irrefl _ (Nat.lt_of_lt_of_le (show w.heap.size + 1 < w.heap.size + 2 by omega) (World.ownsRow.lt hoR.row (w.heap.size + 1) e).1)))
        have hln : Hid ((lineF aq ar bq br (N : Int) k).length = k) := Lib.hid (lineF_len _ _ _ _ _ _)
        clear hoR
        go_wp2_with fail
        refine (hCells_any _ _ _ _ _ _ _ _ _ (by omega) (by omega) (by omega) (by omega) (by omega) (by omega) (by omega) (by omega) (by omega) (by omega) (by omega) (by omega) rfl rfl).mono ?_
        rintro e3 w3 ⟨x0, rfl, o3, k3⟩
        obtain ⟨Ax, nx, cx, rfl⟩ := o3.sl
        have O3 := Lib.hid o3
        have s3 := k3.four sr
        have K3 : Kp w w3 := kR.trans k3
        have hz4 := k3.size
        have k3' := Lib.hid k3
        have oRow := Lib.hid (ownsRow_keep HO.out.row k3)
        clear o3 k3 sr kR
        go_wp2_with (at_builtin; refine wpList_append_own_at _ rfl (.tmp 21) (.tmp 27) 28 rfl (w.heap.size + 2) 32 j0 (.slice none 0 0) 1 24 Try.underlying28 hj0 hz0 hs0 hb0 rfl (by decide) _ (lineF aq ar bq br (N : Int) k).length vs rfl (World.ownsRow.alloc oRow.out _) ⟨w3.heap.size, 0, none⟩ 1 1 [.slice Ax nx cx] rfl rfl (cell_one _ _ _) (by simp [Value.oneCell']) (by have := hln.out; simp only [maxLen]; omega) (by have := hln.out; omega) (by simp; omega) ?_; intro v' w4 hown2 hgrow2 hnil2 hat2; clear hnil2; have s4 := ((Kp.refl w3).alloc (.cells #[.slice Ax nx cx] 32)).four s3; have q0 := hgrow2.cell s4.1 (fun e => n1'.out e.symm); have q1 := hgrow2.cell s4.2.1 (fun e => n1'.out e.symm); have q2 := hgrow2.cell s4.2.2.1 (fun e => n2'.out e.symm); have q3 := hgrow2.cell s4.2.2.2 (fun e => n2'.out e.symm); have K4 : Kp w w4 := (K3.alloc (.cells #[.slice Ax nx cx] 32)).grown hgrow2 (fun k e => by have := (World.ownsRow.lt oRow.out k e).1; omega); have O4 := Lib.hid (HO.out.snoc k3'.out O3.out (by omega) hown2 hgrow2 hat2); clear hown2 hgrow2 hat2 s3 s4)
        go_roundw
        case rel => exact ⟨k + 1, by omega, by go_num, ⟨_, by rw [lineF]; exact O4.out⟩, ⟨q0, q1, q2, q3⟩, K4⟩
        case measure => simp [intOf]; omega
      · obtain rfl : k = N + 1 := by omega
        go_wp2_with fail
        go_ret
        exact ⟨_, _, rfl, hoR.base (by omega), kR⟩

theorem lineL_eq {aq ar bq br : Int} {N : Nat} (hN : (N : Int) = distH aq ar bq br) : lineL aq ar bq br = lineF aq ar bq br (onep N) (N + 1) := by
  unfold lineL
  rw [← hN, Int.toNat_natCast]

theorem lineOf_any (aq ar bq br : Int) (w : World) : Calls Try.prog 7 #[hx aq ar, hx bq br] w (LinePost (ok2 aq ar bq br) (lineL aq ar bq br) w) := by
  cases h : ok2 aq ar bq br
  · exact lineOf_no aq ar bq br w h
  · have hs : okH aq ar = true ∧ okH bq br = true := by simpa [ok2] using h
    have D1 := dist_bd hs.1 hs.2
    obtain ⟨N, hN⟩ : ∃ N : Nat, (N : Int) = distH aq ar bq br := ⟨(distH aq ar bq br).toNat, by omega⟩
    rw [lineL_eq hN]
    exact lineOf_yes aq ar bq br _ N w hs.1 hs.2 hN rfl

theorem specLineOf_any (aq ar bq br : Int) (w : World) : Calls Try.prog 8 #[hx aq ar, hx bq br] w (LinePost (ok2 aq ar bq br) (lineL aq ar bq br) w) := by
  cases ha : okH aq ar
  · have e : ok2 aq ar bq br = false := by simp [ok2, ha]
    rw [e]
    clear e
    go_enter Try.func8, Try.ntmps8
    go_wp2_with fail
    refine (hGood_any _ _ _).mono ?_
    rintro e1 w1 ⟨rfl, k1⟩
    go_wp2_with fail
    go_ret2
    exact LinePost.no ((((Kp.refl _).alloc _).alloc _).trans k1)
  · cases hb : okH bq br
    · have e : ok2 aq ar bq br = false := by simp [ok2, hb]
      rw [e]
      clear e
      go_enter Try.func8, Try.ntmps8
      go_wp2_with fail
      refine (hGood_any _ _ _).mono ?_
      rintro e1 w1 ⟨rfl, k1⟩
      have c2 : w1.cell? ⟨w.heap.size + 1, 0, none⟩ = some (.int .i64 bq) := k1.cell (by simp [go_sem])
      have c3 : w1.cell? ⟨w.heap.size + 1, 1, none⟩ = some (.int .i64 br) := k1.cell (by simp [go_sem])
      have K1 : Kp w w1 := (((Kp.refl _).alloc _).alloc _).trans k1
      clear k1
      go_wp2_with fail
      refine (hGood_any _ _ _).mono ?_
      rintro e2 w2 ⟨rfl, k2⟩
      go_wp2_with fail
      go_ret2
      exact LinePost.no (K1.trans k2)
    · have D1 := dist_bd ha hb
      have e : ok2 aq ar bq br = true := by simp [ok2, ha, hb]
      obtain ⟨N, hN⟩ : ∃ N : Nat, (N : Int) = distH aq ar bq br := ⟨(distH aq ar bq br).toNat, by omega⟩
      rw [lineL_eq hN, e]
      have HC := Lib.hid (fun w => hLine_any aq ar bq br N w ha hb hN)
      generalize lineF aq ar bq br (onep N) (N + 1) = L at *
      unfold NewLine at HC
      clear e hN D1
      go_enter Try.func8, Try.ntmps8
      go_wp2_with fail
      refine (hGood_any _ _ _).mono ?_
      rintro e1 w1 ⟨rfl, k1⟩
      have c1 : w1.cell? ⟨w.heap.size, 0, none⟩ = some (.int .i64 aq) ∧ w1.cell? ⟨w.heap.size, 1, none⟩ = some (.int .i64 ar) ∧ w1.cell? ⟨w.heap.size + 1, 0, none⟩ = some (.int .i64 bq) ∧ w1.cell? ⟨w.heap.size + 1, 1, none⟩ = some (.int .i64 br) :=
        ⟨k1.cell (by simp [go_sem]), k1.cell (by simp [go_sem]), k1.cell (by simp [go_sem]), k1.cell (by simp [go_sem])⟩
      have K1 : Kp w w1 := (((Kp.refl _).alloc _).alloc _).trans k1
      clear k1
      go_wp2_with fail
      refine (hGood_any _ _ _).mono ?_
      rintro e2 w2 ⟨rfl, k2⟩
      have c2 := k2.four c1
      have K2 := K1.trans k2
      have hz := K2.size
      clear c1 K1 k2
      go_wp2_with fail
      refine (HC.out _).mono ?_
      rintro e3 w3 ⟨v, vs, rfl, o3, k3⟩
      go_wp2_with fail
      go_ret2
      exact ⟨_, _, rfl, o3.base hz, K2.trans k3⟩

end Go.Proofs.Ytpfnljhnjembpaa
