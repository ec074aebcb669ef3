/-
  Lines of hexes: the program's list of lists is what a plain function says, in memory of its own, or none. Nothing that was there is changed.
-/
import Derived.Test.YtpfnljhnjembpaaHH
import Derived.Test.YtpfnljhnjembpaaDist
namespace Go.Proofs.Ytpfnljhnjembpaa
open Go.RowKit

def lineF (aq ar bq br p : Int) : Nat → List (List (Int × Int))
  | 0 => []
  | k + 1 => lineF aq ar bq br p k ++ [cellsL (aq * p + (bq - aq) * k) (ar * p + (br - ar) * k) p]
theorem lineF_len (aq ar bq br p : Int) : ∀ k, (lineF aq ar bq br p k).length = k
  | 0 => rfl
  | k + 1 => by rw [lineF, List.length_append, lineF_len aq ar bq br p k]; rfl
theorem cellsL_len (q r p : Int) : (cellsL q r p).length ≤ 2 := by
  unfold cellsL
  split
  · simpa using nrI_len r p
  · split <;> simpa using nrI_len q p
theorem lineF_in (aq ar bq br p : Int) : ∀ k, ∀ l ∈ lineF aq ar bq br p k, l.length ≤ 2
  | 0, l, h => by cases h
  | k + 1, l, h => by
    rw [lineF, List.mem_append] at h
    rcases h with h | h
    · exact lineF_in aq ar bq br p k l h
    · simp at h
      rw [h]
      exact cellsL_len _ _ _
def onep (n : Int) : Int := if n < 1 then 1 else n
def lineL (aq ar bq br : Int) : List (List (Int × Int)) := lineF aq ar bq br (onep (distH aq ar bq br)) ((distH aq ar bq br).toNat + 1)
theorem dist_bd {aq ar bq br : Int} (ha : okH aq ar = true) (hb : okH bq br = true) : 0 ≤ distH aq ar bq br ∧ distH aq ar bq br ≤ 160 := by
  have A1 := okH_true ha
  have B1 := okH_true hb
  have b1 := absI_bd (bq - aq)
  have b2 := absI_bd (br - ar)
  have b3 := absI_bd (bq - aq + (br - ar))
  unfold distH distI
  omega

/-- A new list of lists of hexes and true, or none and false. -/
def LinePost (ok : Bool) (L : List (List (Int × Int))) (w : World) (e : Ending) (w' : World) : Prop :=
  ∃ v vs, e = .returned (.tuple #[v, .bool ok]) ∧ OwnHH w' w.heap.size v (if ok = true then L else []) vs ∧ Kp w w'
theorem LinePost.no {L : List (List (Int × Int))} {w w' : World} (hk : Kp w w') : LinePost false L w (.returned (.tuple #[.slice none 0 0, .bool false])) w' := ⟨_, _, rfl, OwnHH.nil _ _, hk⟩

theorem infoHexS : (Try.prog.info? 32).map (fun i => (i.zero, i.size, i.bytes)) = some (some (.slice none 0 0), 1, 24) := by kernel_rfl
theorem mkHexSS (n : Nat) (hn : n ≤ 1000) (w : World) :
    (Instr.makeSlice 28 (.int .i64 0) (.int .i64 ((n : Int) + 1))).run Try.prog w = .ok (.slice (some ⟨w.heap.size, 0, none⟩) 0 (n + 1)) (w.alloc (.cells (madeCells #[.slice none 0 0] (n + 1)) 32)) := by
  obtain ⟨i, hi, hz, hs, hb⟩ := info_parts infoHexS
  have hr := run_make (P := Try.prog) w 28 32 i (.slice none 0 0) Try.underlying28 hi hz .i64 .i64 0 ((n : Int) + 1) (Int.le_refl _) (by omega) (by rw [hb]; omega) (by omega)
  rw [hs, Nat.mul_one, show ((n : Int) + 1).toNat = n + 1 by omega] at hr
  exact hr
theorem OwnHH.made (w : World) (base n : Nat) (hb : base ≤ w.heap.size) (hn : n ≤ 1000) : OwnHH (w.alloc (.cells (madeCells #[.slice none 0 0] (n + 1)) 32)) base (.slice (some ⟨w.heap.size, 0, none⟩) 0 (n + 1)) [] [] :=
  ⟨World.ownsRow_made w _ (n + 1) hb (by simp only [maxLen]; omega) (by rw [size_madeCells, Nat.mul_one]), fun i x l hx _ => by simp at hx, fun i x g hx _ => by simp at hx, fun i j x y g _ hx => by simp at hx⟩

theorem cell_one (w : World) (x : Value) (t : TypeId) : ∀ j u, [x][j]? = some u → (w.alloc (.cells #[x] t)).cell? ((⟨w.heap.size, 0, none⟩ : Addr).add j) = some u := by
  intro j u hj
  match j, hj with
  | 0, hj => simp at hj; subst hj; simp [Addr.add]
theorem OwnH.oneCell {w : World} {base : Nat} {v : Value} {l : List (Int × Int)} (h : OwnH w base v l) : v.oneCell' = true := by
  rcases h.2 with ⟨rfl, _⟩ | ⟨g, cap, cur, rfl, _⟩ <;> rfl
theorem OwnH.sl {w : World} {base : Nat} {v : Value} {l : List (Int × Int)} (h : OwnH w base v l) : ∃ A n c, v = .slice A n c := by
  obtain ⟨A, c, rfl, _⟩ := h.rd
  exact ⟨A, _, c, rfl⟩

theorem lineOf_no (aq ar bq br : Int) (w : World) (h : ok2 aq ar bq br = false) :
    Calls Try.prog 7 #[hx aq ar, hx bq br] w (LinePost false (lineL aq ar bq br) w) := by
  have HC : Hid (∀ w, Calls Try.prog 11 #[hx aq ar, hx bq br] w fun e w' => e = .returned (.tuple #[.int .i64 0, .bool false]) ∧ Kp w w') := Lib.hid fun w => by
    have := distanceOf_any aq ar bq br w
    rw [h, show distOf aq ar bq br = 0 by simp [distOf, h]] at this
    exact this
  clear h
  go_enter Try.func7, Try.ntmps7
  go_wp2_with fail
  refine (HC.out _).mono ?_
  rintro e1 w1 ⟨rfl, k1⟩
  go_wp2_with fail
  go_ret2
  exact LinePost.no ((((Kp.refl _).alloc _).alloc _).trans k1)

set_option maxRecDepth 100000 in
set_option maxHeartbeats 8000000 in
theorem lineOf_yes (aq ar bq br p : Int) (N : Nat) (w : World) (ha : okH aq ar = true) (hb : okH bq br = true) (hN : (N : Int) = distH aq ar bq br) (hp : onep N = p) :
    Calls Try.prog 7 #[hx aq ar, hx bq br] w (LinePost true (lineF aq ar bq br p (N + 1)) w) := by
  have A1 := okH_true ha
  have B1 := okH_true hb
  have D1 := dist_bd ha hb
  have hN2 : N ≤ 160 := by omega
  have HC : Hid (∀ w, Calls Try.prog 11 #[hx aq ar, hx bq br] w fun e w' => e = .returned (.tuple #[.int .i64 N, .bool true]) ∧ Kp w w') := Lib.hid fun w => by
    have := distanceOf_any aq ar bq br w
    obtain ⟨e1, e2⟩ := distOf_yes ha hb
    rw [e1, e2, ← hN] at this
    exact this
  obtain ⟨j0, hj0, hz0, hs0, hb0⟩ := info_parts infoHexS
  have hmk := fun w => mkHexSS N (by omega) w
  have p1 : 1 ≤ p := by rw [← hp]; unfold onep; split <;> omega
  have p2 : p ≤ 160 := by rw [← hp]; unfold onep; split <;> omega
  have hmx : (N = 0 ∧ p = 1) ∨ ((1 : Int) ≤ N ∧ p = N) := by
    rw [← hp]; unfold onep; split <;> omega
  have HQ : Hid (∀ k : Nat, k ≤ N → cellsL (aq * p + (k : Int) * (bq - aq)) (ar * p + (k : Int) * (br - ar)) p = cellsL (aq * p + (bq - aq) * k) (ar * p + (br - ar) * k) p) := Lib.hid fun k _ => by
    rw [Int.mul_comm (k : Int), Int.mul_comm (k : Int)]
  have HB : Hid (∀ k : Nat, k ≤ N → (-12800 ≤ (k : Int) * (bq - aq) ∧ (k : Int) * (bq - aq) ≤ 12800) ∧ (-12800 ≤ (k : Int) * (br - ar) ∧ (k : Int) * (br - ar) ≤ 12800)) := Lib.hid fun k hk => by
    have m2 := mul_bd2 (x := (k : Int)) (y := bq - aq) (a := 160) (b := 80) (by omega) (by omega) (by omega) (by omega)
    have m4 := mul_bd2 (x := (k : Int)) (y := br - ar) (a := 160) (b := 80) (by omega) (by omega) (by omega) (by omega)
    omega
  have m1 := mul_bd2 (x := aq) (y := p) (a := 40) (b := 160) (by omega) (by omega) (by omega) (by omega)
  have m3 := mul_bd2 (x := ar) (y := p) (a := 40) (b := 160) (by omega) (by omega) (by omega) (by omega)
  have HP := Lib.hid hp
  clear ha hb hN hp D1
  go_enter Try.func7, Try.ntmps7
  go_wp2_with fail
  refine (HC.out _).mono ?_
  rintro e1 w1 ⟨rfl, k1⟩
  have c1 : w1.cell? ⟨w.heap.size, 0, none⟩ = some (.int .i64 aq) ∧ w1.cell? ⟨w.heap.size, 1, none⟩ = some (.int .i64 ar) ∧ w1.cell? ⟨w.heap.size + 1, 0, none⟩ = some (.int .i64 bq) ∧ w1.cell? ⟨w.heap.size + 1, 1, none⟩ = some (.int .i64 br) :=
    ⟨k1.cell (by simp [go_sem]), k1.cell (by simp [go_sem]), k1.cell (by simp [go_sem]), k1.cell (by simp [go_sem])⟩
  have K1 : Kp w w1 := (((Kp.refl _).alloc _).alloc _).trans k1
  clear k1 HC
  rcases hmx with ⟨rfl, rfl⟩ | ⟨n1, rfl⟩
  · have hmk0 : ∀ w, (Instr.makeSlice 28 (.int .i64 0) (.int .i64 1)).run Try.prog w = .ok (.slice (some ⟨w.heap.size, 0, none⟩) 0 1) (w.alloc (.cells (madeCells #[.slice none 0 0] 1) 32)) := fun w => mkHexSS 0 (by omega) w
    clear hmk
    go_wp2_with fail
    refine (offsetTo_any _ _ _ _ _ (by omega) (by omega) (by omega) (by omega) (by omega) (by omega) (by omega) (by omega)).mono ?_
    rintro e2 w2 ⟨rfl, k2⟩
    have c2 := k2.four c1
    have kb := (Kp.refl w2).alloc (.cells #[.int .i64 (bq - aq), .int .i64 (br - ar)] 41)
    have c3 := kb.four c2
    have d3 : (w2.alloc (.cells #[.int .i64 (bq - aq), .int .i64 (br - ar)] 41)).cell? ⟨w2.heap.size, 0, none⟩ = some (.int .i64 (bq - aq)) ∧ (w2.alloc (.cells #[.int .i64 (bq - aq), .int .i64 (br - ar)] 41)).cell? ⟨w2.heap.size, 1, none⟩ = some (.int .i64 (br - ar)) := ⟨by simp [go_sem], by simp [go_sem]⟩
    have K2 : Kp w (w2.alloc (.cells #[.int .i64 (bq - aq), .int .i64 (br - ar)] 41)) := (K1.trans k2).trans kb
    have hz2 : w.heap.size < w2.heap.size := Nat.lt_of_lt_of_le (cell_lt c1.1) k2.size
    have hz2b := Lib.hid (show (w2.alloc (.cells #[.int .i64 (bq - aq), .int .i64 (br - ar)] 41)).heap.size = w2.heap.size + 1 by simp)
    clear c1 c2 K1 k2 kb
    go_wp2_with fail
    generalize w2.heap.size = b9 at *
    generalize (w2.alloc (.cells #[.int .i64 (bq - aq), .int .i64 (br - ar)] 41)) = W3 at *
    have HM : Hid (OwnHH (W3.alloc (.cells (madeCells #[.slice none 0 0] 1) 32)) (b9 + 1) (.slice (some ⟨b9 + 1, 0, none⟩) 0 1) [] []) := Lib.hid (by
      have := OwnHH.made W3 (b9 + 1) 0 (by have := hz2b.out; omega) (by omega)
      rw [hz2b.out] at this
      exact this)
    have km := (Kp.refl W3).alloc (.cells (madeCells #[.slice none 0 0] 1) 32)
    have sM : ((W3.alloc (.cells (madeCells #[.slice none 0 0] 1) 32)).cell? ⟨w.heap.size, 0, none⟩ = some (.int .i64 aq) ∧ (W3.alloc (.cells (madeCells #[.slice none 0 0] 1) 32)).cell? ⟨w.heap.size, 1, none⟩ = some (.int .i64 ar) ∧ (W3.alloc (.cells (madeCells #[.slice none 0 0] 1) 32)).cell? ⟨b9, 0, none⟩ = some (.int .i64 (bq - aq)) ∧ (W3.alloc (.cells (madeCells #[.slice none 0 0] 1) 32)).cell? ⟨b9, 1, none⟩ = some (.int .i64 (br - ar))) := ⟨km.cell c3.1, km.cell c3.2.1, km.cell d3.1, km.cell d3.2⟩
    have KM : Kp w (W3.alloc (.cells (madeCells #[.slice none 0 0] 1) 32)) := K2.trans km
    clear c3 d3 K2 km
    generalize (W3.alloc (.cells (madeCells #[.slice none 0 0] 1) 32)) = WM at *
    go_loopw [10, 11, 30] (fun v _ s30 wx => ∃ k : Nat, k ≤ 1 ∧ s30 = .int .i64 k ∧ (∃ vs, OwnHH wx (b9 + 1) v (lineF aq ar bq br 1 k) vs) ∧ (wx.cell? ⟨w.heap.size, 0, none⟩ = some (.int .i64 aq) ∧ wx.cell? ⟨w.heap.size, 1, none⟩ = some (.int .i64 ar) ∧ wx.cell? ⟨b9, 0, none⟩ = some (.int .i64 (bq - aq)) ∧ wx.cell? ⟨b9, 1, none⟩ = some (.int .i64 (br - ar))) ∧ Kp w wx) (fun _ _ s30 _ => 1 - (intOf s30).toNat)
    case atStart => exact ⟨0, by omega, rfl, ⟨_, HM.out⟩, sM, KM⟩
    case round =>
      clear sM KM HM
      obtain ⟨k, hk, rfl, ⟨vs, hoR⟩, sr, kR⟩ := hrel
      by_cases hlt : k < 1
      · obtain rfl : k = 0 := by omega
        have HO := Lib.hid hoR
        have blt : b9 < wr.heap.size := cell_lt sr.2.2.1
        have n1' := Lib.hid (fun e => (Nat.lt_irrefl _ (Nat.lt_of_lt_of_le (show w.heap.size < b9 + 1 by omega) (World.ownsRow.lt hoR.row w.heap.size e).1)))
        have n2' := Lib.hid (fun e => (Nat.lt_irrefl _ (Nat.lt_of_lt_of_le (show b9 < b9 + 1 by omega) (World.ownsRow.lt hoR.row b9 e).1)))
        have hln : Hid ((lineF aq ar bq br 1 0).length = 0) := Lib.hid (lineF_len _ _ _ _ _ _)
        clear hoR
        go_wp2_with fail
        refine (hexesNear_any _ _ _ _ (by omega) (by omega) (by omega) (by omega) (by omega) (by omega)).mono ?_
        rintro e3 w3 ⟨x0, rfl, o3, k3⟩
        obtain ⟨Ax, nx, cx, rfl⟩ := o3.sl
        have O3 := Lib.hid o3
        have s3 := k3.four sr
        have K3 : Kp w w3 := kR.trans k3
        have hz4 := k3.size
        have k3' := Lib.hid k3
        have oRow := Lib.hid (ownsRow_keep HO.out.row k3)
        clear o3 k3 sr kR
        go_wp2_with (at_builtin; refine wpList_append_own_at _ rfl (.tmp 33) (.tmp 54) 28 rfl (b9 + 1) 32 j0 (.slice none 0 0) 1 24 Try.underlying28 hj0 hz0 hs0 hb0 rfl (by decide) _ (lineF aq ar bq br 1 0).length vs rfl (World.ownsRow.alloc oRow.out _) ⟨w3.heap.size, 0, none⟩ 1 1 [.slice Ax nx cx] rfl rfl (cell_one _ _ _) (by simp [Value.oneCell']) (by have := hln.out; simp only [maxLen]; omega) (by have := hln.out; omega) (by simp; omega) ?_; intro v' w4 hown2 hgrow2 hnil2 hat2; clear hnil2; have s4 := ((Kp.refl w3).alloc (.cells #[.slice Ax nx cx] 32)).four s3; have q0 := hgrow2.cell s4.1 (fun e => n1'.out e.symm); have q1 := hgrow2.cell s4.2.1 (fun e => n1'.out e.symm); have q2 := hgrow2.cell s4.2.2.1 (fun e => n2'.out e.symm); have q3 := hgrow2.cell s4.2.2.2 (fun e => n2'.out e.symm); have K4 : Kp w w4 := (K3.alloc (.cells #[.slice Ax nx cx] 32)).grown hgrow2 (fun k e => by have := (World.ownsRow.lt oRow.out k e).1; omega); have O4 := Lib.hid (HO.out.snoc k3'.out O3.out (by omega) hown2 hgrow2 hat2); clear hown2 hgrow2 hat2 s3 s4)
        go_roundw
        case rel => exact ⟨1, by omega, by go_num, ⟨_, by rw [lineF, show aq * 1 + (bq - aq) * ((0 : Nat) : Int) = aq by simp, show ar * 1 + (br - ar) * ((0 : Nat) : Int) = ar by simp]; exact O4.out⟩, ⟨q0, q1, q2, q3⟩, K4⟩
        case measure => simp [intOf]
      · obtain rfl : k = 1 := by omega
        go_wp2_with fail
        go_ret2
        exact ⟨_, _, rfl, hoR.base (by omega), kR⟩
  · go_wp2_with fail
    refine (offsetTo_any _ _ _ _ _ (by omega) (by omega) (by omega) (by omega) (by omega) (by omega) (by omega) (by omega)).mono ?_
    rintro e2 w2 ⟨rfl, k2⟩
    have c2 := k2.four c1
    have kb := (Kp.refl w2).alloc (.cells #[.int .i64 (bq - aq), .int .i64 (br - ar)] 41)
    have c3 := kb.four c2
    have d3 : (w2.alloc (.cells #[.int .i64 (bq - aq), .int .i64 (br - ar)] 41)).cell? ⟨w2.heap.size, 0, none⟩ = some (.int .i64 (bq - aq)) ∧ (w2.alloc (.cells #[.int .i64 (bq - aq), .int .i64 (br - ar)] 41)).cell? ⟨w2.heap.size, 1, none⟩ = some (.int .i64 (br - ar)) := ⟨by simp [go_sem], by simp [go_sem]⟩
    have K2 : Kp w (w2.alloc (.cells #[.int .i64 (bq - aq), .int .i64 (br - ar)] 41)) := (K1.trans k2).trans kb
    have hz2 : w.heap.size < w2.heap.size := Nat.lt_of_lt_of_le (cell_lt c1.1) k2.size
    have hz2b := Lib.hid (show (w2.alloc (.cells #[.int .i64 (bq - aq), .int .i64 (br - ar)] 41)).heap.size = w2.heap.size + 1 by simp)
    clear c1 c2 K1 k2 kb
    go_wp2_with fail
    generalize w2.heap.size = b9 at *
    generalize (w2.alloc (.cells #[.int .i64 (bq - aq), .int .i64 (br - ar)] 41)) = W3 at *
    have HM : Hid (OwnHH (W3.alloc (.cells (madeCells #[.slice none 0 0] (N + 1)) 32)) (b9 + 1) (.slice (some ⟨b9 + 1, 0, none⟩) 0 (N + 1)) [] []) := Lib.hid (by
      have := OwnHH.made W3 (b9 + 1) N (by have := hz2b.out; omega) (by omega)
      rw [hz2b.out] at this
      exact this)
    have km := (Kp.refl W3).alloc (.cells (madeCells #[.slice none 0 0] (N + 1)) 32)
    have sM : ((W3.alloc (.cells (madeCells #[.slice none 0 0] (N + 1)) 32)).cell? ⟨w.heap.size, 0, none⟩ = some (.int .i64 aq) ∧ (W3.alloc (.cells (madeCells #[.slice none 0 0] (N + 1)) 32)).cell? ⟨w.heap.size, 1, none⟩ = some (.int .i64 ar) ∧ (W3.alloc (.cells (madeCells #[.slice none 0 0] (N + 1)) 32)).cell? ⟨b9, 0, none⟩ = some (.int .i64 (bq - aq)) ∧ (W3.alloc (.cells (madeCells #[.slice none 0 0] (N + 1)) 32)).cell? ⟨b9, 1, none⟩ = some (.int .i64 (br - ar))) := ⟨km.cell c3.1, km.cell c3.2.1, km.cell d3.1, km.cell d3.2⟩
    have KM : Kp w (W3.alloc (.cells (madeCells #[.slice none 0 0] (N + 1)) 32)) := K2.trans km
    clear c3 d3 K2 km
    generalize (W3.alloc (.cells (madeCells #[.slice none 0 0] (N + 1)) 32)) = WM at *
    go_loopw [10, 11, 30] (fun v _ s30 wx => ∃ k : Nat, k ≤ N + 1 ∧ s30 = .int .i64 k ∧ (∃ vs, OwnHH wx (b9 + 1) v (lineF aq ar bq br (N : Int) k) vs) ∧ (wx.cell? ⟨w.heap.size, 0, none⟩ = some (.int .i64 aq) ∧ wx.cell? ⟨w.heap.size, 1, none⟩ = some (.int .i64 ar) ∧ wx.cell? ⟨b9, 0, none⟩ = some (.int .i64 (bq - aq)) ∧ wx.cell? ⟨b9, 1, none⟩ = some (.int .i64 (br - ar))) ∧ Kp w wx) (fun _ _ s30 _ => N + 1 - (intOf s30).toNat)
    case atStart => exact ⟨0, by omega, rfl, ⟨_, HM.out⟩, sM, KM⟩
    case round =>
      clear sM KM HM
      obtain ⟨k, hk, rfl, ⟨vs, hoR⟩, sr, kR⟩ := hrel
      by_cases hlt : k < N + 1
      · have hlt' : (k : Int) < (N : Int) + 1 := by omega
        have kb := HB.out k (by omega)
        have HO := Lib.hid hoR
        have blt : b9 < wr.heap.size := cell_lt sr.2.2.1
        have n1' := Lib.hid (fun e => (Nat.lt_irrefl _ (Nat.lt_of_lt_of_le (show w.heap.size < b9 + 1 by omega) (World.ownsRow.lt hoR.row w.heap.size e).1)))
        have n2' := Lib.hid (fun e => (Nat.lt_irrefl _ (Nat.lt_of_lt_of_le (show b9 < b9 + 1 by omega) (World.ownsRow.lt hoR.row b9 e).1)))
        have hln : Hid ((lineF aq ar bq br (N : Int) k).length = k) := Lib.hid (lineF_len _ _ _ _ _ _)
        clear hoR
        go_wp2_with fail
        refine (hexesNear_any _ _ _ _ (by omega) (by omega) (by omega) (by omega) (by omega) (by omega)).mono ?_
        rintro e3 w3 ⟨x0, rfl, o3, k3⟩
        obtain ⟨Ax, nx, cx, rfl⟩ := o3.sl
        have O3 := Lib.hid o3
        have s3 := k3.four sr
        have K3 : Kp w w3 := kR.trans k3
        have hz4 := k3.size
        have k3' := Lib.hid k3
        have oRow := Lib.hid (ownsRow_keep HO.out.row k3)
        clear o3 k3 sr kR
        go_wp2_with (at_builtin; refine wpList_append_own_at _ rfl (.tmp 33) (.tmp 54) 28 rfl (b9 + 1) 32 j0 (.slice none 0 0) 1 24 Try.underlying28 hj0 hz0 hs0 hb0 rfl (by decide) _ (lineF aq ar bq br (N : Int) k).length vs rfl (World.ownsRow.alloc oRow.out _) ⟨w3.heap.size, 0, none⟩ 1 1 [.slice Ax nx cx] rfl rfl (cell_one _ _ _) (by simp [Value.oneCell']) (by have := hln.out; simp only [maxLen]; omega) (by have := hln.out; omega) (by simp; omega) ?_; intro v' w4 hown2 hgrow2 hnil2 hat2; clear hnil2; have s4 := ((Kp.refl w3).alloc (.cells #[.slice Ax nx cx] 32)).four s3; have q0 := hgrow2.cell s4.1 (fun e => n1'.out e.symm); have q1 := hgrow2.cell s4.2.1 (fun e => n1'.out e.symm); have q2 := hgrow2.cell s4.2.2.1 (fun e => n2'.out e.symm); have q3 := hgrow2.cell s4.2.2.2 (fun e => n2'.out e.symm); have K4 : Kp w w4 := (K3.alloc (.cells #[.slice Ax nx cx] 32)).grown hgrow2 (fun k e => by have := (World.ownsRow.lt oRow.out k e).1; omega); have O4 := Lib.hid (HO.out.snoc k3'.out O3.out (by omega) hown2 hgrow2 hat2); clear hown2 hgrow2 hat2 s3 s4)
        go_roundw
        case rel => exact ⟨k + 1, by omega, by go_num, ⟨_, by rw [lineF, ← HQ.out k (by omega)]; exact O4.out⟩, ⟨q0, q1, q2, q3⟩, K4⟩
        case measure => simp [intOf]; omega
      · obtain rfl : k = N + 1 := by omega
        go_wp2_with fail
        go_ret2
        exact ⟨_, _, rfl, hoR.base (by omega), kR⟩

end Go.Proofs.Ytpfnljhnjembpaa
