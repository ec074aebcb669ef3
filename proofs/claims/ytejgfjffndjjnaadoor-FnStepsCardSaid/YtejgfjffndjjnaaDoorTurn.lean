/-
  The functions that shift, turn and mirror hexes return what plain functions on integers say, and change nothing that was there.
-/
import Derived.Test.YtejgfjffndjjnaaDoorDist
import Derived.LoopTactic
namespace Go.Proofs.YtejgfjffndjjnaaDoor
open Go.RowKit

theorem turned_any (q r : Int) (w : World) (h1 : -1000 ≤ q) (h2 : q ≤ 1000) (h3 : -1000 ≤ r) (h4 : r ≤ 1000) :
    Calls Tryd.prog 27 #[hx q r] w fun e w' => e = .returned (hx (-r) (q + r)) ∧ Kp w w' := by
  go_enter Tryd.func27, Tryd.ntmps27
  go_wp2
  exact bodyPost_ret (v := hx (-r) (q + r)) (by simp [results, Tryd.results27, go_sem]) rfl ⟨rfl, ((Kp.refl _).alloc _).alloc _⟩

theorem mirrored_any (q r : Int) (w : World) :
    Calls Tryd.prog 30 #[hx q r] w fun e w' => e = .returned (hx r q) ∧ Kp w w' := by
  go_enter Tryd.func30, Tryd.ntmps30
  go_wp2
  exact bodyPost_ret (v := hx r q) (by simp [results, Tryd.results30, go_sem]) rfl ⟨rfl, ((Kp.refl _).alloc _).alloc _⟩

theorem hb3_no {b : Bool} {q r : Int} (h : b = false) : hb3 b q r = .tuple #[hx 0 0, .bool false] := by subst h; rfl

theorem changedAbout_no (cq cr q r : Int) (f : FuncId) (n : Int) (w : World) (h : okH q r = false ∨ okH cq cr = false) :
    Calls Tryd.prog 26 #[hx cq cr, hx q r, .func (.func f) #[] #[], .int .i64 n] w fun e w' => e = .returned (.tuple #[hx 0 0, .bool false]) ∧ Kp w w' := by
  have hl : w.heap.size < w.heap.size + 1 + 1 + 1 ∧ w.heap.size + 1 < w.heap.size + 1 + 1 + 1 := by omega
  cases ha : okH q r
  · go_enter Tryd.func26, Tryd.ntmps26
    go_wp2_with fail
    refine (isHex_any _ _ _).mono ?_
    rintro e w1 ⟨rfl, hk⟩
    obtain ⟨hc, hf⟩ := hk.cells
    have z := hk.size
    simp at z
    go_wp2_with fail
    exact bodyPost_ret (v := .tuple #[hx 0 0, .bool false]) (by simp [results, Tryd.results26, go_sem, *]) rfl ⟨rfl, ((((((Kp.refl _).alloc _).alloc _).alloc _).trans hk).setCell (by simp <;> omega) _).setCell (by simp <;> omega) _⟩
  · have hb : okH cq cr = false := by simpa [ha] using h
    clear h
    go_enter Tryd.func26, Tryd.ntmps26
    go_wp2_with fail
    refine (isHex_any _ _ _).mono ?_
    rintro e wa ⟨rfl, ka⟩
    obtain ⟨ca, fa⟩ := ka.cells
    have za := ka.size
    simp at za
    have za0 : w.heap.size < wa.heap.size ∧ w.heap.size + 1 < wa.heap.size ∧ w.heap.size + 1 + 1 < wa.heap.size := by omega
    go_wp2_with fail
    refine (isHex_any _ _ _).mono ?_
    rintro e w1 ⟨rfl, hk⟩
    obtain ⟨hc, hf⟩ := hk.cells
    go_wp2_with fail
    exact bodyPost_ret (v := .tuple #[hx 0 0, .bool false]) (by simp [results, Tryd.results26, go_sem, *]) rfl ⟨rfl, (((((((Kp.refl _).alloc _).alloc _).alloc _).trans ka).trans hk).setCell (by simp <;> omega) _).setCell (by simp <;> omega) _⟩

theorem changedAbout_yes (cq cr q r : Int) (f : FuncId) (n : Nat) (s : Nat → Int × Int) (w : World) (ha : okH q r = true) (hb : okH cq cr = true) (hn : n ≤ 10) (hfn : f = 30 ∨ f = 27)
    (h0 : s 0 = (q - cq, r - cr)) (hs : ∀ i, i ≤ n → -500 ≤ (s i).1 ∧ (s i).1 ≤ 500 ∧ -500 ≤ (s i).2 ∧ (s i).2 ≤ 500)
    (hstep : ∀ i, i < n → ∀ w, Calls Tryd.prog f #[hx (s i).1 (s i).2] w fun e w' => e = .returned (hx (s (i + 1)).1 (s (i + 1)).2) ∧ Kp w w') :
    Calls Tryd.prog 26 #[hx cq cr, hx q r, .func (.func f) #[] #[], .int .i64 n] w fun e w' => e = .returned (hb3 (okH (cq + (s n).1) (cr + (s n).2)) (cq + (s n).1) (cr + (s n).2)) ∧ Kp w w' := by
  have A1 := okH_true ha
  have B1 := okH_true hb
  have H0 := Lib.hid h0
  have HS := Lib.hid hs
  have HT := Lib.hid hstep
  clear h0 hs hstep
  have hl : w.heap.size < w.heap.size + 1 + 1 + 1 ∧ w.heap.size + 1 < w.heap.size + 1 + 1 + 1 := by omega
  go_enter Tryd.func26, Tryd.ntmps26
  go_wp2_with fail
  refine (isHex_any _ _ _).mono ?_
  rintro e wa ⟨rfl, ka⟩
  obtain ⟨ca, fa⟩ := ka.cells
  have za := ka.size
  simp at za
  have za0 : w.heap.size < wa.heap.size ∧ w.heap.size + 1 < wa.heap.size ∧ w.heap.size + 1 + 1 < wa.heap.size := by omega
  go_wp2_with fail
  refine (isHex_any _ _ _).mono ?_
  rintro e wb ⟨rfl, kb⟩
  obtain ⟨cb, fb⟩ := kb.cells
  have zb := kb.size
  have zb0 : w.heap.size < wb.heap.size ∧ w.heap.size + 1 < wb.heap.size ∧ w.heap.size + 1 + 1 < wb.heap.size := by omega
  go_wp2_with fail
  refine (offsetTo_any _ _ _ _ _ (by omega) (by omega) (by omega) (by omega) (by omega) (by omega) (by omega) (by omega)).mono ?_
  rintro e w1 ⟨rfl, kc⟩
  obtain ⟨cc, fc⟩ := kc.cells
  have zc := kc.size
  have c40 : w1.cell? ⟨w.heap.size, 0, none⟩ = some (.int .i64 cq) := by simp [go_sem, *]
  have c41 : w1.cell? ⟨w.heap.size, 1, none⟩ = some (.int .i64 cr) := by simp [go_sem, *]
  have c80 : w1.cell? ⟨w.heap.size + 1 + 1, 0, none⟩ = some (.int .i64 0) := by simp [go_sem, *]
  have c81 : w1.cell? ⟨w.heap.size + 1 + 1, 1, none⟩ = some (.int .i64 0) := by simp [go_sem, *]
  have f80 : w1.frozen? ⟨w.heap.size + 1 + 1, 0, none⟩ = false := by simp [go_sem, *]
  have f81 : w1.frozen? ⟨w.heap.size + 1 + 1, 1, none⟩ = false := by simp [go_sem, *]
  have K1 : Kp w w1 := (((((Kp.refl _).alloc _).alloc _).alloc _).trans ka).trans (kb.trans kc)
  have z1 : w.heap.size < w1.heap.size ∧ w.heap.size + 1 + 1 < w1.heap.size := by omega
  clear ca fa ka za za0 cb fb kb zb zb0 cc fc kc zc wa wb hl
  go_wp2_with fail
  go_loopw [24] (fun i wr => ∃ k : Nat, k ≤ n ∧ i = .int .i64 k ∧ wr.cell? ⟨w1.heap.size, 0, none⟩ = some (.int .i64 (s k).1) ∧ wr.cell? ⟨w1.heap.size, 1, none⟩ = some (.int .i64 (s k).2) ∧ wr.frozen? ⟨w1.heap.size, 0, none⟩ = false ∧ wr.frozen? ⟨w1.heap.size, 1, none⟩ = false ∧ w1.heap.size < wr.heap.size ∧ Kp w1 wr) (fun i _ => n - (intOf i).toNat)
  case atStart => exact ⟨0, Nat.zero_le _, rfl, by rw [H0.out]; simp [go_sem], by rw [H0.out]; simp [go_sem], by simp [go_sem], by simp [go_sem], by simp, (Kp.refl _).alloc _⟩
  case round =>
    obtain ⟨k, hk, rfl, x0, x1, y0, y1, zr, kr⟩ := hrel
    have sb := HS.out k hk
    by_cases hlt : k < n
    · have hst := Lib.hid (HT.out k hlt)
      rcases hfn with rfl | rfl
      all_goals
        go_wp2_with fail
        refine (hst.out _).mono ?_
        rintro e w2 ⟨rfl, k2⟩
        obtain ⟨c2, f2⟩ := k2.cells
        have z2 := k2.size
        go_wp2_with fail
        go_roundw
        case rel => exact ⟨k + 1, by omega, by go_num, by simp [go_sem, *], by simp [go_sem, *], by simp [go_sem, *], by simp [go_sem, *], by simp <;> omega, ((kr.trans k2).setCell (by simp) _).setCell (by simp) _⟩
        case measure => simp [intOf]; omega
    · obtain rfl : k = n := by omega
      obtain ⟨c3, f3⟩ := kr.cells
      go_wp2_with fail
      refine (shifted_any _ _ _ _ _ (by omega) (by omega) (by omega) (by omega) (by omega) (by omega) (by omega) (by omega)).mono ?_
      rintro e w2 ⟨rfl, k2⟩
      obtain ⟨c2, f2⟩ := k2.cells
      have z2 := k2.size
      go_wp2_with fail
      refine (onlyValid_any _ _ _).mono ?_
      rintro e w4 ⟨rfl, k4⟩
      obtain ⟨c4, f4⟩ := k4.cells
      have z4 : w.heap.size + 1 + 1 < w2.heap.size ∧ w.heap.size + 1 + 1 < wr.heap.size := by omega
      go_wp2_with fail
      exact bodyPost_ret (v := hb3 (okH (cq + (s k).1) (cr + (s k).2)) (cq + (s k).1) (cr + (s k).2)) (by simp [results, Tryd.results26, go_sem, *]) rfl ⟨rfl, ((((K1.trans kr).trans k2).trans k4).setCell (by simp <;> omega) _).setCell (by simp <;> omega) _⟩

def mirS (a b : Int) : Nat → Int × Int
  | 0 => (a, b)
  | _ => (b, a)
def turnN (a b : Int) : Nat → Int × Int
  | 0 => (a, b)
  | n + 1 => (-(turnN a b n).2, (turnN a b n).1 + (turnN a b n).2)
theorem turnN_bd {a b : Int} (h1 : -80 ≤ a) (h2 : a ≤ 80) (h3 : -80 ≤ b) (h4 : b ≤ 80) : ∀ i, i ≤ 5 → -500 ≤ (turnN a b i).1 ∧ (turnN a b i).1 ≤ 500 ∧ -500 ≤ (turnN a b i).2 ∧ (turnN a b i).2 ≤ 500
  | 0, _ => by simp only [turnN]; omega
  | 1, _ => by simp only [turnN]; omega
  | 2, _ => by simp only [turnN]; omega
  | 3, _ => by simp only [turnN]; omega
  | 4, _ => by simp only [turnN]; omega
  | 5, _ => by simp only [turnN]; omega
  | _ + 6, h => by omega

def mirOk (q r cq cr : Int) : Bool := okH q r && okH cq cr && okH (cq + (r - cr)) (cr + (q - cq))
def turnOk (q r cq cr k : Int) : Bool := okH q r && okH cq cr && (decide (0 ≤ k) && decide (k ≤ 5)) && okH (cq + (turnN (q - cq) (r - cr) k.toNat).1) (cr + (turnN (q - cq) (r - cr) k.toNat).2)

theorem changedMirror (cq cr q r : Int) (w : World) :
    Calls Tryd.prog 26 #[hx cq cr, hx q r, .func (.func 30) #[] #[], .int .i64 1] w fun e w' => e = .returned (hb3 (mirOk q r cq cr) (cq + (r - cr)) (cr + (q - cq))) ∧ Kp w w' := by
  by_cases h : okH q r = true ∧ okH cq cr = true
  · have A1 := okH_true h.1
    have B1 := okH_true h.2
    have e : mirOk q r cq cr = okH (cq + (r - cr)) (cr + (q - cq)) := by simp [mirOk, h.1, h.2]
    rw [e]
    refine changedAbout_yes cq cr q r _ 1 (mirS (q - cq) (r - cr)) w h.1 h.2 (by omega) (.inl rfl) rfl (fun i _ => ?_) (fun i hi w => ?_)
    · match i with
      | 0 => simp only [mirS]; omega
      | _ + 1 => simp only [mirS]; omega
    · obtain rfl : i = 0 := by omega
      exact mirrored_any _ _ _
  · have h' : okH q r = false ∨ okH cq cr = false := by
      cases h1 : okH q r
      · exact .inl rfl
      · cases h2 : okH cq cr
        · exact .inr rfl
        · exact absurd ⟨h1, h2⟩ h
    have e : mirOk q r cq cr = false := by rcases h' with h' | h' <;> simp [mirOk, h']
    rw [e]
    exact changedAbout_no cq cr q r _ 1 w h'

theorem changedTurn (cq cr q r k : Int) (w : World) (hk0 : 0 ≤ k) (hk5 : k ≤ 5) :
    Calls Tryd.prog 26 #[hx cq cr, hx q r, .func (.func 27) #[] #[], .int .i64 k] w fun e w' => e = .returned (hb3 (turnOk q r cq cr k) (cq + (turnN (q - cq) (r - cr) k.toNat).1) (cr + (turnN (q - cq) (r - cr) k.toNat).2)) ∧ Kp w w' := by
  obtain ⟨n, rfl⟩ := Int.eq_ofNat_of_zero_le hk0
  by_cases h : okH q r = true ∧ okH cq cr = true
  · have A1 := okH_true h.1
    have B1 := okH_true h.2
    have e : turnOk q r cq cr n = okH (cq + (turnN (q - cq) (r - cr) n).1) (cr + (turnN (q - cq) (r - cr) n).2) := by simp [turnOk, h.1, h.2, hk5]
    rw [e, Int.toNat_natCast]
    have bd := turnN_bd (a := q - cq) (b := r - cr) (by omega) (by omega) (by omega) (by omega)
    refine changedAbout_yes cq cr q r _ n (turnN (q - cq) (r - cr)) w h.1 h.2 (by omega) (.inr rfl) rfl (fun i hi => bd i (by omega)) (fun i hi w => ?_)
    have b := bd i (by omega)
    exact turned_any _ _ _ (by omega) (by omega) (by omega) (by omega)
  · have h' : okH q r = false ∨ okH cq cr = false := by
      cases h1 : okH q r
      · exact .inl rfl
      · cases h2 : okH cq cr
        · exact .inr rfl
        · exact absurd ⟨h1, h2⟩ h
    have e : turnOk q r cq cr n = false := by rcases h' with h' | h' <;> simp [turnOk, h']
    rw [e]
    exact changedAbout_no cq cr q r _ _ w h'

theorem mirrorHex_any (q r cq cr : Int) (w : World) :
    Calls Tryd.prog 12 #[hx q r, hx cq cr] w fun e w' => e = .returned (hb3 (mirOk q r cq cr) (cq + (r - cr)) (cr + (q - cq))) ∧ Kp w w' := by
  go_enter Tryd.func12, Tryd.ntmps12
  go_wp2_with fail
  refine (changedMirror _ _ _ _ _).mono ?_
  rintro e w1 ⟨rfl, k1⟩
  obtain ⟨c1, f1⟩ := k1.cells
  have z1 := k1.size
  simp at z1
  go_wp2_with fail
  exact bodyPost_ret (v := hb3 (mirOk q r cq cr) (cq + (r - cr)) (cr + (q - cq))) (by simp [results, Tryd.results12, go_sem, *]) rfl ⟨rfl, ((((((Kp.refl _).alloc _).alloc _).alloc _).trans k1).setCell (by simp <;> omega) _).setCell (by simp <;> omega) _⟩

theorem turnHex_any (q r cq cr k : Int) (w : World) :
    Calls Tryd.prog 10 #[hx q r, hx cq cr, .int .i64 k] w fun e w' => e = .returned (hb3 (turnOk q r cq cr k) (cq + (turnN (q - cq) (r - cr) k.toNat).1) (cr + (turnN (q - cq) (r - cr) k.toNat).2)) ∧ Kp w w' := by
  by_cases h0 : k < 0
  · have e : turnOk q r cq cr k = false := by
      have hd : decide (0 ≤ k) = false := by simp; omega
      simp [turnOk, hd]
    rw [e]
    go_enter Tryd.func10, Tryd.ntmps10
    go_wp2_with fail
    exact bodyPost_ret (v := .tuple #[hx 0 0, .bool false]) (by simp [results, Tryd.results10, go_sem, *]) rfl ⟨rfl, ((((Kp.refl _).alloc _).alloc _).alloc _)⟩
  · by_cases h5 : 5 < k
    · have e : turnOk q r cq cr k = false := by
        have hd : decide (k ≤ 5) = false := by simp; omega
        simp [turnOk, hd]
      rw [e]
      go_enter Tryd.func10, Tryd.ntmps10
      go_wp2_with fail
      exact bodyPost_ret (v := .tuple #[hx 0 0, .bool false]) (by simp [results, Tryd.results10, go_sem, *]) rfl ⟨rfl, ((((Kp.refl _).alloc _).alloc _).alloc _)⟩
    · have g0 : 0 ≤ k := by omega
      have g5 : k ≤ 5 := by omega
      go_enter Tryd.func10, Tryd.ntmps10
      go_wp2_with fail
      refine (changedTurn _ _ _ _ _ _ g0 g5).mono ?_
      rintro e w1 ⟨rfl, k1⟩
      obtain ⟨c1, f1⟩ := k1.cells
      have z1 := k1.size
      simp at z1
      go_wp2_with fail
      exact bodyPost_ret (v := hb3 (turnOk q r cq cr k) (cq + (turnN (q - cq) (r - cr) k.toNat).1) (cr + (turnN (q - cq) (r - cr) k.toNat).2)) (by simp [results, Tryd.results10, go_sem, *]) rfl ⟨rfl, ((((((Kp.refl _).alloc _).alloc _).alloc _).trans k1).setCell (by simp <;> omega) _).setCell (by simp <;> omega) _⟩
end Go.Proofs.YtejgfjffndjjnaaDoor
