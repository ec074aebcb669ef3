/-
  Kinds that cannot step: plain data, the program's side and the reference's. Nothing that was there is changed. The named variables hold what the program's text lays.
-/
import Derived.Test.YtfohhofpfmbheaaDoorQd
namespace Go.Proofs.YtfohhofpfmbheaaDoor
open Go.RowKit


def nbO (W H : Int) (F : Nat → Bool) (i : Int) (d : Nat) : Bool := nbB W H i (d : Int) && F (nbI W i (d : Int)).toNat
/-- The open neighbours of a place in the first directions. -/
def nbL (W H : Int) (F : Nat → Bool) (i : Int) : Nat → List Int
  | 0 => []
  | d + 1 => if nbO W H F i d then nbL W H F i d ++ [nbI W i (d : Int)] else nbL W H F i d
theorem nbL_yes {W H : Int} {F : Nat → Bool} {i : Int} {d : Nat} (h : nbO W H F i d = true) : nbL W H F i (d + 1) = nbL W H F i d ++ [nbI W i (d : Int)] := by rw [nbL, h]; rfl
theorem nbL_no {W H : Int} {F : Nat → Bool} {i : Int} {d : Nat} (h : nbO W H F i d = false) : nbL W H F i (d + 1) = nbL W H F i d := by rw [nbL, h]; rfl
theorem nbL_len (W H : Int) (F : Nat → Bool) (i : Int) : ∀ d, (nbL W H F i d).length ≤ d
  | 0 => by simp [nbL]
  | d + 1 => by
    have := nbL_len W H F i d
    cases h : nbO W H F i d
    · rw [nbL_no h]; omega
    · rw [nbL_yes h, List.length_append]; simp; omega
/-- Is there an open neighbour among the first directions? -/
def nbA (W H : Int) (F : Nat → Bool) (i : Int) : Nat → Bool
  | 0 => false
  | d + 1 => nbA W H F i d || nbO W H F i d
theorem nbA_eq (W H : Int) (F : Nat → Bool) (i : Int) : ∀ d, nbA W H F i d = decide (0 < (nbL W H F i d).length)
  | 0 => rfl
  | d + 1 => by
    rw [nbA, nbA_eq W H F i d]
    cases h : nbO W H F i d
    · rw [nbL_no h]; simp
    · rw [nbL_yes h]; simp
def upd (a c : Int) : Int := if a = 0 ∨ c < a then c else a
theorem upd_upd (a c : Int) : upd (upd a c) c = upd a c := by
  unfold upd
  repeat' split
  all_goals omega
def updB (b : Bool) (a c : Int) : Int := if b then upd a c else a
/-- The least cost of the places from which a step goes, 0 if there are none. -/
def lst (G : Int → Bool) (c : Int → Int) : List Int → Int → Int
  | [], a => a
  | i :: l, a => lst G c l (updB (G i) a (c i))
def canB (G : Int → Bool) (c : Int → Int) (mov : Int) (l : List Int) : Bool := l.any fun i => decide (c i ≤ mov) && G i
theorem lst_iff (G : Int → Bool) (c : Int → Int) (mov : Int) : ∀ (l : List Int) (a : Int), (∀ i ∈ l, 0 < c i) → 0 ≤ a → ((lst G c l a = 0 ∨ mov < lst G c l a) ↔ ((a = 0 ∨ mov < a) ∧ ∀ i ∈ l, G i = true → mov < c i))
  | [], a, _, _ => by simp [lst]
  | i :: l, a, hc, ha => by
    have hci : 0 < c i := hc i (by simp)
    have hu : 0 ≤ updB (G i) a (c i) := by
      unfold updB upd
      split
      · split <;> omega
      · exact ha
    rw [lst, lst_iff G c mov l _ (fun j hj => hc j (by simp [hj])) hu]
    have key : ((updB (G i) a (c i) = 0 ∨ mov < updB (G i) a (c i)) ↔ ((a = 0 ∨ mov < a) ∧ (G i = true → mov < c i))) := by
      unfold updB upd
      cases hG : G i
      · simp
      · simp only [if_true, forall_const]
        split <;> omega
    rw [key]
    simp only [List.mem_cons, forall_eq_or_imp, and_assoc]
theorem stuck_eq {G : Int → Bool} {c : Int → Int} {mov : Int} {l : List Int} (h : ∀ i ∈ l, 0 < c i) : (decide (lst G c l 0 = 0) || decide (mov < lst G c l 0)) = !canB G c mov l := by
  have h1 := lst_iff G c mov l 0 h (Int.le_refl 0)
  rw [Bool.eq_iff_iff]
  simp only [Bool.or_eq_true, decide_eq_true_iff, Bool.not_eq_true', canB, List.any_eq_false, Bool.and_eq_true, not_and]
  rw [h1]
  constructor
  · rintro ⟨_, h2⟩ i hi h3 h4
    have := h2 i hi h4
    omega
  · intro h2
    refine ⟨.inl rfl, fun i hi hG => ?_⟩
    have := h2 i hi
    by_cases hm : c i ≤ mov
    · exact absurd hG (this hm)
    · omega

def movK (m : List Knd) (k : Nat) : Int := ((m[k]?).map (·.mov)).getD 0
def hasNb (l : List Ter) (lt : List Int) (W H : Int) (k : Nat) (i : Int) : Bool := nbA W H (opnB l lt k) i 6
def costI (l : List Ter) (lt : List Int) (k : Nat) (i : Int) : Int := costB l lt k i.toNat
def canK (l : List Ter) (m : List Knd) (lt : List Int) (W H : Int) (k : Nat) : Bool := canB (hasNb l lt W H k) (costI l lt k) (movK m k) (opnL l lt k lt.length)
def stkB (l : List Ter) (m : List Knd) (lt : List Int) (W H : Int) (k : Nat) : Bool := !canK l m lt W H k
def stkL (l : List Ter) (m : List Knd) (lt : List Int) (W H : Int) (nk : Nat) : List Int := filN (stkB l m lt W H) nk
theorem opn_pos {l : List Ter} {lt : List Int} {k n : Nat} : ∀ i ∈ opnL l lt k n, 0 < costI l lt k i := fun i hi => by
  obtain ⟨j, _, rfl, hf⟩ := (filN_mem _ _ _).1 hi
  unfold costI
  simpa [opnB] using hf
theorem opn_at {l : List Ter} {lt : List Int} {k n q : Nat} {i : Int} (h : (opnL l lt k n)[q]? = some i) : ∃ j : Nat, j < n ∧ i = j := by
  obtain ⟨j, hj, e, _⟩ := (filN_mem _ _ _).1 (List.mem_of_getElem? h)
  exact ⟨j, hj, e⟩
theorem lst_take {G : Int → Bool} {c : Int → Int} : ∀ {l : List Int} {a i : Int} {q : Nat}, l[q]? = some i → lst G c (l.take (q + 1)) a = updB (G i) (lst G c (l.take q) a) (c i)
  | x :: l, a, i, 0, h => by
    simp only [List.getElem?_cons_zero, Option.some.injEq] at h
    subst h
    rfl
  | x :: l, a, i, q + 1, h => by
    rw [List.take_succ_cons, List.take_succ_cons, lst, lst]
    exact lst_take (by simpa using h)
  | [], _, _, _, h => by simp at h




set_option maxRecDepth 100000 in
set_option maxHeartbeats 4000000 in
theorem openNeighbours_any (At Ak : Option Addr) (nt nk ct ck : Nat) (l : List Ter) (m : List Knd) (a b c d e W H : Int) (x r y : Value) (lt lr ld : List Int) (k i : Nat) (w : World) (ht : Tab w) (hB : BrdAt w At Ak nt nk l m x r y lt lr ld) (hok : brdOk ⟨l, m, a, b, c, d, e⟩ W H lt lr ld = true) (hk : k < m.length) :
    Calls Tryd.prog 71 #[bv (.slice At nt ct) (.slice Ak nk ck) a b c d e W H x r y, .int .i64 (k : Int), .int .i64 (i : Int)] w fun e' w' => ∃ v, e' = .returned v ∧ OwnI w' (w.heap.size + 1) v (nbL W H (opnB l lt k) (i : Int) 6) ∧ Kp w w' := by
  have KA : Kp w (w.alloc (.cells #[.slice At nt ct, .slice Ak nk ck, .int .i64 a, .int .i64 b, .int .i64 c, .int .i64 d, .int .i64 e, .int .i64 W, .int .i64 H, x, r, y] 40)) := (Kp.refl w).alloc _
  have s0 : (w.alloc (.cells #[.slice At nt ct, .slice Ak nk ck, .int .i64 a, .int .i64 b, .int .i64 c, .int .i64 d, .int .i64 e, .int .i64 W, .int .i64 H, x, r, y] 40)).cell? ⟨w.heap.size, 0, none⟩ = some (.slice At nt ct) ∧ (w.alloc (.cells #[.slice At nt ct, .slice Ak nk ck, .int .i64 a, .int .i64 b, .int .i64 c, .int .i64 d, .int .i64 e, .int .i64 W, .int .i64 H, x, r, y] 40)).cell? ⟨w.heap.size, 1, none⟩ = some (.slice Ak nk ck) ∧ (w.alloc (.cells #[.slice At nt ct, .slice Ak nk ck, .int .i64 a, .int .i64 b, .int .i64 c, .int .i64 d, .int .i64 e, .int .i64 W, .int .i64 H, x, r, y] 40)).cell? ⟨w.heap.size, 2, none⟩ = some (.int .i64 a) ∧ (w.alloc (.cells #[.slice At nt ct, .slice Ak nk ck, .int .i64 a, .int .i64 b, .int .i64 c, .int .i64 d, .int .i64 e, .int .i64 W, .int .i64 H, x, r, y] 40)).cell? ⟨w.heap.size, 3, none⟩ = some (.int .i64 b) ∧ (w.alloc (.cells #[.slice At nt ct, .slice Ak nk ck, .int .i64 a, .int .i64 b, .int .i64 c, .int .i64 d, .int .i64 e, .int .i64 W, .int .i64 H, x, r, y] 40)).cell? ⟨w.heap.size, 4, none⟩ = some (.int .i64 c) ∧ (w.alloc (.cells #[.slice At nt ct, .slice Ak nk ck, .int .i64 a, .int .i64 b, .int .i64 c, .int .i64 d, .int .i64 e, .int .i64 W, .int .i64 H, x, r, y] 40)).cell? ⟨w.heap.size, 5, none⟩ = some (.int .i64 d) ∧ (w.alloc (.cells #[.slice At nt ct, .slice Ak nk ck, .int .i64 a, .int .i64 b, .int .i64 c, .int .i64 d, .int .i64 e, .int .i64 W, .int .i64 H, x, r, y] 40)).cell? ⟨w.heap.size, 6, none⟩ = some (.int .i64 e) ∧ (w.alloc (.cells #[.slice At nt ct, .slice Ak nk ck, .int .i64 a, .int .i64 b, .int .i64 c, .int .i64 d, .int .i64 e, .int .i64 W, .int .i64 H, x, r, y] 40)).cell? ⟨w.heap.size, 7, none⟩ = some (.int .i64 W) ∧ (w.alloc (.cells #[.slice At nt ct, .slice Ak nk ck, .int .i64 a, .int .i64 b, .int .i64 c, .int .i64 d, .int .i64 e, .int .i64 W, .int .i64 H, x, r, y] 40)).cell? ⟨w.heap.size, 8, none⟩ = some (.int .i64 H) ∧ (w.alloc (.cells #[.slice At nt ct, .slice Ak nk ck, .int .i64 a, .int .i64 b, .int .i64 c, .int .i64 d, .int .i64 e, .int .i64 W, .int .i64 H, x, r, y] 40)).cell? ⟨w.heap.size, 9, none⟩ = some (x) ∧ (w.alloc (.cells #[.slice At nt ct, .slice Ak nk ck, .int .i64 a, .int .i64 b, .int .i64 c, .int .i64 d, .int .i64 e, .int .i64 W, .int .i64 H, x, r, y] 40)).cell? ⟨w.heap.size, 10, none⟩ = some (r) ∧ (w.alloc (.cells #[.slice At nt ct, .slice Ak nk ck, .int .i64 a, .int .i64 b, .int .i64 c, .int .i64 d, .int .i64 e, .int .i64 W, .int .i64 H, x, r, y] 40)).cell? ⟨w.heap.size, 11, none⟩ = some (y) ∧ Kp w (w.alloc (.cells #[.slice At nt ct, .slice Ak nk ck, .int .i64 a, .int .i64 b, .int .i64 c, .int .i64 d, .int .i64 e, .int .i64 W, .int .i64 H, x, r, y] 40)) := ⟨by simp [go_sem], by simp [go_sem], by simp [go_sem], by simp [go_sem], by simp [go_sem], by simp [go_sem], by simp [go_sem], by simp [go_sem], by simp [go_sem], by simp [go_sem], by simp [go_sem], by simp [go_sem], KA⟩
  have HB := Lib.hid hB
  have HT := Lib.hid ht
  obtain ⟨h1, h2, h3, h4⟩ := mapOk_side (brdOk_map hok)
  have hlen := mapOk_len (brdOk_map hok)
  have CN : Hid (∀ (u : Int) w, Tab w → Calls Tryd.prog 89 #[mp W H x r y, .int .i64 (i : Int), .int .i64 u] w fun e w' => e = .returned (ib (nbB W H (i : Int) u) (nbI W (i : Int) u)) ∧ Kp w w') := Lib.hid fun u w ht => neighbourIndex_any W H x r y (i : Int) u w h1 h2 h3 h4 ht
  have CO : Hid (∀ (u : Int) w, nbB W H (i : Int) u = true → BrdAt w At Ak nt nk l m x r y lt lr ld → Calls Tryd.prog 63 #[bv (.slice At nt ct) (.slice Ak nk ck) a b c d e W H x r y, .int .i64 (k : Int), .int .i64 (nbI W (i : Int) u)] w fun e' w' => e' = .returned (.bool (opnB l lt k (nbI W (i : Int) u).toNat)) ∧ Kp w w') := Lib.hid fun u w hn h => by
    obtain ⟨z, hz, hzl⟩ : ∃ z : Nat, nbI W (i : Int) u = z ∧ z < lt.length := by
      obtain ⟨_, _, hb1, hb2⟩ := nbB_true hn
      refine ⟨(nbI W (i : Int) u).toNat, by omega, by omega⟩
    rw [hz, Int.toNat_natCast]
    exact isOpen_any At Ak nt nk ct ck l m a b c d e W H x r y lt lr ld k z w h hok hk hzl
  have HNO : Hid (∀ u : Nat, nbO W H (opnB l lt k) (i : Int) u = (nbB W H (i : Int) (u : Int) && opnB l lt k (nbI W (i : Int) (u : Int)).toNat)) := Lib.hid fun _ => rfl
  have hki : k < 4 := by have := (rulOk_nt (brdOk_rul hok)).2.2; omega
  obtain ⟨j0, hj0, hz0, hs0, hb0⟩ := info_parts infoInt
  generalize hF : opnB l lt k = F at CO HNO ⊢
  clear hB ht hok hk hlen KA hF
  go_enter Tryd.func71, Tryd.ntmps71
  go_wp2_with fail
  go_loopw [7, 8, 9, 10, 11, 14] (fun v _ _ _ sq _ wx => ∃ q : Nat, q ≤ 6 ∧ sq = .int .i64 q ∧ OwnI wx (w.heap.size + 1) v (nbL W H F (i : Int) q) ∧ wx.cell? ⟨w.heap.size, 0, none⟩ = some (.slice At nt ct) ∧ wx.cell? ⟨w.heap.size, 1, none⟩ = some (.slice Ak nk ck) ∧ wx.cell? ⟨w.heap.size, 2, none⟩ = some (.int .i64 a) ∧ wx.cell? ⟨w.heap.size, 3, none⟩ = some (.int .i64 b) ∧ wx.cell? ⟨w.heap.size, 4, none⟩ = some (.int .i64 c) ∧ wx.cell? ⟨w.heap.size, 5, none⟩ = some (.int .i64 d) ∧ wx.cell? ⟨w.heap.size, 6, none⟩ = some (.int .i64 e) ∧ wx.cell? ⟨w.heap.size, 7, none⟩ = some (.int .i64 W) ∧ wx.cell? ⟨w.heap.size, 8, none⟩ = some (.int .i64 H) ∧ wx.cell? ⟨w.heap.size, 9, none⟩ = some (x) ∧ wx.cell? ⟨w.heap.size, 10, none⟩ = some (r) ∧ wx.cell? ⟨w.heap.size, 11, none⟩ = some (y) ∧ Kp w wx) (fun _ _ _ _ sq _ _ => 6 - (intOf sq).toNat)
  case atStart => exact ⟨0, by omega, rfl, OwnI.nil _ _, s0⟩
  case round =>
    clear s0
    obtain ⟨q, hqn, rfl, hoR, sr⟩ := hrel
    by_cases hlt : q < 6
    · have hlt' : (q : Int) < 6 := by omega
      have HO := Lib.hid hoR
      have kr : Kp w wr := sr.2.2.2.2.2.2.2.2.2.2.2.2
      clear hoR
      cases hnb : nbB W H (i : Int) (q : Int)
      · have HS : Hid (nbL W H F (i : Int) (q + 1) = nbL W H F (i : Int) q) := Lib.hid (nbL_no (by rw [HNO.out, hnb]; rfl))
        go_wp2_with fail
        refine (CN.out _ _ (HT.out.keep kr)).mono ?_
        rintro e1 w1 ⟨rfl, k1⟩
        rw [hnb]
        have HO1 := Lib.hid (HO.out.keep k1)
        have s1 : w1.cell? ⟨w.heap.size, 0, none⟩ = some (.slice At nt ct) ∧ w1.cell? ⟨w.heap.size, 1, none⟩ = some (.slice Ak nk ck) ∧ w1.cell? ⟨w.heap.size, 2, none⟩ = some (.int .i64 a) ∧ w1.cell? ⟨w.heap.size, 3, none⟩ = some (.int .i64 b) ∧ w1.cell? ⟨w.heap.size, 4, none⟩ = some (.int .i64 c) ∧ w1.cell? ⟨w.heap.size, 5, none⟩ = some (.int .i64 d) ∧ w1.cell? ⟨w.heap.size, 6, none⟩ = some (.int .i64 e) ∧ w1.cell? ⟨w.heap.size, 7, none⟩ = some (.int .i64 W) ∧ w1.cell? ⟨w.heap.size, 8, none⟩ = some (.int .i64 H) ∧ w1.cell? ⟨w.heap.size, 9, none⟩ = some (x) ∧ w1.cell? ⟨w.heap.size, 10, none⟩ = some (r) ∧ w1.cell? ⟨w.heap.size, 11, none⟩ = some (y) ∧ Kp w w1 := ⟨k1.cell sr.1, k1.cell sr.2.1, k1.cell sr.2.2.1, k1.cell sr.2.2.2.1, k1.cell sr.2.2.2.2.1, k1.cell sr.2.2.2.2.2.1, k1.cell sr.2.2.2.2.2.2.1, k1.cell sr.2.2.2.2.2.2.2.1, k1.cell sr.2.2.2.2.2.2.2.2.1, k1.cell sr.2.2.2.2.2.2.2.2.2.1, k1.cell sr.2.2.2.2.2.2.2.2.2.2.1, k1.cell sr.2.2.2.2.2.2.2.2.2.2.2.1, sr.2.2.2.2.2.2.2.2.2.2.2.2.trans k1⟩
        clear sr k1 HO kr
        go_wp2_with fail
        go_roundw
        case rel => exact ⟨q + 1, by omega, by go_num, by rw [HS.out]; exact HO1.out, s1⟩
        case measure => simp [intOf]; omega
      · cases hf : F (nbI W (i : Int) (q : Int)).toNat
        · have HS : Hid (nbL W H F (i : Int) (q + 1) = nbL W H F (i : Int) q) := Lib.hid (nbL_no (by rw [HNO.out, hnb, hf]; rfl))
          go_wp2_with fail
          refine (CN.out _ _ (HT.out.keep kr)).mono ?_
          rintro e1 w1 ⟨rfl, k1⟩
          rw [hnb]
          have HO1 := Lib.hid (HO.out.keep k1)
          have s1 : w1.cell? ⟨w.heap.size, 0, none⟩ = some (.slice At nt ct) ∧ w1.cell? ⟨w.heap.size, 1, none⟩ = some (.slice Ak nk ck) ∧ w1.cell? ⟨w.heap.size, 2, none⟩ = some (.int .i64 a) ∧ w1.cell? ⟨w.heap.size, 3, none⟩ = some (.int .i64 b) ∧ w1.cell? ⟨w.heap.size, 4, none⟩ = some (.int .i64 c) ∧ w1.cell? ⟨w.heap.size, 5, none⟩ = some (.int .i64 d) ∧ w1.cell? ⟨w.heap.size, 6, none⟩ = some (.int .i64 e) ∧ w1.cell? ⟨w.heap.size, 7, none⟩ = some (.int .i64 W) ∧ w1.cell? ⟨w.heap.size, 8, none⟩ = some (.int .i64 H) ∧ w1.cell? ⟨w.heap.size, 9, none⟩ = some (x) ∧ w1.cell? ⟨w.heap.size, 10, none⟩ = some (r) ∧ w1.cell? ⟨w.heap.size, 11, none⟩ = some (y) ∧ Kp w w1 := ⟨k1.cell sr.1, k1.cell sr.2.1, k1.cell sr.2.2.1, k1.cell sr.2.2.2.1, k1.cell sr.2.2.2.2.1, k1.cell sr.2.2.2.2.2.1, k1.cell sr.2.2.2.2.2.2.1, k1.cell sr.2.2.2.2.2.2.2.1, k1.cell sr.2.2.2.2.2.2.2.2.1, k1.cell sr.2.2.2.2.2.2.2.2.2.1, k1.cell sr.2.2.2.2.2.2.2.2.2.2.1, k1.cell sr.2.2.2.2.2.2.2.2.2.2.2.1, sr.2.2.2.2.2.2.2.2.2.2.2.2.trans k1⟩
          clear sr k1 HO kr
          go_wp2_with fail
          refine (CO.out _ _ hnb (HB.out.keep s1.2.2.2.2.2.2.2.2.2.2.2.2)).mono ?_
          rintro e2 w2 ⟨rfl, k2⟩
          rw [hf]
          have HO2 := Lib.hid (HO1.out.keep k2)
          have s2 : w2.cell? ⟨w.heap.size, 0, none⟩ = some (.slice At nt ct) ∧ w2.cell? ⟨w.heap.size, 1, none⟩ = some (.slice Ak nk ck) ∧ w2.cell? ⟨w.heap.size, 2, none⟩ = some (.int .i64 a) ∧ w2.cell? ⟨w.heap.size, 3, none⟩ = some (.int .i64 b) ∧ w2.cell? ⟨w.heap.size, 4, none⟩ = some (.int .i64 c) ∧ w2.cell? ⟨w.heap.size, 5, none⟩ = some (.int .i64 d) ∧ w2.cell? ⟨w.heap.size, 6, none⟩ = some (.int .i64 e) ∧ w2.cell? ⟨w.heap.size, 7, none⟩ = some (.int .i64 W) ∧ w2.cell? ⟨w.heap.size, 8, none⟩ = some (.int .i64 H) ∧ w2.cell? ⟨w.heap.size, 9, none⟩ = some (x) ∧ w2.cell? ⟨w.heap.size, 10, none⟩ = some (r) ∧ w2.cell? ⟨w.heap.size, 11, none⟩ = some (y) ∧ Kp w w2 := ⟨k2.cell s1.1, k2.cell s1.2.1, k2.cell s1.2.2.1, k2.cell s1.2.2.2.1, k2.cell s1.2.2.2.2.1, k2.cell s1.2.2.2.2.2.1, k2.cell s1.2.2.2.2.2.2.1, k2.cell s1.2.2.2.2.2.2.2.1, k2.cell s1.2.2.2.2.2.2.2.2.1, k2.cell s1.2.2.2.2.2.2.2.2.2.1, k2.cell s1.2.2.2.2.2.2.2.2.2.2.1, k2.cell s1.2.2.2.2.2.2.2.2.2.2.2.1, s1.2.2.2.2.2.2.2.2.2.2.2.2.trans k2⟩
          clear s1 k2 HO1
          go_wp2_with fail
          go_roundw
          case rel => exact ⟨q + 1, by omega, by go_num, by rw [HS.out]; exact HO2.out, s2⟩
          case measure => simp [intOf]; omega
        · have HS : Hid (nbL W H F (i : Int) (q + 1) = nbL W H F (i : Int) q ++ [nbI W (i : Int) (q : Int)]) := Lib.hid (nbL_yes (by rw [HNO.out, hnb, hf]; rfl))
          have hln := Lib.hid (nbL_len W H F (i : Int) q)
          go_wp2_with fail
          refine (CN.out _ _ (HT.out.keep kr)).mono ?_
          rintro e1 w0 ⟨rfl, k0⟩
          rw [hnb]
          have HO0 := Lib.hid (HO.out.keep k0)
          have s0 : w0.cell? ⟨w.heap.size, 0, none⟩ = some (.slice At nt ct) ∧ w0.cell? ⟨w.heap.size, 1, none⟩ = some (.slice Ak nk ck) ∧ w0.cell? ⟨w.heap.size, 2, none⟩ = some (.int .i64 a) ∧ w0.cell? ⟨w.heap.size, 3, none⟩ = some (.int .i64 b) ∧ w0.cell? ⟨w.heap.size, 4, none⟩ = some (.int .i64 c) ∧ w0.cell? ⟨w.heap.size, 5, none⟩ = some (.int .i64 d) ∧ w0.cell? ⟨w.heap.size, 6, none⟩ = some (.int .i64 e) ∧ w0.cell? ⟨w.heap.size, 7, none⟩ = some (.int .i64 W) ∧ w0.cell? ⟨w.heap.size, 8, none⟩ = some (.int .i64 H) ∧ w0.cell? ⟨w.heap.size, 9, none⟩ = some (x) ∧ w0.cell? ⟨w.heap.size, 10, none⟩ = some (r) ∧ w0.cell? ⟨w.heap.size, 11, none⟩ = some (y) ∧ Kp w w0 := ⟨k0.cell sr.1, k0.cell sr.2.1, k0.cell sr.2.2.1, k0.cell sr.2.2.2.1, k0.cell sr.2.2.2.2.1, k0.cell sr.2.2.2.2.2.1, k0.cell sr.2.2.2.2.2.2.1, k0.cell sr.2.2.2.2.2.2.2.1, k0.cell sr.2.2.2.2.2.2.2.2.1, k0.cell sr.2.2.2.2.2.2.2.2.2.1, k0.cell sr.2.2.2.2.2.2.2.2.2.2.1, k0.cell sr.2.2.2.2.2.2.2.2.2.2.2.1, sr.2.2.2.2.2.2.2.2.2.2.2.2.trans k0⟩
          clear sr k0 HO kr
          go_wp2_with fail
          refine (CO.out _ _ hnb (HB.out.keep s0.2.2.2.2.2.2.2.2.2.2.2.2)).mono ?_
          rintro e2 w1 ⟨rfl, k1⟩
          rw [hf]
          have HO1 := Lib.hid (HO0.out.keep k1)
          have s1 : w1.cell? ⟨w.heap.size, 0, none⟩ = some (.slice At nt ct) ∧ w1.cell? ⟨w.heap.size, 1, none⟩ = some (.slice Ak nk ck) ∧ w1.cell? ⟨w.heap.size, 2, none⟩ = some (.int .i64 a) ∧ w1.cell? ⟨w.heap.size, 3, none⟩ = some (.int .i64 b) ∧ w1.cell? ⟨w.heap.size, 4, none⟩ = some (.int .i64 c) ∧ w1.cell? ⟨w.heap.size, 5, none⟩ = some (.int .i64 d) ∧ w1.cell? ⟨w.heap.size, 6, none⟩ = some (.int .i64 e) ∧ w1.cell? ⟨w.heap.size, 7, none⟩ = some (.int .i64 W) ∧ w1.cell? ⟨w.heap.size, 8, none⟩ = some (.int .i64 H) ∧ w1.cell? ⟨w.heap.size, 9, none⟩ = some (x) ∧ w1.cell? ⟨w.heap.size, 10, none⟩ = some (r) ∧ w1.cell? ⟨w.heap.size, 11, none⟩ = some (y) ∧ Kp w w1 := ⟨k1.cell s0.1, k1.cell s0.2.1, k1.cell s0.2.2.1, k1.cell s0.2.2.2.1, k1.cell s0.2.2.2.2.1, k1.cell s0.2.2.2.2.2.1, k1.cell s0.2.2.2.2.2.2.1, k1.cell s0.2.2.2.2.2.2.2.1, k1.cell s0.2.2.2.2.2.2.2.2.1, k1.cell s0.2.2.2.2.2.2.2.2.2.1, k1.cell s0.2.2.2.2.2.2.2.2.2.2.1, k1.cell s0.2.2.2.2.2.2.2.2.2.2.2.1, s0.2.2.2.2.2.2.2.2.2.2.2.2.trans k1⟩
          have n1 := Lib.hid (HO1.out.not (g := w.heap.size) (by omega))
          have hbw : w.heap.size ≤ w1.heap.size := s1.2.2.2.2.2.2.2.2.2.2.2.2.size
          have hbz := cell_lt s1.1
          clear s0 k1 HO0
          go_wp2_with (at_builtin; refine wpList_append_own_at _ rfl (.tmp 29) (.tmp 31) 26 rfl (w.heap.size + 1) 3 j0 (.int .i64 0) 1 8 Tryd.underlying26 hj0 hz0 hs0 hb0 rfl (by decide) _ (nbL W H F (i : Int) q).length (cellsI (nbL W H F (i : Int) q)) rfl (World.ownsRow.alloc HO1.out _) ⟨w1.heap.size, 0, none⟩ 1 1 [.int .i64 (nbI W (i : Int) (q : Int))] rfl rfl (one_cell _ _ _) (by simp [Value.oneCell']) (by have := hln.out; simp only [maxLen]; omega) (by have := hln.out; omega) (by simp; omega) ?_; intro v' w3 hown2 hgrow2 hnil2 hat2; clear hnil2 hat2; have s5 : w3.cell? ⟨w.heap.size, 0, none⟩ = some (.slice At nt ct) ∧ w3.cell? ⟨w.heap.size, 1, none⟩ = some (.slice Ak nk ck) ∧ w3.cell? ⟨w.heap.size, 2, none⟩ = some (.int .i64 a) ∧ w3.cell? ⟨w.heap.size, 3, none⟩ = some (.int .i64 b) ∧ w3.cell? ⟨w.heap.size, 4, none⟩ = some (.int .i64 c) ∧ w3.cell? ⟨w.heap.size, 5, none⟩ = some (.int .i64 d) ∧ w3.cell? ⟨w.heap.size, 6, none⟩ = some (.int .i64 e) ∧ w3.cell? ⟨w.heap.size, 7, none⟩ = some (.int .i64 W) ∧ w3.cell? ⟨w.heap.size, 8, none⟩ = some (.int .i64 H) ∧ w3.cell? ⟨w.heap.size, 9, none⟩ = some (x) ∧ w3.cell? ⟨w.heap.size, 10, none⟩ = some (r) ∧ w3.cell? ⟨w.heap.size, 11, none⟩ = some (y) ∧ Kp w w3 := ⟨hgrow2.cell (((Kp.refl w1).alloc (.cells #[.int .i64 (nbI W (i : Int) (q : Int))] 3)).cell s1.1) (fun e => n1.out e.symm), hgrow2.cell (((Kp.refl w1).alloc (.cells #[.int .i64 (nbI W (i : Int) (q : Int))] 3)).cell s1.2.1) (fun e => n1.out e.symm), hgrow2.cell (((Kp.refl w1).alloc (.cells #[.int .i64 (nbI W (i : Int) (q : Int))] 3)).cell s1.2.2.1) (fun e => n1.out e.symm), hgrow2.cell (((Kp.refl w1).alloc (.cells #[.int .i64 (nbI W (i : Int) (q : Int))] 3)).cell s1.2.2.2.1) (fun e => n1.out e.symm), hgrow2.cell (((Kp.refl w1).alloc (.cells #[.int .i64 (nbI W (i : Int) (q : Int))] 3)).cell s1.2.2.2.2.1) (fun e => n1.out e.symm), hgrow2.cell (((Kp.refl w1).alloc (.cells #[.int .i64 (nbI W (i : Int) (q : Int))] 3)).cell s1.2.2.2.2.2.1) (fun e => n1.out e.symm), hgrow2.cell (((Kp.refl w1).alloc (.cells #[.int .i64 (nbI W (i : Int) (q : Int))] 3)).cell s1.2.2.2.2.2.2.1) (fun e => n1.out e.symm), hgrow2.cell (((Kp.refl w1).alloc (.cells #[.int .i64 (nbI W (i : Int) (q : Int))] 3)).cell s1.2.2.2.2.2.2.2.1) (fun e => n1.out e.symm), hgrow2.cell (((Kp.refl w1).alloc (.cells #[.int .i64 (nbI W (i : Int) (q : Int))] 3)).cell s1.2.2.2.2.2.2.2.2.1) (fun e => n1.out e.symm), hgrow2.cell (((Kp.refl w1).alloc (.cells #[.int .i64 (nbI W (i : Int) (q : Int))] 3)).cell s1.2.2.2.2.2.2.2.2.2.1) (fun e => n1.out e.symm), hgrow2.cell (((Kp.refl w1).alloc (.cells #[.int .i64 (nbI W (i : Int) (q : Int))] 3)).cell s1.2.2.2.2.2.2.2.2.2.2.1) (fun e => n1.out e.symm), hgrow2.cell (((Kp.refl w1).alloc (.cells #[.int .i64 (nbI W (i : Int) (q : Int))] 3)).cell s1.2.2.2.2.2.2.2.2.2.2.2.1) (fun e => n1.out e.symm), (s1.2.2.2.2.2.2.2.2.2.2.2.2.alloc _).grown hgrow2 (fun k e => by have := (World.ownsRow.lt HO1.out k e).1; omega)⟩; have O3 := Lib.hid (OwnI.snoc (x := nbI W (i : Int) (q : Int)) hown2); clear hown2 hgrow2)
          go_roundw
          case rel => exact ⟨q + 1, by omega, by go_num, by rw [HS.out]; exact O3.out, s5⟩
          case measure => simp [intOf]; omega
    · obtain rfl : q = 6 := by omega
      go_wp2_with fail
      go_ret
      exact ⟨_, rfl, hoR, sr.2.2.2.2.2.2.2.2.2.2.2.2⟩




set_option maxRecDepth 100000 in
set_option maxHeartbeats 4000000 in
theorem canStep_any (At Ak : Option Addr) (nt nk ct ck : Nat) (l : List Ter) (m : List Knd) (a b c d e W H : Int) (x r y : Value) (lt lr ld : List Int) (k : Nat) (w : World) (ht : Tab w) (hB : BrdAt w At Ak nt nk l m x r y lt lr ld) (hok : brdOk ⟨l, m, a, b, c, d, e⟩ W H lt lr ld = true) (hk : k < m.length) :
    Calls Tryd.prog 44 #[bv (.slice At nt ct) (.slice Ak nk ck) a b c d e W H x r y, .int .i64 (k : Int)] w fun e' w' => e' = .returned (.bool (canK l m lt W H k)) ∧ Kp w w' := by
  have hmk := hB.R.rk.1
  obtain ⟨gk, ok, rfl, hck⟩ := hB.R.rk.2 (by omega)
  obtain ⟨kd, hkd⟩ : ∃ kd, m[k]? = some kd := ⟨m[k]'hk, List.getElem?_eq_getElem _⟩
  obtain ⟨_, _, q2, _, _, _⟩ := hck k kd hkd
  obtain ⟨mov, hmov⟩ : ∃ z, z = kd.mov := ⟨_, rfl⟩
  rw [← hmov] at q2
  have e0 : movK m k = mov := by
    unfold movK
    rw [hkd]
    exact hmov.symm
  have hbk := hB.R.bk
  have KA : Kp w (w.alloc (.cells #[.slice At nt ct, .slice (some ⟨gk, ok, none⟩) nk ck, .int .i64 a, .int .i64 b, .int .i64 c, .int .i64 d, .int .i64 e, .int .i64 W, .int .i64 H, x, r, y] 40)) := (Kp.refl w).alloc _
  have s0 : (w.alloc (.cells #[.slice At nt ct, .slice (some ⟨gk, ok, none⟩) nk ck, .int .i64 a, .int .i64 b, .int .i64 c, .int .i64 d, .int .i64 e, .int .i64 W, .int .i64 H, x, r, y] 40)).cell? ⟨w.heap.size, 0, none⟩ = some (.slice At nt ct) ∧ (w.alloc (.cells #[.slice At nt ct, .slice (some ⟨gk, ok, none⟩) nk ck, .int .i64 a, .int .i64 b, .int .i64 c, .int .i64 d, .int .i64 e, .int .i64 W, .int .i64 H, x, r, y] 40)).cell? ⟨w.heap.size, 1, none⟩ = some (.slice (some ⟨gk, ok, none⟩) nk ck) ∧ (w.alloc (.cells #[.slice At nt ct, .slice (some ⟨gk, ok, none⟩) nk ck, .int .i64 a, .int .i64 b, .int .i64 c, .int .i64 d, .int .i64 e, .int .i64 W, .int .i64 H, x, r, y] 40)).cell? ⟨w.heap.size, 2, none⟩ = some (.int .i64 a) ∧ (w.alloc (.cells #[.slice At nt ct, .slice (some ⟨gk, ok, none⟩) nk ck, .int .i64 a, .int .i64 b, .int .i64 c, .int .i64 d, .int .i64 e, .int .i64 W, .int .i64 H, x, r, y] 40)).cell? ⟨w.heap.size, 3, none⟩ = some (.int .i64 b) ∧ (w.alloc (.cells #[.slice At nt ct, .slice (some ⟨gk, ok, none⟩) nk ck, .int .i64 a, .int .i64 b, .int .i64 c, .int .i64 d, .int .i64 e, .int .i64 W, .int .i64 H, x, r, y] 40)).cell? ⟨w.heap.size, 4, none⟩ = some (.int .i64 c) ∧ (w.alloc (.cells #[.slice At nt ct, .slice (some ⟨gk, ok, none⟩) nk ck, .int .i64 a, .int .i64 b, .int .i64 c, .int .i64 d, .int .i64 e, .int .i64 W, .int .i64 H, x, r, y] 40)).cell? ⟨w.heap.size, 5, none⟩ = some (.int .i64 d) ∧ (w.alloc (.cells #[.slice At nt ct, .slice (some ⟨gk, ok, none⟩) nk ck, .int .i64 a, .int .i64 b, .int .i64 c, .int .i64 d, .int .i64 e, .int .i64 W, .int .i64 H, x, r, y] 40)).cell? ⟨w.heap.size, 6, none⟩ = some (.int .i64 e) ∧ (w.alloc (.cells #[.slice At nt ct, .slice (some ⟨gk, ok, none⟩) nk ck, .int .i64 a, .int .i64 b, .int .i64 c, .int .i64 d, .int .i64 e, .int .i64 W, .int .i64 H, x, r, y] 40)).cell? ⟨w.heap.size, 7, none⟩ = some (.int .i64 W) ∧ (w.alloc (.cells #[.slice At nt ct, .slice (some ⟨gk, ok, none⟩) nk ck, .int .i64 a, .int .i64 b, .int .i64 c, .int .i64 d, .int .i64 e, .int .i64 W, .int .i64 H, x, r, y] 40)).cell? ⟨w.heap.size, 8, none⟩ = some (.int .i64 H) ∧ (w.alloc (.cells #[.slice At nt ct, .slice (some ⟨gk, ok, none⟩) nk ck, .int .i64 a, .int .i64 b, .int .i64 c, .int .i64 d, .int .i64 e, .int .i64 W, .int .i64 H, x, r, y] 40)).cell? ⟨w.heap.size, 9, none⟩ = some (x) ∧ (w.alloc (.cells #[.slice At nt ct, .slice (some ⟨gk, ok, none⟩) nk ck, .int .i64 a, .int .i64 b, .int .i64 c, .int .i64 d, .int .i64 e, .int .i64 W, .int .i64 H, x, r, y] 40)).cell? ⟨w.heap.size, 10, none⟩ = some (r) ∧ (w.alloc (.cells #[.slice At nt ct, .slice (some ⟨gk, ok, none⟩) nk ck, .int .i64 a, .int .i64 b, .int .i64 c, .int .i64 d, .int .i64 e, .int .i64 W, .int .i64 H, x, r, y] 40)).cell? ⟨w.heap.size, 11, none⟩ = some (y) ∧ (w.alloc (.cells #[.slice At nt ct, .slice (some ⟨gk, ok, none⟩) nk ck, .int .i64 a, .int .i64 b, .int .i64 c, .int .i64 d, .int .i64 e, .int .i64 W, .int .i64 H, x, r, y] 40)).cell? ⟨gk, ok + k * 6 + 2, none⟩ = some (.int .i64 mov) ∧ Kp w (w.alloc (.cells #[.slice At nt ct, .slice (some ⟨gk, ok, none⟩) nk ck, .int .i64 a, .int .i64 b, .int .i64 c, .int .i64 d, .int .i64 e, .int .i64 W, .int .i64 H, x, r, y] 40)) := ⟨by simp [go_sem], by simp [go_sem], by simp [go_sem], by simp [go_sem], by simp [go_sem], by simp [go_sem], by simp [go_sem], by simp [go_sem], by simp [go_sem], by simp [go_sem], by simp [go_sem], by simp [go_sem], KA.cell q2, KA⟩
  have HB := Lib.hid hB
  have HT := Lib.hid ht
  have hlen := mapOk_len (brdOk_map hok)
  have HC : Hid (canK l m lt W H k = canB (hasNb l lt W H k) (costI l lt k) mov (opnL l lt k lt.length)) := Lib.hid (by unfold canK; rw [e0])
  have CO := Lib.hid (fun w h => openHexes_any At (some ⟨gk, ok, none⟩) nt nk ct ck l m a b c d e W H x r y lt lr ld k w h hok hk)
  have CE := Lib.hid (fun (j : Nat) w (hj : j < lt.length) h => enterCost_any At (some ⟨gk, ok, none⟩) nt nk ct ck l m a b c d e W H x r y lt lr ld k j w h hok hk hj)
  have CN := Lib.hid (fun (j : Nat) w ht h => openNeighbours_any At (some ⟨gk, ok, none⟩) nt nk ct ck l m a b c d e W H x r y lt lr ld k j w ht h hok hk)
  have HG : Hid (∀ j : Nat, hasNb l lt W H k (j : Int) = decide (0 < (nbL W H (opnB l lt k) (j : Int) 6).length)) := Lib.hid fun j => nbA_eq _ _ _ _ _
  have HCI : Hid (∀ j : Nat, costI l lt k (j : Int) = costB l lt k j) := Lib.hid fun j => by simp [costI]
  have HAT := Lib.hid (fun (q : Nat) (i : Int) (h : (opnL l lt k lt.length)[q]? = some i) => opn_at h)
  have hnk : k < nk := by omega
  have hln : (opnL l lt k lt.length).length ≤ lt.length := filN_len _ _
  obtain ⟨h1, h2, h3, h4⟩ := mapOk_side (brdOk_map hok)
  have hA := area_bd h1 h2 h3 h4
  obtain ⟨L, hL⟩ : ∃ L, L = opnL l lt k lt.length := ⟨_, rfl⟩
  rw [← hL] at HC CO HAT hln
  obtain ⟨n, hn⟩ : ∃ n, n = L.length := ⟨_, rfl⟩
  have HN := Lib.hid hn
  have hn1 : n ≤ 100 := by omega
  rw [HC.out]
  clear hB ht hok hk hck hkd hmov e0 hlen hL hln hA hn hmk q2 KA h1 h2 h3 h4 HC
  go_enter Tryd.func44, Tryd.ntmps44
  go_wp2_with fail
  refine (CO.out _ (HB.out.keep s0.2.2.2.2.2.2.2.2.2.2.2.2.2)).mono ?_
  rintro e0 w0 ⟨v, rfl, o0, k0⟩
  have R0 := o0.rd
  replace s0 : w0.cell? ⟨w.heap.size, 0, none⟩ = some (.slice At nt ct) ∧ w0.cell? ⟨w.heap.size, 1, none⟩ = some (.slice (some ⟨gk, ok, none⟩) nk ck) ∧ w0.cell? ⟨w.heap.size, 2, none⟩ = some (.int .i64 a) ∧ w0.cell? ⟨w.heap.size, 3, none⟩ = some (.int .i64 b) ∧ w0.cell? ⟨w.heap.size, 4, none⟩ = some (.int .i64 c) ∧ w0.cell? ⟨w.heap.size, 5, none⟩ = some (.int .i64 d) ∧ w0.cell? ⟨w.heap.size, 6, none⟩ = some (.int .i64 e) ∧ w0.cell? ⟨w.heap.size, 7, none⟩ = some (.int .i64 W) ∧ w0.cell? ⟨w.heap.size, 8, none⟩ = some (.int .i64 H) ∧ w0.cell? ⟨w.heap.size, 9, none⟩ = some (x) ∧ w0.cell? ⟨w.heap.size, 10, none⟩ = some (r) ∧ w0.cell? ⟨w.heap.size, 11, none⟩ = some (y) ∧ w0.cell? ⟨gk, ok + k * 6 + 2, none⟩ = some (.int .i64 mov) ∧ Kp w w0 := ⟨k0.cell s0.1, k0.cell s0.2.1, k0.cell s0.2.2.1, k0.cell s0.2.2.2.1, k0.cell s0.2.2.2.2.1, k0.cell s0.2.2.2.2.2.1, k0.cell s0.2.2.2.2.2.2.1, k0.cell s0.2.2.2.2.2.2.2.1, k0.cell s0.2.2.2.2.2.2.2.2.1, k0.cell s0.2.2.2.2.2.2.2.2.2.1, k0.cell s0.2.2.2.2.2.2.2.2.2.2.1, k0.cell s0.2.2.2.2.2.2.2.2.2.2.2.1, k0.cell s0.2.2.2.2.2.2.2.2.2.2.2.2.1, s0.2.2.2.2.2.2.2.2.2.2.2.2.2.trans k0⟩
  clear o0 k0 CO
  obtain ⟨Av, cv, rfl, hcv⟩ := R0
  rw [← HN.out] at hcv ⊢
  have HV := Lib.hid hcv
  clear hcv
  go_wp2_with fail
  go_loopw [6, 11] (fun _ sq wx => ∃ q : Nat, q ≤ n ∧ sq = .int .i64 q ∧ Hid (∀ j i, j < q → L[j]? = some i → (decide (costI l lt k i ≤ mov) && hasNb l lt W H k i) = false) ∧ wx.cell? ⟨w.heap.size, 0, none⟩ = some (.slice At nt ct) ∧ wx.cell? ⟨w.heap.size, 1, none⟩ = some (.slice (some ⟨gk, ok, none⟩) nk ck) ∧ wx.cell? ⟨w.heap.size, 2, none⟩ = some (.int .i64 a) ∧ wx.cell? ⟨w.heap.size, 3, none⟩ = some (.int .i64 b) ∧ wx.cell? ⟨w.heap.size, 4, none⟩ = some (.int .i64 c) ∧ wx.cell? ⟨w.heap.size, 5, none⟩ = some (.int .i64 d) ∧ wx.cell? ⟨w.heap.size, 6, none⟩ = some (.int .i64 e) ∧ wx.cell? ⟨w.heap.size, 7, none⟩ = some (.int .i64 W) ∧ wx.cell? ⟨w.heap.size, 8, none⟩ = some (.int .i64 H) ∧ wx.cell? ⟨w.heap.size, 9, none⟩ = some (x) ∧ wx.cell? ⟨w.heap.size, 10, none⟩ = some (r) ∧ wx.cell? ⟨w.heap.size, 11, none⟩ = some (y) ∧ wx.cell? ⟨gk, ok + k * 6 + 2, none⟩ = some (.int .i64 mov) ∧ Kp w wx ∧ Kp w0 wx) (fun _ sq _ => n - (intOf sq).toNat)
  case atStart => exact ⟨0, by omega, rfl, Lib.hid fun j i hj => absurd hj (by omega), s0.1, s0.2.1, s0.2.2.1, s0.2.2.2.1, s0.2.2.2.2.1, s0.2.2.2.2.2.1, s0.2.2.2.2.2.2.1, s0.2.2.2.2.2.2.2.1, s0.2.2.2.2.2.2.2.2.1, s0.2.2.2.2.2.2.2.2.2.1, s0.2.2.2.2.2.2.2.2.2.2.1, s0.2.2.2.2.2.2.2.2.2.2.2.1, s0.2.2.2.2.2.2.2.2.2.2.2.2.1, s0.2.2.2.2.2.2.2.2.2.2.2.2.2, Kp.refl _⟩
  case round =>
    clear s0
    obtain ⟨q, hqn, rfl, HE, sr0⟩ := hrel
    have k0r : Kp w0 wr := sr0.2.2.2.2.2.2.2.2.2.2.2.2.2.2
    have sr : wr.cell? ⟨w.heap.size, 0, none⟩ = some (.slice At nt ct) ∧ wr.cell? ⟨w.heap.size, 1, none⟩ = some (.slice (some ⟨gk, ok, none⟩) nk ck) ∧ wr.cell? ⟨w.heap.size, 2, none⟩ = some (.int .i64 a) ∧ wr.cell? ⟨w.heap.size, 3, none⟩ = some (.int .i64 b) ∧ wr.cell? ⟨w.heap.size, 4, none⟩ = some (.int .i64 c) ∧ wr.cell? ⟨w.heap.size, 5, none⟩ = some (.int .i64 d) ∧ wr.cell? ⟨w.heap.size, 6, none⟩ = some (.int .i64 e) ∧ wr.cell? ⟨w.heap.size, 7, none⟩ = some (.int .i64 W) ∧ wr.cell? ⟨w.heap.size, 8, none⟩ = some (.int .i64 H) ∧ wr.cell? ⟨w.heap.size, 9, none⟩ = some (x) ∧ wr.cell? ⟨w.heap.size, 10, none⟩ = some (r) ∧ wr.cell? ⟨w.heap.size, 11, none⟩ = some (y) ∧ wr.cell? ⟨gk, ok + k * 6 + 2, none⟩ = some (.int .i64 mov) ∧ Kp w wr := ⟨sr0.1, sr0.2.1, sr0.2.2.1, sr0.2.2.2.1, sr0.2.2.2.2.1, sr0.2.2.2.2.2.1, sr0.2.2.2.2.2.2.1, sr0.2.2.2.2.2.2.2.1, sr0.2.2.2.2.2.2.2.2.1, sr0.2.2.2.2.2.2.2.2.2.1, sr0.2.2.2.2.2.2.2.2.2.2.1, sr0.2.2.2.2.2.2.2.2.2.2.2.1, sr0.2.2.2.2.2.2.2.2.2.2.2.2.1, sr0.2.2.2.2.2.2.2.2.2.2.2.2.2.1⟩
    clear sr0
    by_cases hlt : q < n
    · have hlt' : (q : Int) < n := by omega
      obtain ⟨g, off, rfl, hc⟩ := HV.out (by omega)
      obtain ⟨i, hi⟩ : ∃ i, L[q]? = some i := ⟨L[q]'(by have := HN.out; omega), List.getElem?_eq_getElem _⟩
      have a0 := k0r.cell (hc q i hi)
      obtain ⟨j, hjn, rfl⟩ := HAT.out q i hi
      have HI := Lib.hid hi
      have s1 : wr.drew.cell? ⟨w.heap.size, 0, none⟩ = some (.slice At nt ct) ∧ wr.drew.cell? ⟨w.heap.size, 1, none⟩ = some (.slice (some ⟨gk, ok, none⟩) nk ck) ∧ wr.drew.cell? ⟨w.heap.size, 2, none⟩ = some (.int .i64 a) ∧ wr.drew.cell? ⟨w.heap.size, 3, none⟩ = some (.int .i64 b) ∧ wr.drew.cell? ⟨w.heap.size, 4, none⟩ = some (.int .i64 c) ∧ wr.drew.cell? ⟨w.heap.size, 5, none⟩ = some (.int .i64 d) ∧ wr.drew.cell? ⟨w.heap.size, 6, none⟩ = some (.int .i64 e) ∧ wr.drew.cell? ⟨w.heap.size, 7, none⟩ = some (.int .i64 W) ∧ wr.drew.cell? ⟨w.heap.size, 8, none⟩ = some (.int .i64 H) ∧ wr.drew.cell? ⟨w.heap.size, 9, none⟩ = some (x) ∧ wr.drew.cell? ⟨w.heap.size, 10, none⟩ = some (r) ∧ wr.drew.cell? ⟨w.heap.size, 11, none⟩ = some (y) ∧ wr.drew.cell? ⟨gk, ok + k * 6 + 2, none⟩ = some (.int .i64 mov) ∧ Kp w wr.drew := ⟨sr.1, sr.2.1, sr.2.2.1, sr.2.2.2.1, sr.2.2.2.2.1, sr.2.2.2.2.2.1, sr.2.2.2.2.2.2.1, sr.2.2.2.2.2.2.2.1, sr.2.2.2.2.2.2.2.2.1, sr.2.2.2.2.2.2.2.2.2.1, sr.2.2.2.2.2.2.2.2.2.2.1, sr.2.2.2.2.2.2.2.2.2.2.2.1, sr.2.2.2.2.2.2.2.2.2.2.2.2.1, sr.2.2.2.2.2.2.2.2.2.2.2.2.2.drew⟩
      clear hc hi
      by_cases hcm : costB l lt k j ≤ mov
      · cases hnb : hasNb l lt W H k (j : Int)
        · have HE2 : Hid (∀ j' i, j' < q + 1 → L[j']? = some i → (decide (costI l lt k i ≤ mov) && hasNb l lt W H k i) = false) := Lib.hid fun j' i' hj hi' => by
            rcases Nat.lt_or_ge j' q with h1 | h1
            · exact HE.out j' i' h1 hi'
            · obtain rfl : j' = q := by omega
              rw [HI.out] at hi'
              obtain rfl := Option.some.inj hi'
              rw [hnb, Bool.and_false]
          have hlen0 := HG.out j
          rw [hnb] at hlen0
          have hl0 : ¬ 0 < (nbL W H (opnB l lt k) (j : Int) 6).length := by simpa using hlen0.symm
          have CN2 := Lib.hid (fun w ht h => CN.out j w ht h)
          generalize nbL W H (opnB l lt k) (j : Int) 6 = NL at CN2 hl0
          clear hlen0
          go_wp2_with fail
          go_region_held3 (fun w' => w'.cell? ⟨w.heap.size, 0, none⟩ = some (.slice At nt ct) ∧ w'.cell? ⟨w.heap.size, 1, none⟩ = some (.slice (some ⟨gk, ok, none⟩) nk ck) ∧ w'.cell? ⟨w.heap.size, 2, none⟩ = some (.int .i64 a) ∧ w'.cell? ⟨w.heap.size, 3, none⟩ = some (.int .i64 b) ∧ w'.cell? ⟨w.heap.size, 4, none⟩ = some (.int .i64 c) ∧ w'.cell? ⟨w.heap.size, 5, none⟩ = some (.int .i64 d) ∧ w'.cell? ⟨w.heap.size, 6, none⟩ = some (.int .i64 e) ∧ w'.cell? ⟨w.heap.size, 7, none⟩ = some (.int .i64 W) ∧ w'.cell? ⟨w.heap.size, 8, none⟩ = some (.int .i64 H) ∧ w'.cell? ⟨w.heap.size, 9, none⟩ = some (x) ∧ w'.cell? ⟨w.heap.size, 10, none⟩ = some (r) ∧ w'.cell? ⟨w.heap.size, 11, none⟩ = some (y) ∧ w'.cell? ⟨gk, ok + k * 6 + 2, none⟩ = some (.int .i64 mov) ∧ Kp w w') (first | assumption | exact s1)
            (first
              | (go_at_call 36; refine (CE.out j _ hjn (HB.out.keep s1.2.2.2.2.2.2.2.2.2.2.2.2.2)).mono ?_; rintro e1 w1 ⟨rfl, k1⟩; have s2 : w1.cell? ⟨w.heap.size, 0, none⟩ = some (.slice At nt ct) ∧ w1.cell? ⟨w.heap.size, 1, none⟩ = some (.slice (some ⟨gk, ok, none⟩) nk ck) ∧ w1.cell? ⟨w.heap.size, 2, none⟩ = some (.int .i64 a) ∧ w1.cell? ⟨w.heap.size, 3, none⟩ = some (.int .i64 b) ∧ w1.cell? ⟨w.heap.size, 4, none⟩ = some (.int .i64 c) ∧ w1.cell? ⟨w.heap.size, 5, none⟩ = some (.int .i64 d) ∧ w1.cell? ⟨w.heap.size, 6, none⟩ = some (.int .i64 e) ∧ w1.cell? ⟨w.heap.size, 7, none⟩ = some (.int .i64 W) ∧ w1.cell? ⟨w.heap.size, 8, none⟩ = some (.int .i64 H) ∧ w1.cell? ⟨w.heap.size, 9, none⟩ = some (x) ∧ w1.cell? ⟨w.heap.size, 10, none⟩ = some (r) ∧ w1.cell? ⟨w.heap.size, 11, none⟩ = some (y) ∧ w1.cell? ⟨gk, ok + k * 6 + 2, none⟩ = some (.int .i64 mov) ∧ Kp w w1 := ⟨k1.cell s1.1, k1.cell s1.2.1, k1.cell s1.2.2.1, k1.cell s1.2.2.2.1, k1.cell s1.2.2.2.2.1, k1.cell s1.2.2.2.2.2.1, k1.cell s1.2.2.2.2.2.2.1, k1.cell s1.2.2.2.2.2.2.2.1, k1.cell s1.2.2.2.2.2.2.2.2.1, k1.cell s1.2.2.2.2.2.2.2.2.2.1, k1.cell s1.2.2.2.2.2.2.2.2.2.2.1, k1.cell s1.2.2.2.2.2.2.2.2.2.2.2.1, k1.cell s1.2.2.2.2.2.2.2.2.2.2.2.2.1, s1.2.2.2.2.2.2.2.2.2.2.2.2.2.trans k1⟩)
              | (go_at_call 71; refine (CN2.out _ (HT.out.keep s2.2.2.2.2.2.2.2.2.2.2.2.2.2) (HB.out.keep s2.2.2.2.2.2.2.2.2.2.2.2.2.2)).mono ?_; rintro e2 w2 ⟨v2, rfl, o2, k2⟩; obtain ⟨A2, c2, rfl⟩ := o2.slice; have s3 : w2.cell? ⟨w.heap.size, 0, none⟩ = some (.slice At nt ct) ∧ w2.cell? ⟨w.heap.size, 1, none⟩ = some (.slice (some ⟨gk, ok, none⟩) nk ck) ∧ w2.cell? ⟨w.heap.size, 2, none⟩ = some (.int .i64 a) ∧ w2.cell? ⟨w.heap.size, 3, none⟩ = some (.int .i64 b) ∧ w2.cell? ⟨w.heap.size, 4, none⟩ = some (.int .i64 c) ∧ w2.cell? ⟨w.heap.size, 5, none⟩ = some (.int .i64 d) ∧ w2.cell? ⟨w.heap.size, 6, none⟩ = some (.int .i64 e) ∧ w2.cell? ⟨w.heap.size, 7, none⟩ = some (.int .i64 W) ∧ w2.cell? ⟨w.heap.size, 8, none⟩ = some (.int .i64 H) ∧ w2.cell? ⟨w.heap.size, 9, none⟩ = some (x) ∧ w2.cell? ⟨w.heap.size, 10, none⟩ = some (r) ∧ w2.cell? ⟨w.heap.size, 11, none⟩ = some (y) ∧ w2.cell? ⟨gk, ok + k * 6 + 2, none⟩ = some (.int .i64 mov) ∧ Kp w w2 := ⟨k2.cell s2.1, k2.cell s2.2.1, k2.cell s2.2.2.1, k2.cell s2.2.2.2.1, k2.cell s2.2.2.2.2.1, k2.cell s2.2.2.2.2.2.1, k2.cell s2.2.2.2.2.2.2.1, k2.cell s2.2.2.2.2.2.2.2.1, k2.cell s2.2.2.2.2.2.2.2.2.1, k2.cell s2.2.2.2.2.2.2.2.2.2.1, k2.cell s2.2.2.2.2.2.2.2.2.2.2.1, k2.cell s2.2.2.2.2.2.2.2.2.2.2.2.1, k2.cell s2.2.2.2.2.2.2.2.2.2.2.2.2.1, s2.2.2.2.2.2.2.2.2.2.2.2.2.2.trans k2⟩; have k13 : Kp wr w2 := ((Kp.refl wr).drew.trans k1).trans k2))
          go_wp2_with fail
          go_roundw
          case rel => exact ⟨q + 1, by omega, by go_num, HE2, s3.1, s3.2.1, s3.2.2.1, s3.2.2.2.1, s3.2.2.2.2.1, s3.2.2.2.2.2.1, s3.2.2.2.2.2.2.1, s3.2.2.2.2.2.2.2.1, s3.2.2.2.2.2.2.2.2.1, s3.2.2.2.2.2.2.2.2.2.1, s3.2.2.2.2.2.2.2.2.2.2.1, s3.2.2.2.2.2.2.2.2.2.2.2.1, s3.2.2.2.2.2.2.2.2.2.2.2.2.1, s3.2.2.2.2.2.2.2.2.2.2.2.2.2, k0r.trans k13⟩
          case measure => simp [intOf]; omega
        · have hlen0 := HG.out j
          rw [hnb] at hlen0
          have hl0 : 0 < (nbL W H (opnB l lt k) (j : Int) 6).length := by simpa using hlen0.symm
          have CN2 := Lib.hid (fun w ht h => CN.out j w ht h)
          generalize nbL W H (opnB l lt k) (j : Int) 6 = NL at CN2 hl0
          clear hlen0
          go_wp2_with fail
          go_region_held3 (fun w' => w'.cell? ⟨w.heap.size, 0, none⟩ = some (.slice At nt ct) ∧ w'.cell? ⟨w.heap.size, 1, none⟩ = some (.slice (some ⟨gk, ok, none⟩) nk ck) ∧ w'.cell? ⟨w.heap.size, 2, none⟩ = some (.int .i64 a) ∧ w'.cell? ⟨w.heap.size, 3, none⟩ = some (.int .i64 b) ∧ w'.cell? ⟨w.heap.size, 4, none⟩ = some (.int .i64 c) ∧ w'.cell? ⟨w.heap.size, 5, none⟩ = some (.int .i64 d) ∧ w'.cell? ⟨w.heap.size, 6, none⟩ = some (.int .i64 e) ∧ w'.cell? ⟨w.heap.size, 7, none⟩ = some (.int .i64 W) ∧ w'.cell? ⟨w.heap.size, 8, none⟩ = some (.int .i64 H) ∧ w'.cell? ⟨w.heap.size, 9, none⟩ = some (x) ∧ w'.cell? ⟨w.heap.size, 10, none⟩ = some (r) ∧ w'.cell? ⟨w.heap.size, 11, none⟩ = some (y) ∧ w'.cell? ⟨gk, ok + k * 6 + 2, none⟩ = some (.int .i64 mov) ∧ Kp w w') (first | assumption | exact s1)
            (first
              | (go_at_call 36; refine (CE.out j _ hjn (HB.out.keep s1.2.2.2.2.2.2.2.2.2.2.2.2.2)).mono ?_; rintro e1 w1 ⟨rfl, k1⟩; have s2 : w1.cell? ⟨w.heap.size, 0, none⟩ = some (.slice At nt ct) ∧ w1.cell? ⟨w.heap.size, 1, none⟩ = some (.slice (some ⟨gk, ok, none⟩) nk ck) ∧ w1.cell? ⟨w.heap.size, 2, none⟩ = some (.int .i64 a) ∧ w1.cell? ⟨w.heap.size, 3, none⟩ = some (.int .i64 b) ∧ w1.cell? ⟨w.heap.size, 4, none⟩ = some (.int .i64 c) ∧ w1.cell? ⟨w.heap.size, 5, none⟩ = some (.int .i64 d) ∧ w1.cell? ⟨w.heap.size, 6, none⟩ = some (.int .i64 e) ∧ w1.cell? ⟨w.heap.size, 7, none⟩ = some (.int .i64 W) ∧ w1.cell? ⟨w.heap.size, 8, none⟩ = some (.int .i64 H) ∧ w1.cell? ⟨w.heap.size, 9, none⟩ = some (x) ∧ w1.cell? ⟨w.heap.size, 10, none⟩ = some (r) ∧ w1.cell? ⟨w.heap.size, 11, none⟩ = some (y) ∧ w1.cell? ⟨gk, ok + k * 6 + 2, none⟩ = some (.int .i64 mov) ∧ Kp w w1 := ⟨k1.cell s1.1, k1.cell s1.2.1, k1.cell s1.2.2.1, k1.cell s1.2.2.2.1, k1.cell s1.2.2.2.2.1, k1.cell s1.2.2.2.2.2.1, k1.cell s1.2.2.2.2.2.2.1, k1.cell s1.2.2.2.2.2.2.2.1, k1.cell s1.2.2.2.2.2.2.2.2.1, k1.cell s1.2.2.2.2.2.2.2.2.2.1, k1.cell s1.2.2.2.2.2.2.2.2.2.2.1, k1.cell s1.2.2.2.2.2.2.2.2.2.2.2.1, k1.cell s1.2.2.2.2.2.2.2.2.2.2.2.2.1, s1.2.2.2.2.2.2.2.2.2.2.2.2.2.trans k1⟩)
              | (go_at_call 71; refine (CN2.out _ (HT.out.keep s2.2.2.2.2.2.2.2.2.2.2.2.2.2) (HB.out.keep s2.2.2.2.2.2.2.2.2.2.2.2.2.2)).mono ?_; rintro e2 w2 ⟨v2, rfl, o2, k2⟩; obtain ⟨A2, c2, rfl⟩ := o2.slice; have s3 : w2.cell? ⟨w.heap.size, 0, none⟩ = some (.slice At nt ct) ∧ w2.cell? ⟨w.heap.size, 1, none⟩ = some (.slice (some ⟨gk, ok, none⟩) nk ck) ∧ w2.cell? ⟨w.heap.size, 2, none⟩ = some (.int .i64 a) ∧ w2.cell? ⟨w.heap.size, 3, none⟩ = some (.int .i64 b) ∧ w2.cell? ⟨w.heap.size, 4, none⟩ = some (.int .i64 c) ∧ w2.cell? ⟨w.heap.size, 5, none⟩ = some (.int .i64 d) ∧ w2.cell? ⟨w.heap.size, 6, none⟩ = some (.int .i64 e) ∧ w2.cell? ⟨w.heap.size, 7, none⟩ = some (.int .i64 W) ∧ w2.cell? ⟨w.heap.size, 8, none⟩ = some (.int .i64 H) ∧ w2.cell? ⟨w.heap.size, 9, none⟩ = some (x) ∧ w2.cell? ⟨w.heap.size, 10, none⟩ = some (r) ∧ w2.cell? ⟨w.heap.size, 11, none⟩ = some (y) ∧ w2.cell? ⟨gk, ok + k * 6 + 2, none⟩ = some (.int .i64 mov) ∧ Kp w w2 := ⟨k2.cell s2.1, k2.cell s2.2.1, k2.cell s2.2.2.1, k2.cell s2.2.2.2.1, k2.cell s2.2.2.2.2.1, k2.cell s2.2.2.2.2.2.1, k2.cell s2.2.2.2.2.2.2.1, k2.cell s2.2.2.2.2.2.2.2.1, k2.cell s2.2.2.2.2.2.2.2.2.1, k2.cell s2.2.2.2.2.2.2.2.2.2.1, k2.cell s2.2.2.2.2.2.2.2.2.2.2.1, k2.cell s2.2.2.2.2.2.2.2.2.2.2.2.1, k2.cell s2.2.2.2.2.2.2.2.2.2.2.2.2.1, s2.2.2.2.2.2.2.2.2.2.2.2.2.2.trans k2⟩))
          go_wp2_with fail
          go_ret
          refine ⟨ret_bool ?_, s3.2.2.2.2.2.2.2.2.2.2.2.2.2⟩
          symm
          unfold canB
          rw [List.any_eq_true]
          exact ⟨_, List.mem_of_getElem? HI.out, by rw [hnb, HCI.out]; simp [hcm]⟩
      · have HE2 : Hid (∀ j' i, j' < q + 1 → L[j']? = some i → (decide (costI l lt k i ≤ mov) && hasNb l lt W H k i) = false) := Lib.hid fun j' i' hj hi' => by
          rcases Nat.lt_or_ge j' q with h1 | h1
          · exact HE.out j' i' h1 hi'
          · obtain rfl : j' = q := by omega
            rw [HI.out] at hi'
            obtain rfl := Option.some.inj hi'
            rw [HCI.out]
            simp [hcm]
        have hcd : decide (costB l lt k j ≤ mov) = false := by simpa using hcm
        go_wp2_with fail
        refine wp_region_held_drew (S := (fun w' => w'.cell? ⟨w.heap.size, 0, none⟩ = some (.slice At nt ct) ∧ w'.cell? ⟨w.heap.size, 1, none⟩ = some (.slice (some ⟨gk, ok, none⟩) nk ck) ∧ w'.cell? ⟨w.heap.size, 2, none⟩ = some (.int .i64 a) ∧ w'.cell? ⟨w.heap.size, 3, none⟩ = some (.int .i64 b) ∧ w'.cell? ⟨w.heap.size, 4, none⟩ = some (.int .i64 c) ∧ w'.cell? ⟨w.heap.size, 5, none⟩ = some (.int .i64 d) ∧ w'.cell? ⟨w.heap.size, 6, none⟩ = some (.int .i64 e) ∧ w'.cell? ⟨w.heap.size, 7, none⟩ = some (.int .i64 W) ∧ w'.cell? ⟨w.heap.size, 8, none⟩ = some (.int .i64 H) ∧ w'.cell? ⟨w.heap.size, 9, none⟩ = some (x) ∧ w'.cell? ⟨w.heap.size, 10, none⟩ = some (r) ∧ w'.cell? ⟨w.heap.size, 11, none⟩ = some (y) ∧ w'.cell? ⟨gk, ok + k * 6 + 2, none⟩ = some (.int .i64 mov) ∧ Kp w w')) (by kernel_rfl) ?_ (fun hHeld => ?_)
        · exact s1
        refine wpAnyH_take (i := 0) (oi := ⟨some 15, _, _, _, _, _⟩) (v := ?_) rfl (by kernel_rfl) (by kernel_rfl) (by kernel_rfl) (fun _ _ _ h => h) (Or.inl ⟨by rfl, ?_⟩) (by assumption) ?_
        rotate_left
        · intro w hSw; (try dsimp only at hSw); go_simp; (all_goals with_reducible rfl)
        simp only [Act.put, List.setIfInBounds_toArray, List.set_cons_zero, List.set_cons_succ]
        refine wpAnyH_take (i := 1) (oi := ⟨some 16, _, _, _, _, _⟩) (v := ?_) rfl (by kernel_rfl) (by kernel_rfl) (by kernel_rfl) (fun _ _ _ h => h) (Or.inl ⟨by rfl, ?_⟩) (by assumption) ?_
        rotate_left
        · intro w hSw; (try dsimp only at hSw); go_simp; (all_goals with_reducible rfl)
        simp only [Act.put, List.setIfInBounds_toArray, List.set_cons_zero, List.set_cons_succ]
        refine wpAnyH_take (i := 2) (oi := ⟨some 17, _, _, _, _, _⟩) (v := ?_) rfl (by kernel_rfl) (by kernel_rfl) (by kernel_rfl) (fun _ _ _ h => h) (Or.inl ⟨by rfl, ?_⟩) (by assumption) ?_
        rotate_left
        · intro w hSw; (try dsimp only at hSw); go_simp; (all_goals with_reducible rfl)
        simp only [Act.put, List.setIfInBounds_toArray, List.set_cons_zero, List.set_cons_succ]
        refine wpAnyH_take (i := 4) (oi := ⟨some 19, _, _, _, _, _⟩) (v := ?_) rfl (by kernel_rfl) (by kernel_rfl) (by kernel_rfl) (fun _ _ _ h => h) (Or.inl ⟨by rfl, ?_⟩) (by assumption) ?_
        rotate_left
        · intro w hSw; (try dsimp only at hSw); go_simp; (all_goals with_reducible rfl)
        simp only [Act.put, List.setIfInBounds_toArray, List.set_cons_zero, List.set_cons_succ]
        refine wpAnyH_take (i := 5) (oi := ⟨some 20, _, _, _, _, _⟩) (v := ?_) rfl (by kernel_rfl) (by kernel_rfl) (by kernel_rfl) (fun _ _ _ h => h) (Or.inl ⟨by rfl, ?_⟩) (by assumption) ?_
        rotate_left
        · intro w hSw; (try dsimp only at hSw); go_simp; (all_goals with_reducible rfl)
        simp only [Act.put, List.setIfInBounds_toArray, List.set_cons_zero, List.set_cons_succ]
        refine wpAnyH_take (i := 6) (oi := ⟨some 21, _, _, _, _, _⟩) (v := ?_) rfl (by kernel_rfl) (by kernel_rfl) (by kernel_rfl) (fun _ _ _ h => h) (Or.inl ⟨by rfl, ?_⟩) (by assumption) ?_
        rotate_left
        · intro w hSw; (try dsimp only at hSw); go_simp; (all_goals with_reducible rfl)
        simp only [Act.put, List.setIfInBounds_toArray, List.set_cons_zero, List.set_cons_succ]
        refine wpAnyH_take (i := 7) (oi := ⟨some 22, _, _, _, _, _⟩) (v := ?_) rfl (by kernel_rfl) (by kernel_rfl) (by kernel_rfl) (fun _ _ _ h => h) (Or.inl ⟨by rfl, ?_⟩) (by assumption) ?_
        rotate_left
        · intro w hSw; (try dsimp only at hSw); go_simp; (all_goals with_reducible rfl)
        simp only [Act.put, List.setIfInBounds_toArray, List.set_cons_zero, List.set_cons_succ]
        refine wpAnyH_take (i := 8) (oi := ⟨some 23, _, _, _, _, _⟩) (v := ?_) rfl (by kernel_rfl) (by kernel_rfl) (by kernel_rfl) (fun _ _ _ h => h) (Or.inl ⟨by rfl, ?_⟩) (by assumption) ?_
        rotate_left
        · intro w hSw; (try dsimp only at hSw); go_simp; (all_goals with_reducible rfl)
        simp only [Act.put, List.setIfInBounds_toArray, List.set_cons_zero, List.set_cons_succ]
        refine wpAnyH_take (i := 9) (oi := ⟨some 24, _, _, _, _, _⟩) (v := ?_) rfl (by kernel_rfl) (by kernel_rfl) (by kernel_rfl) (fun _ _ _ h => h) (Or.inl ⟨by rfl, ?_⟩) (by assumption) ?_
        rotate_left
        · intro w hSw; (try dsimp only at hSw); go_simp; (all_goals with_reducible rfl)
        simp only [Act.put, List.setIfInBounds_toArray, List.set_cons_zero, List.set_cons_succ]
        refine wpAnyH_take (i := 10) (oi := ⟨some 25, _, _, _, _, _⟩) (v := ?_) rfl (by kernel_rfl) (by kernel_rfl) (by kernel_rfl) (fun _ _ _ h => h) (Or.inl ⟨by rfl, ?_⟩) (by assumption) ?_
        rotate_left
        · intro w hSw; (try dsimp only at hSw); go_simp; (all_goals with_reducible rfl)
        simp only [Act.put, List.setIfInBounds_toArray, List.set_cons_zero, List.set_cons_succ]
        refine wpAnyH_ready (rs := [3]) (by kernel_rfl) (by simp) ?_
        refine AllReadyH.cons (o := ⟨some 18, _, _, _, _, _⟩) rfl (fun K hK => ?_) AllReadyH.nil
        go_simp
        refine (CE.out j _ hjn (HB.out.keep s1.2.2.2.2.2.2.2.2.2.2.2.2.2)).mono ?_; rintro e1 w1 ⟨rfl, k1⟩; have s2 : w1.cell? ⟨w.heap.size, 0, none⟩ = some (.slice At nt ct) ∧ w1.cell? ⟨w.heap.size, 1, none⟩ = some (.slice (some ⟨gk, ok, none⟩) nk ck) ∧ w1.cell? ⟨w.heap.size, 2, none⟩ = some (.int .i64 a) ∧ w1.cell? ⟨w.heap.size, 3, none⟩ = some (.int .i64 b) ∧ w1.cell? ⟨w.heap.size, 4, none⟩ = some (.int .i64 c) ∧ w1.cell? ⟨w.heap.size, 5, none⟩ = some (.int .i64 d) ∧ w1.cell? ⟨w.heap.size, 6, none⟩ = some (.int .i64 e) ∧ w1.cell? ⟨w.heap.size, 7, none⟩ = some (.int .i64 W) ∧ w1.cell? ⟨w.heap.size, 8, none⟩ = some (.int .i64 H) ∧ w1.cell? ⟨w.heap.size, 9, none⟩ = some (x) ∧ w1.cell? ⟨w.heap.size, 10, none⟩ = some (r) ∧ w1.cell? ⟨w.heap.size, 11, none⟩ = some (y) ∧ w1.cell? ⟨gk, ok + k * 6 + 2, none⟩ = some (.int .i64 mov) ∧ Kp w w1 := ⟨k1.cell s1.1, k1.cell s1.2.1, k1.cell s1.2.2.1, k1.cell s1.2.2.2.1, k1.cell s1.2.2.2.2.1, k1.cell s1.2.2.2.2.2.1, k1.cell s1.2.2.2.2.2.2.1, k1.cell s1.2.2.2.2.2.2.2.1, k1.cell s1.2.2.2.2.2.2.2.2.1, k1.cell s1.2.2.2.2.2.2.2.2.2.1, k1.cell s1.2.2.2.2.2.2.2.2.2.2.1, k1.cell s1.2.2.2.2.2.2.2.2.2.2.2.1, k1.cell s1.2.2.2.2.2.2.2.2.2.2.2.2.1, s1.2.2.2.2.2.2.2.2.2.2.2.2.2.trans k1⟩
        go_wp2_with fail
        refine hK.out _ _ ?_ (fun hHeld => ?_)
        · (try dsimp only); (first | assumption | exact s2 | exact s1)
        clear hK K
        try simp only [Act.put, List.setIfInBounds_toArray, List.set_cons_zero, List.set_cons_succ]
        refine wpAnyH_take (i := 11) (oi := ⟨some 26, _, _, _, _, _⟩) (v := ?_) rfl (by kernel_rfl) (by kernel_rfl) (by kernel_rfl) (fun _ _ _ h => h) (Or.inl ⟨by rfl, ?_⟩) (by assumption) ?_
        rotate_left
        · intro w hSw; (try dsimp only at hSw); go_simp; (all_goals with_reducible rfl)
        simp only [Act.put, List.setIfInBounds_toArray, List.set_cons_zero, List.set_cons_succ]
        refine wpAnyH_take (i := 12) (oi := ⟨some 27, _, _, _, _, _⟩) (v := ?_) rfl (by kernel_rfl) (by kernel_rfl) (by kernel_rfl) (fun _ _ _ h => h) (Or.inl ⟨by rfl, ?_⟩) (by assumption) ?_
        rotate_left
        · intro w hSw; (try dsimp only at hSw); go_simp; (all_goals with_reducible rfl)
        simp only [Act.put, List.setIfInBounds_toArray, List.set_cons_zero, List.set_cons_succ]
        refine wpAnyH_take (i := 13) (oi := ⟨some 28, _, _, _, _, _⟩) (v := undef) rfl (by kernel_rfl) (by kernel_rfl) (by kernel_rfl) (fun _ _ _ h => h) (Or.inr ⟨by rfl, rfl⟩) (by assumption) ?_
        simp only [Act.put, List.setIfInBounds_toArray, List.set_cons_zero, List.set_cons_succ]
        refine wpAnyH_take (i := 14) (oi := ⟨some 29, _, _, _, _, _⟩) (v := undef) rfl (by kernel_rfl) (by kernel_rfl) (by kernel_rfl) (fun _ _ _ h => h) (Or.inr ⟨by rfl, rfl⟩) (by assumption) ?_
        simp only [Act.put, List.setIfInBounds_toArray, List.set_cons_zero, List.set_cons_succ]
        refine wpAnyH_take (i := 15) (oi := ⟨some 30, _, _, _, _, _⟩) (v := undef) rfl (by kernel_rfl) (by kernel_rfl) (by kernel_rfl) (fun _ _ _ h => h) (Or.inr ⟨by rfl, rfl⟩) (by assumption) ?_
        simp only [Act.put, List.setIfInBounds_toArray, List.set_cons_zero, List.set_cons_succ]
        refine wpAnyH_ready (rs := [16]) (by kernel_rfl) (by simp) ?_
        refine AllReadyH.cons (o := ⟨some 31, _, _, _, _, _⟩) rfl (fun K hK => ?_) AllReadyH.nil
        go_simp
        refine hK.out _ _ ?_ (fun hHeld => ?_)
        · (try dsimp only); (first | assumption | exact s2 | exact s1)
        clear hK K
        try simp only [Act.put, List.setIfInBounds_toArray, List.set_cons_zero, List.set_cons_succ]
        refine wpAnyH_take (i := 17) (oi := ⟨some 32, _, _, _, _, _⟩) (v := undef) rfl (by kernel_rfl) (by kernel_rfl) (by kernel_rfl) (fun _ _ _ h => h) (Or.inr ⟨by rfl, rfl⟩) (by assumption) ?_
        simp only [Act.put, List.setIfInBounds_toArray, List.set_cons_zero, List.set_cons_succ]
        refine wpAnyH_take (i := 18) (oi := ⟨some 33, _, _, _, _, _⟩) (v := undef) rfl (by kernel_rfl) (by kernel_rfl) (by kernel_rfl) (fun _ _ _ h => h) (Or.inr ⟨by rfl, rfl⟩) (by assumption) ?_
        simp only [Act.put, List.setIfInBounds_toArray, List.set_cons_zero, List.set_cons_succ]
        refine wpAnyH_take (i := 19) (oi := ⟨some 34, _, _, _, _, _⟩) (v := ?_) rfl (by kernel_rfl) (by kernel_rfl) (by kernel_rfl) (fun _ _ _ h => h) (Or.inl ⟨by rfl, ?_⟩) (by assumption) ?_
        rotate_left
        · intro w hSw; (try dsimp only at hSw); go_simp; (all_goals with_reducible rfl)
        simp only [Act.put, List.setIfInBounds_toArray, List.set_cons_zero, List.set_cons_succ]
        refine wpAnyH_done (by kernel_rfl) ?_ _
        go_wp2_with fail
        have k13 : Kp wr w1 := (Kp.refl wr).drew.trans k1
        go_roundw
        case rel => exact ⟨q + 1, by omega, by go_num, HE2, s2.1, s2.2.1, s2.2.2.1, s2.2.2.2.1, s2.2.2.2.2.1, s2.2.2.2.2.2.1, s2.2.2.2.2.2.2.1, s2.2.2.2.2.2.2.2.1, s2.2.2.2.2.2.2.2.2.1, s2.2.2.2.2.2.2.2.2.2.1, s2.2.2.2.2.2.2.2.2.2.2.1, s2.2.2.2.2.2.2.2.2.2.2.2.1, s2.2.2.2.2.2.2.2.2.2.2.2.2.1, s2.2.2.2.2.2.2.2.2.2.2.2.2.2, k0r.trans k13⟩
        case measure => simp [intOf]; omega
    · obtain rfl : q = n := by omega
      go_wp2_with fail
      go_ret
      refine ⟨ret_bool ?_, sr.2.2.2.2.2.2.2.2.2.2.2.2.2⟩
      symm
      unfold canB
      rw [List.any_eq_false]
      intro i hi
      obtain ⟨z, hz, rfl⟩ := List.mem_iff_getElem.1 hi
      have := HE.out z _ (by have := HN.out; omega) (List.getElem?_eq_getElem hz)
      rw [this]
      simp




theorem updB_step {b o : Bool} {a c : Int} (h : o = true) : updB (b || o) a c = upd (updB b a c) c := by
  subst h
  rw [Bool.or_true]
  cases b
  · rfl
  · exact (upd_upd a c).symm

set_option maxRecDepth 100000 in
set_option maxHeartbeats 4000000 in
theorem bStuck_any (At Ak : Option Addr) (nt nk ct ck : Nat) (l : List Ter) (m : List Knd) (a b c d e W H : Int) (x r y : Value) (lt lr ld : List Int) (k : Nat) (w : World) (hB : BrdAt w At Ak nt nk l m x r y lt lr ld) (hok : brdOk ⟨l, m, a, b, c, d, e⟩ W H lt lr ld = true) (hk : k < m.length) :
    Calls Tryd.prog 42 #[bv (.slice At nt ct) (.slice Ak nk ck) a b c d e W H x r y, .int .i64 (k : Int)] w fun e' w' => e' = .returned (.bool (stkB l m lt W H k)) ∧ Kp w w' := by
  have hmk := hB.R.rk.1
  obtain ⟨gk, ok, rfl, hck⟩ := hB.R.rk.2 (by omega)
  obtain ⟨kd, hkd⟩ : ∃ kd, m[k]? = some kd := ⟨m[k]'hk, List.getElem?_eq_getElem _⟩
  obtain ⟨_, _, q2, _, _, _⟩ := hck k kd hkd
  obtain ⟨mov, hmov⟩ : ∃ z, z = kd.mov := ⟨_, rfl⟩
  rw [← hmov] at q2
  have e0 : movK m k = mov := by
    unfold movK
    rw [hkd]
    exact hmov.symm
  have hbk := hB.R.bk
  have KA : Kp w (w.alloc (.cells #[.slice At nt ct, .slice (some ⟨gk, ok, none⟩) nk ck, .int .i64 a, .int .i64 b, .int .i64 c, .int .i64 d, .int .i64 e, .int .i64 W, .int .i64 H, x, r, y] 40)) := (Kp.refl w).alloc _
  have s0 : (w.alloc (.cells #[.slice At nt ct, .slice (some ⟨gk, ok, none⟩) nk ck, .int .i64 a, .int .i64 b, .int .i64 c, .int .i64 d, .int .i64 e, .int .i64 W, .int .i64 H, x, r, y] 40)).cell? ⟨w.heap.size, 0, none⟩ = some (.slice At nt ct) ∧ (w.alloc (.cells #[.slice At nt ct, .slice (some ⟨gk, ok, none⟩) nk ck, .int .i64 a, .int .i64 b, .int .i64 c, .int .i64 d, .int .i64 e, .int .i64 W, .int .i64 H, x, r, y] 40)).cell? ⟨w.heap.size, 1, none⟩ = some (.slice (some ⟨gk, ok, none⟩) nk ck) ∧ (w.alloc (.cells #[.slice At nt ct, .slice (some ⟨gk, ok, none⟩) nk ck, .int .i64 a, .int .i64 b, .int .i64 c, .int .i64 d, .int .i64 e, .int .i64 W, .int .i64 H, x, r, y] 40)).cell? ⟨w.heap.size, 2, none⟩ = some (.int .i64 a) ∧ (w.alloc (.cells #[.slice At nt ct, .slice (some ⟨gk, ok, none⟩) nk ck, .int .i64 a, .int .i64 b, .int .i64 c, .int .i64 d, .int .i64 e, .int .i64 W, .int .i64 H, x, r, y] 40)).cell? ⟨w.heap.size, 3, none⟩ = some (.int .i64 b) ∧ (w.alloc (.cells #[.slice At nt ct, .slice (some ⟨gk, ok, none⟩) nk ck, .int .i64 a, .int .i64 b, .int .i64 c, .int .i64 d, .int .i64 e, .int .i64 W, .int .i64 H, x, r, y] 40)).cell? ⟨w.heap.size, 4, none⟩ = some (.int .i64 c) ∧ (w.alloc (.cells #[.slice At nt ct, .slice (some ⟨gk, ok, none⟩) nk ck, .int .i64 a, .int .i64 b, .int .i64 c, .int .i64 d, .int .i64 e, .int .i64 W, .int .i64 H, x, r, y] 40)).cell? ⟨w.heap.size, 5, none⟩ = some (.int .i64 d) ∧ (w.alloc (.cells #[.slice At nt ct, .slice (some ⟨gk, ok, none⟩) nk ck, .int .i64 a, .int .i64 b, .int .i64 c, .int .i64 d, .int .i64 e, .int .i64 W, .int .i64 H, x, r, y] 40)).cell? ⟨w.heap.size, 6, none⟩ = some (.int .i64 e) ∧ (w.alloc (.cells #[.slice At nt ct, .slice (some ⟨gk, ok, none⟩) nk ck, .int .i64 a, .int .i64 b, .int .i64 c, .int .i64 d, .int .i64 e, .int .i64 W, .int .i64 H, x, r, y] 40)).cell? ⟨w.heap.size, 7, none⟩ = some (.int .i64 W) ∧ (w.alloc (.cells #[.slice At nt ct, .slice (some ⟨gk, ok, none⟩) nk ck, .int .i64 a, .int .i64 b, .int .i64 c, .int .i64 d, .int .i64 e, .int .i64 W, .int .i64 H, x, r, y] 40)).cell? ⟨w.heap.size, 8, none⟩ = some (.int .i64 H) ∧ (w.alloc (.cells #[.slice At nt ct, .slice (some ⟨gk, ok, none⟩) nk ck, .int .i64 a, .int .i64 b, .int .i64 c, .int .i64 d, .int .i64 e, .int .i64 W, .int .i64 H, x, r, y] 40)).cell? ⟨w.heap.size, 9, none⟩ = some (x) ∧ (w.alloc (.cells #[.slice At nt ct, .slice (some ⟨gk, ok, none⟩) nk ck, .int .i64 a, .int .i64 b, .int .i64 c, .int .i64 d, .int .i64 e, .int .i64 W, .int .i64 H, x, r, y] 40)).cell? ⟨w.heap.size, 10, none⟩ = some (r) ∧ (w.alloc (.cells #[.slice At nt ct, .slice (some ⟨gk, ok, none⟩) nk ck, .int .i64 a, .int .i64 b, .int .i64 c, .int .i64 d, .int .i64 e, .int .i64 W, .int .i64 H, x, r, y] 40)).cell? ⟨w.heap.size, 11, none⟩ = some (y) ∧ (w.alloc (.cells #[.slice At nt ct, .slice (some ⟨gk, ok, none⟩) nk ck, .int .i64 a, .int .i64 b, .int .i64 c, .int .i64 d, .int .i64 e, .int .i64 W, .int .i64 H, x, r, y] 40)).cell? ⟨gk, ok + k * 6 + 2, none⟩ = some (.int .i64 mov) ∧ Kp w (w.alloc (.cells #[.slice At nt ct, .slice (some ⟨gk, ok, none⟩) nk ck, .int .i64 a, .int .i64 b, .int .i64 c, .int .i64 d, .int .i64 e, .int .i64 W, .int .i64 H, x, r, y] 40)) := ⟨by simp [go_sem], by simp [go_sem], by simp [go_sem], by simp [go_sem], by simp [go_sem], by simp [go_sem], by simp [go_sem], by simp [go_sem], by simp [go_sem], by simp [go_sem], by simp [go_sem], by simp [go_sem], KA.cell q2, KA⟩
  have HB := Lib.hid hB
  have hlen := mapOk_len (brdOk_map hok)
  obtain ⟨h1, h2, h3, h4⟩ := mapOk_side (brdOk_map hok)
  have hA := area_bd h1 h2 h3 h4
  have HC : Hid (stkB l m lt W H k = (decide (lst (hasNb l lt W H k) (costI l lt k) (opnL l lt k lt.length) 0 = 0) || decide (mov < lst (hasNb l lt W H k) (costI l lt k) (opnL l lt k lt.length) 0))) := Lib.hid (by
    rw [stuck_eq opn_pos]
    unfold stkB canK
    rw [e0])
  have CO := Lib.hid (fun w h => bOpen_any At (some ⟨gk, ok, none⟩) nt nk ct ck l m a b c d e W H x r y lt lr ld k w h hok hk)
  have CB : Hid (∀ (z : Nat) w, z < lt.length → BrdAt w At (some ⟨gk, ok, none⟩) nt nk l m x r y lt lr ld → Calls Tryd.prog 33 #[bv (.slice At nt ct) (.slice (some ⟨gk, ok, none⟩) nk ck) a b c d e W H x r y, .int .i64 (k : Int), .int .i64 (z : Int)] w fun e' w' => e' = .returned (.int .i64 (costB l lt k z)) ∧ Kp w w') := Lib.hid fun z w hz h => bCost_any At (some ⟨gk, ok, none⟩) nt nk ct ck l m a b c d e W H x r y lt lr ld k z w h hok hk hz
  have HPOS : Hid (∀ z, z < lt.length → opnB l lt k z = false → costB l lt k z = 0) := Lib.hid fun z hz h => by
    obtain ⟨_, _, c', _, _, _, _, _, h6, h7, _⟩ := brd_hex hok hk hz
    simp [opnB] at h
    omega
  have HNB : Hid (∀ (j dd : Nat), j < lt.length → dd < 6 → nbM W H (j : Int) (dd : Int) = true → ∃ z : Nat, nbI W (j : Int) (dd : Int) = z ∧ z < lt.length ∧ nbO W H (opnB l lt k) (j : Int) dd = opnB l lt k z) := Lib.hid fun j dd hj hd hn => by
    have hb : nbB W H (j : Int) (dd : Int) = true := by
      unfold nbB
      rw [hn]
      simp [onI, dirB]
      omega
    obtain ⟨_, _, hb1, hb2⟩ := nbB_true hb
    refine ⟨(nbI W (j : Int) (dd : Int)).toNat, by omega, by omega, ?_⟩
    unfold nbO
    rw [hb, Bool.true_and]
  have HNO : Hid (∀ (j dd : Nat), nbM W H (j : Int) (dd : Int) = false → nbO W H (opnB l lt k) (j : Int) dd = false) := Lib.hid fun j dd hn => by
    unfold nbO nbB
    rw [hn]
    simp
  have CX : Hid (∀ (j dd : Nat) w, j < lt.length → dd < 6 → Calls Tryd.prog 69 #[mp W H x r y, .int .i64 (j : Int), .int .i64 (dd : Int)] w fun e w' => e = .returned (.int .i64 (orNo (nbM W H (j : Int) (dd : Int)) (nbI W (j : Int) (dd : Int)))) ∧ Kp w w') := Lib.hid fun j dd w hj hd => mNext_any W H x r y (j : Int) (dd : Int) w h1 h2 h3 h4 (by omega) (by omega) (by omega) (by omega)
  have HG : Hid (∀ j : Nat, hasNb l lt W H k (j : Int) = nbA W H (opnB l lt k) (j : Int) 6) := Lib.hid fun j => rfl
  have HCI : Hid (∀ j : Nat, costI l lt k (j : Int) = costB l lt k j) := Lib.hid fun j => by simp [costI]
  have HOP : Hid (∀ z, opnB l lt k z = decide (0 < costB l lt k z)) := Lib.hid fun z => rfl
  have HAT := Lib.hid (fun (q : Nat) (i : Int) (h : (opnL l lt k lt.length)[q]? = some i) => opn_at h)
  have hnk : k < nk := by omega
  have hln : (opnL l lt k lt.length).length ≤ lt.length := filN_len _ _
  obtain ⟨L, hL⟩ : ∃ L, L = opnL l lt k lt.length := ⟨_, rfl⟩
  rw [← hL] at HC CO HAT hln
  obtain ⟨n, hn⟩ : ∃ n, n = L.length := ⟨_, rfl⟩
  have HN := Lib.hid hn
  have hn1 : n ≤ 100 := by omega
  rw [HC.out]
  clear hB hok hk hck hkd hmov e0 hlen hL hln hA hn hmk q2 KA h1 h2 h3 h4 HC
  go_enter Tryd.func42, Tryd.ntmps42
  go_wp2_with fail
  refine (CO.out _ (HB.out.keep s0.2.2.2.2.2.2.2.2.2.2.2.2.2)).mono ?_
  rintro e0 w0 ⟨v, rfl, o0, k0⟩
  have R0 := o0.rd
  replace s0 : w0.cell? ⟨w.heap.size, 0, none⟩ = some (.slice At nt ct) ∧ w0.cell? ⟨w.heap.size, 1, none⟩ = some (.slice (some ⟨gk, ok, none⟩) nk ck) ∧ w0.cell? ⟨w.heap.size, 2, none⟩ = some (.int .i64 a) ∧ w0.cell? ⟨w.heap.size, 3, none⟩ = some (.int .i64 b) ∧ w0.cell? ⟨w.heap.size, 4, none⟩ = some (.int .i64 c) ∧ w0.cell? ⟨w.heap.size, 5, none⟩ = some (.int .i64 d) ∧ w0.cell? ⟨w.heap.size, 6, none⟩ = some (.int .i64 e) ∧ w0.cell? ⟨w.heap.size, 7, none⟩ = some (.int .i64 W) ∧ w0.cell? ⟨w.heap.size, 8, none⟩ = some (.int .i64 H) ∧ w0.cell? ⟨w.heap.size, 9, none⟩ = some (x) ∧ w0.cell? ⟨w.heap.size, 10, none⟩ = some (r) ∧ w0.cell? ⟨w.heap.size, 11, none⟩ = some (y) ∧ w0.cell? ⟨gk, ok + k * 6 + 2, none⟩ = some (.int .i64 mov) ∧ Kp w w0 := ⟨k0.cell s0.1, k0.cell s0.2.1, k0.cell s0.2.2.1, k0.cell s0.2.2.2.1, k0.cell s0.2.2.2.2.1, k0.cell s0.2.2.2.2.2.1, k0.cell s0.2.2.2.2.2.2.1, k0.cell s0.2.2.2.2.2.2.2.1, k0.cell s0.2.2.2.2.2.2.2.2.1, k0.cell s0.2.2.2.2.2.2.2.2.2.1, k0.cell s0.2.2.2.2.2.2.2.2.2.2.1, k0.cell s0.2.2.2.2.2.2.2.2.2.2.2.1, k0.cell s0.2.2.2.2.2.2.2.2.2.2.2.2.1, s0.2.2.2.2.2.2.2.2.2.2.2.2.2.trans k0⟩
  clear o0 k0 CO
  obtain ⟨Av, cv, rfl, hcv⟩ := R0
  rw [← HN.out] at hcv ⊢
  have HV := Lib.hid hcv
  clear hcv
  go_wp2_with fail
  go_loopw [5, 7, 8, 9, 10, 15] (fun tl _ _ _ _ sq wx => ∃ q : Nat, q ≤ n ∧ sq = .int .i64 q ∧ tl = .int .i64 (lst (hasNb l lt W H k) (costI l lt k) (L.take q) 0) ∧ wx.cell? ⟨w.heap.size, 0, none⟩ = some (.slice At nt ct) ∧ wx.cell? ⟨w.heap.size, 1, none⟩ = some (.slice (some ⟨gk, ok, none⟩) nk ck) ∧ wx.cell? ⟨w.heap.size, 2, none⟩ = some (.int .i64 a) ∧ wx.cell? ⟨w.heap.size, 3, none⟩ = some (.int .i64 b) ∧ wx.cell? ⟨w.heap.size, 4, none⟩ = some (.int .i64 c) ∧ wx.cell? ⟨w.heap.size, 5, none⟩ = some (.int .i64 d) ∧ wx.cell? ⟨w.heap.size, 6, none⟩ = some (.int .i64 e) ∧ wx.cell? ⟨w.heap.size, 7, none⟩ = some (.int .i64 W) ∧ wx.cell? ⟨w.heap.size, 8, none⟩ = some (.int .i64 H) ∧ wx.cell? ⟨w.heap.size, 9, none⟩ = some (x) ∧ wx.cell? ⟨w.heap.size, 10, none⟩ = some (r) ∧ wx.cell? ⟨w.heap.size, 11, none⟩ = some (y) ∧ wx.cell? ⟨gk, ok + k * 6 + 2, none⟩ = some (.int .i64 mov) ∧ Kp w wx ∧ Kp w0 wx) (fun _ _ _ _ _ sq _ => n - (intOf sq).toNat)
  case atStart => exact ⟨0, by omega, rfl, rfl, s0.1, s0.2.1, s0.2.2.1, s0.2.2.2.1, s0.2.2.2.2.1, s0.2.2.2.2.2.1, s0.2.2.2.2.2.2.1, s0.2.2.2.2.2.2.2.1, s0.2.2.2.2.2.2.2.2.1, s0.2.2.2.2.2.2.2.2.2.1, s0.2.2.2.2.2.2.2.2.2.2.1, s0.2.2.2.2.2.2.2.2.2.2.2.1, s0.2.2.2.2.2.2.2.2.2.2.2.2.1, s0.2.2.2.2.2.2.2.2.2.2.2.2.2, Kp.refl _⟩
  case round =>
    clear s0
    obtain ⟨q, hqn, rfl, rfl, sr0⟩ := hrel
    have k0r : Kp w0 wr := sr0.2.2.2.2.2.2.2.2.2.2.2.2.2.2
    have sr : wr.cell? ⟨w.heap.size, 0, none⟩ = some (.slice At nt ct) ∧ wr.cell? ⟨w.heap.size, 1, none⟩ = some (.slice (some ⟨gk, ok, none⟩) nk ck) ∧ wr.cell? ⟨w.heap.size, 2, none⟩ = some (.int .i64 a) ∧ wr.cell? ⟨w.heap.size, 3, none⟩ = some (.int .i64 b) ∧ wr.cell? ⟨w.heap.size, 4, none⟩ = some (.int .i64 c) ∧ wr.cell? ⟨w.heap.size, 5, none⟩ = some (.int .i64 d) ∧ wr.cell? ⟨w.heap.size, 6, none⟩ = some (.int .i64 e) ∧ wr.cell? ⟨w.heap.size, 7, none⟩ = some (.int .i64 W) ∧ wr.cell? ⟨w.heap.size, 8, none⟩ = some (.int .i64 H) ∧ wr.cell? ⟨w.heap.size, 9, none⟩ = some (x) ∧ wr.cell? ⟨w.heap.size, 10, none⟩ = some (r) ∧ wr.cell? ⟨w.heap.size, 11, none⟩ = some (y) ∧ wr.cell? ⟨gk, ok + k * 6 + 2, none⟩ = some (.int .i64 mov) ∧ Kp w wr := ⟨sr0.1, sr0.2.1, sr0.2.2.1, sr0.2.2.2.1, sr0.2.2.2.2.1, sr0.2.2.2.2.2.1, sr0.2.2.2.2.2.2.1, sr0.2.2.2.2.2.2.2.1, sr0.2.2.2.2.2.2.2.2.1, sr0.2.2.2.2.2.2.2.2.2.1, sr0.2.2.2.2.2.2.2.2.2.2.1, sr0.2.2.2.2.2.2.2.2.2.2.2.1, sr0.2.2.2.2.2.2.2.2.2.2.2.2.1, sr0.2.2.2.2.2.2.2.2.2.2.2.2.2.1⟩
    clear sr0
    by_cases hlt : q < n
    · have hlt' : (q : Int) < n := by omega
      obtain ⟨g, off, rfl, hc⟩ := HV.out (by omega)
      obtain ⟨i, hi⟩ : ∃ i, L[q]? = some i := ⟨L[q]'(by have := HN.out; omega), List.getElem?_eq_getElem _⟩
      have a0 := k0r.cell (hc q i hi)
      obtain ⟨j, hjn, rfl⟩ := HAT.out q i hi
      have HL1 : Hid (lst (hasNb l lt W H k) (costI l lt k) (L.take (q + 1)) 0 = updB (nbA W H (opnB l lt k) (j : Int) 6) (lst (hasNb l lt W H k) (costI l lt k) (L.take q) 0) (costB l lt k j)) := Lib.hid (by rw [lst_take hi, HG.out, HCI.out])
      clear hc hi
      obtain ⟨a1, ha1⟩ : ∃ z, z = lst (hasNb l lt W H k) (costI l lt k) (L.take q) 0 := ⟨_, rfl⟩
      rw [← ha1] at HL1 ⊢
      obtain ⟨cj, hcj⟩ : ∃ z, z = costB l lt k j := ⟨_, rfl⟩
      have CJ : Hid (∀ w, BrdAt w At (some ⟨gk, ok, none⟩) nt nk l m x r y lt lr ld → Calls Tryd.prog 33 #[bv (.slice At nt ct) (.slice (some ⟨gk, ok, none⟩) nk ck) a b c d e W H x r y, .int .i64 (k : Int), .int .i64 (j : Int)] w fun e' w' => e' = .returned (.int .i64 cj) ∧ Kp w w') := Lib.hid fun w h => by
        rw [hcj]
        exact CB.out j w hjn h
      rw [← hcj] at HL1
      clear ha1 hcj
      go_wp2_with fail
      generalize hwo : wr = wo at *
      clear hwo
      go_loopw [5, 8, 9, 10] (fun tl td _ _ wx => ∃ dd : Nat, dd ≤ 6 ∧ td = .int .i64 dd ∧ tl = .int .i64 (updB (nbA W H (opnB l lt k) (j : Int) dd) a1 cj) ∧ wx.cell? ⟨w.heap.size, 0, none⟩ = some (.slice At nt ct) ∧ wx.cell? ⟨w.heap.size, 1, none⟩ = some (.slice (some ⟨gk, ok, none⟩) nk ck) ∧ wx.cell? ⟨w.heap.size, 2, none⟩ = some (.int .i64 a) ∧ wx.cell? ⟨w.heap.size, 3, none⟩ = some (.int .i64 b) ∧ wx.cell? ⟨w.heap.size, 4, none⟩ = some (.int .i64 c) ∧ wx.cell? ⟨w.heap.size, 5, none⟩ = some (.int .i64 d) ∧ wx.cell? ⟨w.heap.size, 6, none⟩ = some (.int .i64 e) ∧ wx.cell? ⟨w.heap.size, 7, none⟩ = some (.int .i64 W) ∧ wx.cell? ⟨w.heap.size, 8, none⟩ = some (.int .i64 H) ∧ wx.cell? ⟨w.heap.size, 9, none⟩ = some (x) ∧ wx.cell? ⟨w.heap.size, 10, none⟩ = some (r) ∧ wx.cell? ⟨w.heap.size, 11, none⟩ = some (y) ∧ wx.cell? ⟨gk, ok + k * 6 + 2, none⟩ = some (.int .i64 mov) ∧ Kp w wx ∧ Kp w0 wx) (fun _ td _ _ _ => 6 - (intOf td).toNat)
      case atStart => exact ⟨0, by omega, rfl, rfl, sr.1, sr.2.1, sr.2.2.1, sr.2.2.2.1, sr.2.2.2.2.1, sr.2.2.2.2.2.1, sr.2.2.2.2.2.2.1, sr.2.2.2.2.2.2.2.1, sr.2.2.2.2.2.2.2.2.1, sr.2.2.2.2.2.2.2.2.2.1, sr.2.2.2.2.2.2.2.2.2.2.1, sr.2.2.2.2.2.2.2.2.2.2.2.1, sr.2.2.2.2.2.2.2.2.2.2.2.2.1, sr.2.2.2.2.2.2.2.2.2.2.2.2.2, k0r⟩
      case round =>
        clear sr k0r a0
        obtain ⟨dd, hd6, rfl, rfl, si0⟩ := hrel
        have k0i : Kp w0 wr := si0.2.2.2.2.2.2.2.2.2.2.2.2.2.2
        have si : wr.cell? ⟨w.heap.size, 0, none⟩ = some (.slice At nt ct) ∧ wr.cell? ⟨w.heap.size, 1, none⟩ = some (.slice (some ⟨gk, ok, none⟩) nk ck) ∧ wr.cell? ⟨w.heap.size, 2, none⟩ = some (.int .i64 a) ∧ wr.cell? ⟨w.heap.size, 3, none⟩ = some (.int .i64 b) ∧ wr.cell? ⟨w.heap.size, 4, none⟩ = some (.int .i64 c) ∧ wr.cell? ⟨w.heap.size, 5, none⟩ = some (.int .i64 d) ∧ wr.cell? ⟨w.heap.size, 6, none⟩ = some (.int .i64 e) ∧ wr.cell? ⟨w.heap.size, 7, none⟩ = some (.int .i64 W) ∧ wr.cell? ⟨w.heap.size, 8, none⟩ = some (.int .i64 H) ∧ wr.cell? ⟨w.heap.size, 9, none⟩ = some (x) ∧ wr.cell? ⟨w.heap.size, 10, none⟩ = some (r) ∧ wr.cell? ⟨w.heap.size, 11, none⟩ = some (y) ∧ wr.cell? ⟨gk, ok + k * 6 + 2, none⟩ = some (.int .i64 mov) ∧ Kp w wr := ⟨si0.1, si0.2.1, si0.2.2.1, si0.2.2.2.1, si0.2.2.2.2.1, si0.2.2.2.2.2.1, si0.2.2.2.2.2.2.1, si0.2.2.2.2.2.2.2.1, si0.2.2.2.2.2.2.2.2.1, si0.2.2.2.2.2.2.2.2.2.1, si0.2.2.2.2.2.2.2.2.2.2.1, si0.2.2.2.2.2.2.2.2.2.2.2.1, si0.2.2.2.2.2.2.2.2.2.2.2.2.1, si0.2.2.2.2.2.2.2.2.2.2.2.2.2.1⟩
        clear si0
        by_cases hdl : dd < 6
        · have hdl' : (dd : Int) < 6 := by omega
          obtain ⟨cur, hcur⟩ : ∃ z, z = updB (nbA W H (opnB l lt k) (j : Int) dd) a1 cj := ⟨_, rfl⟩
          have HCUR := Lib.hid hcur
          rw [← hcur]
          clear hcur
          cases hnb : nbM W H (j : Int) (dd : Int)
          · have HU : Hid (updB (nbA W H (opnB l lt k) (j : Int) (dd + 1)) a1 cj = cur) := Lib.hid (by rw [HCUR.out, nbA, HNO.out j dd hnb, Bool.or_false])
            go_wp2_with fail
            refine (CX.out j dd _ hjn hdl).mono ?_
            rintro e1 w1 ⟨rfl, k1⟩
            rw [hnb, orNo_false]
            have s1 : w1.cell? ⟨w.heap.size, 0, none⟩ = some (.slice At nt ct) ∧ w1.cell? ⟨w.heap.size, 1, none⟩ = some (.slice (some ⟨gk, ok, none⟩) nk ck) ∧ w1.cell? ⟨w.heap.size, 2, none⟩ = some (.int .i64 a) ∧ w1.cell? ⟨w.heap.size, 3, none⟩ = some (.int .i64 b) ∧ w1.cell? ⟨w.heap.size, 4, none⟩ = some (.int .i64 c) ∧ w1.cell? ⟨w.heap.size, 5, none⟩ = some (.int .i64 d) ∧ w1.cell? ⟨w.heap.size, 6, none⟩ = some (.int .i64 e) ∧ w1.cell? ⟨w.heap.size, 7, none⟩ = some (.int .i64 W) ∧ w1.cell? ⟨w.heap.size, 8, none⟩ = some (.int .i64 H) ∧ w1.cell? ⟨w.heap.size, 9, none⟩ = some (x) ∧ w1.cell? ⟨w.heap.size, 10, none⟩ = some (r) ∧ w1.cell? ⟨w.heap.size, 11, none⟩ = some (y) ∧ w1.cell? ⟨gk, ok + k * 6 + 2, none⟩ = some (.int .i64 mov) ∧ Kp w w1 := ⟨k1.cell si.1, k1.cell si.2.1, k1.cell si.2.2.1, k1.cell si.2.2.2.1, k1.cell si.2.2.2.2.1, k1.cell si.2.2.2.2.2.1, k1.cell si.2.2.2.2.2.2.1, k1.cell si.2.2.2.2.2.2.2.1, k1.cell si.2.2.2.2.2.2.2.2.1, k1.cell si.2.2.2.2.2.2.2.2.2.1, k1.cell si.2.2.2.2.2.2.2.2.2.2.1, k1.cell si.2.2.2.2.2.2.2.2.2.2.2.1, k1.cell si.2.2.2.2.2.2.2.2.2.2.2.2.1, si.2.2.2.2.2.2.2.2.2.2.2.2.2.trans k1⟩
            have k01 := k0i.trans k1
            clear si k1 k0i
            go_wp2_with fail
            go_roundw
            case rel => exact ⟨dd + 1, by omega, by go_num, by rw [HU.out], s1.1, s1.2.1, s1.2.2.1, s1.2.2.2.1, s1.2.2.2.2.1, s1.2.2.2.2.2.1, s1.2.2.2.2.2.2.1, s1.2.2.2.2.2.2.2.1, s1.2.2.2.2.2.2.2.2.1, s1.2.2.2.2.2.2.2.2.2.1, s1.2.2.2.2.2.2.2.2.2.2.1, s1.2.2.2.2.2.2.2.2.2.2.2.1, s1.2.2.2.2.2.2.2.2.2.2.2.2.1, s1.2.2.2.2.2.2.2.2.2.2.2.2.2, k01⟩
            case measure => simp [intOf]; omega
          · obtain ⟨z, hz, hzl, hzo⟩ := HNB.out j dd hjn hdl hnb
            have HZO := Lib.hid hzo
            clear hzo
            have hz0 : ¬ (z : Int) < 0 := by omega
            cases hf : opnB l lt k z
            · have HU : Hid (updB (nbA W H (opnB l lt k) (j : Int) (dd + 1)) a1 cj = cur) := Lib.hid (by rw [HCUR.out, nbA, HZO.out, hf, Bool.or_false])
              have hcz := HPOS.out z hzl hf
              go_wp2_with fail
              refine (CX.out j dd _ hjn hdl).mono ?_
              rintro e1 w1 ⟨rfl, k1⟩
              rw [hnb, orNo_true, hz]
              have s1 : w1.cell? ⟨w.heap.size, 0, none⟩ = some (.slice At nt ct) ∧ w1.cell? ⟨w.heap.size, 1, none⟩ = some (.slice (some ⟨gk, ok, none⟩) nk ck) ∧ w1.cell? ⟨w.heap.size, 2, none⟩ = some (.int .i64 a) ∧ w1.cell? ⟨w.heap.size, 3, none⟩ = some (.int .i64 b) ∧ w1.cell? ⟨w.heap.size, 4, none⟩ = some (.int .i64 c) ∧ w1.cell? ⟨w.heap.size, 5, none⟩ = some (.int .i64 d) ∧ w1.cell? ⟨w.heap.size, 6, none⟩ = some (.int .i64 e) ∧ w1.cell? ⟨w.heap.size, 7, none⟩ = some (.int .i64 W) ∧ w1.cell? ⟨w.heap.size, 8, none⟩ = some (.int .i64 H) ∧ w1.cell? ⟨w.heap.size, 9, none⟩ = some (x) ∧ w1.cell? ⟨w.heap.size, 10, none⟩ = some (r) ∧ w1.cell? ⟨w.heap.size, 11, none⟩ = some (y) ∧ w1.cell? ⟨gk, ok + k * 6 + 2, none⟩ = some (.int .i64 mov) ∧ Kp w w1 := ⟨k1.cell si.1, k1.cell si.2.1, k1.cell si.2.2.1, k1.cell si.2.2.2.1, k1.cell si.2.2.2.2.1, k1.cell si.2.2.2.2.2.1, k1.cell si.2.2.2.2.2.2.1, k1.cell si.2.2.2.2.2.2.2.1, k1.cell si.2.2.2.2.2.2.2.2.1, k1.cell si.2.2.2.2.2.2.2.2.2.1, k1.cell si.2.2.2.2.2.2.2.2.2.2.1, k1.cell si.2.2.2.2.2.2.2.2.2.2.2.1, k1.cell si.2.2.2.2.2.2.2.2.2.2.2.2.1, si.2.2.2.2.2.2.2.2.2.2.2.2.2.trans k1⟩
              have k01 := k0i.trans k1
              clear si k1 k0i
              go_wp2_with fail
              refine (CB.out z _ hzl (HB.out.keep s1.2.2.2.2.2.2.2.2.2.2.2.2.2)).mono ?_
              rintro e2 w2 ⟨rfl, k2⟩
              rw [hcz]
              have s2 : w2.cell? ⟨w.heap.size, 0, none⟩ = some (.slice At nt ct) ∧ w2.cell? ⟨w.heap.size, 1, none⟩ = some (.slice (some ⟨gk, ok, none⟩) nk ck) ∧ w2.cell? ⟨w.heap.size, 2, none⟩ = some (.int .i64 a) ∧ w2.cell? ⟨w.heap.size, 3, none⟩ = some (.int .i64 b) ∧ w2.cell? ⟨w.heap.size, 4, none⟩ = some (.int .i64 c) ∧ w2.cell? ⟨w.heap.size, 5, none⟩ = some (.int .i64 d) ∧ w2.cell? ⟨w.heap.size, 6, none⟩ = some (.int .i64 e) ∧ w2.cell? ⟨w.heap.size, 7, none⟩ = some (.int .i64 W) ∧ w2.cell? ⟨w.heap.size, 8, none⟩ = some (.int .i64 H) ∧ w2.cell? ⟨w.heap.size, 9, none⟩ = some (x) ∧ w2.cell? ⟨w.heap.size, 10, none⟩ = some (r) ∧ w2.cell? ⟨w.heap.size, 11, none⟩ = some (y) ∧ w2.cell? ⟨gk, ok + k * 6 + 2, none⟩ = some (.int .i64 mov) ∧ Kp w w2 := ⟨k2.cell s1.1, k2.cell s1.2.1, k2.cell s1.2.2.1, k2.cell s1.2.2.2.1, k2.cell s1.2.2.2.2.1, k2.cell s1.2.2.2.2.2.1, k2.cell s1.2.2.2.2.2.2.1, k2.cell s1.2.2.2.2.2.2.2.1, k2.cell s1.2.2.2.2.2.2.2.2.1, k2.cell s1.2.2.2.2.2.2.2.2.2.1, k2.cell s1.2.2.2.2.2.2.2.2.2.2.1, k2.cell s1.2.2.2.2.2.2.2.2.2.2.2.1, k2.cell s1.2.2.2.2.2.2.2.2.2.2.2.2.1, s1.2.2.2.2.2.2.2.2.2.2.2.2.2.trans k2⟩
              have k02 := k01.trans k2
              clear s1 k2 k01
              go_wp2_with fail
              go_roundw
              case rel => exact ⟨dd + 1, by omega, by go_num, by rw [HU.out], s2.1, s2.2.1, s2.2.2.1, s2.2.2.2.1, s2.2.2.2.2.1, s2.2.2.2.2.2.1, s2.2.2.2.2.2.2.1, s2.2.2.2.2.2.2.2.1, s2.2.2.2.2.2.2.2.2.1, s2.2.2.2.2.2.2.2.2.2.1, s2.2.2.2.2.2.2.2.2.2.2.1, s2.2.2.2.2.2.2.2.2.2.2.2.1, s2.2.2.2.2.2.2.2.2.2.2.2.2.1, s2.2.2.2.2.2.2.2.2.2.2.2.2.2, k02⟩
              case measure => simp [intOf]; omega
            · have HU : Hid (updB (nbA W H (opnB l lt k) (j : Int) (dd + 1)) a1 cj = upd cur cj) := Lib.hid (by rw [HCUR.out, nbA]; exact updB_step (by rw [HZO.out, hf]))
              have hcz : ¬ costB l lt k z = 0 := by
                have := HOP.out z
                rw [hf] at this
                have h2 : 0 < costB l lt k z := by simpa using this.symm
                omega
              have hcz2 : (costB l lt k z == 0) = false := by simpa using hcz
              obtain ⟨Z, hZ⟩ : ∃ Z, Z = costB l lt k z := ⟨_, rfl⟩
              have CZ : Hid (∀ w, BrdAt w At (some ⟨gk, ok, none⟩) nt nk l m x r y lt lr ld → Calls Tryd.prog 33 #[bv (.slice At nt ct) (.slice (some ⟨gk, ok, none⟩) nk ck) a b c d e W H x r y, .int .i64 (k : Int), .int .i64 (z : Int)] w fun e' w' => e' = .returned (.int .i64 Z) ∧ Kp w w') := Lib.hid fun w h => by
                rw [hZ]
                exact CB.out z w hzl h
              rw [← hZ] at hcz hcz2
              clear hZ
              go_wp2_with fail
              refine (CX.out j dd _ hjn hdl).mono ?_
              rintro e1 w1 ⟨rfl, k1⟩
              rw [hnb, orNo_true, hz]
              have s1 : w1.cell? ⟨w.heap.size, 0, none⟩ = some (.slice At nt ct) ∧ w1.cell? ⟨w.heap.size, 1, none⟩ = some (.slice (some ⟨gk, ok, none⟩) nk ck) ∧ w1.cell? ⟨w.heap.size, 2, none⟩ = some (.int .i64 a) ∧ w1.cell? ⟨w.heap.size, 3, none⟩ = some (.int .i64 b) ∧ w1.cell? ⟨w.heap.size, 4, none⟩ = some (.int .i64 c) ∧ w1.cell? ⟨w.heap.size, 5, none⟩ = some (.int .i64 d) ∧ w1.cell? ⟨w.heap.size, 6, none⟩ = some (.int .i64 e) ∧ w1.cell? ⟨w.heap.size, 7, none⟩ = some (.int .i64 W) ∧ w1.cell? ⟨w.heap.size, 8, none⟩ = some (.int .i64 H) ∧ w1.cell? ⟨w.heap.size, 9, none⟩ = some (x) ∧ w1.cell? ⟨w.heap.size, 10, none⟩ = some (r) ∧ w1.cell? ⟨w.heap.size, 11, none⟩ = some (y) ∧ w1.cell? ⟨gk, ok + k * 6 + 2, none⟩ = some (.int .i64 mov) ∧ Kp w w1 := ⟨k1.cell si.1, k1.cell si.2.1, k1.cell si.2.2.1, k1.cell si.2.2.2.1, k1.cell si.2.2.2.2.1, k1.cell si.2.2.2.2.2.1, k1.cell si.2.2.2.2.2.2.1, k1.cell si.2.2.2.2.2.2.2.1, k1.cell si.2.2.2.2.2.2.2.2.1, k1.cell si.2.2.2.2.2.2.2.2.2.1, k1.cell si.2.2.2.2.2.2.2.2.2.2.1, k1.cell si.2.2.2.2.2.2.2.2.2.2.2.1, k1.cell si.2.2.2.2.2.2.2.2.2.2.2.2.1, si.2.2.2.2.2.2.2.2.2.2.2.2.2.trans k1⟩
              have k01 := k0i.trans k1
              clear si k1 k0i
              go_wp2_with fail
              refine (CZ.out _ (HB.out.keep s1.2.2.2.2.2.2.2.2.2.2.2.2.2)).mono ?_
              rintro e2 w2 ⟨rfl, k2⟩
              have s2 : w2.cell? ⟨w.heap.size, 0, none⟩ = some (.slice At nt ct) ∧ w2.cell? ⟨w.heap.size, 1, none⟩ = some (.slice (some ⟨gk, ok, none⟩) nk ck) ∧ w2.cell? ⟨w.heap.size, 2, none⟩ = some (.int .i64 a) ∧ w2.cell? ⟨w.heap.size, 3, none⟩ = some (.int .i64 b) ∧ w2.cell? ⟨w.heap.size, 4, none⟩ = some (.int .i64 c) ∧ w2.cell? ⟨w.heap.size, 5, none⟩ = some (.int .i64 d) ∧ w2.cell? ⟨w.heap.size, 6, none⟩ = some (.int .i64 e) ∧ w2.cell? ⟨w.heap.size, 7, none⟩ = some (.int .i64 W) ∧ w2.cell? ⟨w.heap.size, 8, none⟩ = some (.int .i64 H) ∧ w2.cell? ⟨w.heap.size, 9, none⟩ = some (x) ∧ w2.cell? ⟨w.heap.size, 10, none⟩ = some (r) ∧ w2.cell? ⟨w.heap.size, 11, none⟩ = some (y) ∧ w2.cell? ⟨gk, ok + k * 6 + 2, none⟩ = some (.int .i64 mov) ∧ Kp w w2 := ⟨k2.cell s1.1, k2.cell s1.2.1, k2.cell s1.2.2.1, k2.cell s1.2.2.2.1, k2.cell s1.2.2.2.2.1, k2.cell s1.2.2.2.2.2.1, k2.cell s1.2.2.2.2.2.2.1, k2.cell s1.2.2.2.2.2.2.2.1, k2.cell s1.2.2.2.2.2.2.2.2.1, k2.cell s1.2.2.2.2.2.2.2.2.2.1, k2.cell s1.2.2.2.2.2.2.2.2.2.2.1, k2.cell s1.2.2.2.2.2.2.2.2.2.2.2.1, k2.cell s1.2.2.2.2.2.2.2.2.2.2.2.2.1, s1.2.2.2.2.2.2.2.2.2.2.2.2.2.trans k2⟩
              have k02 := k01.trans k2
              clear s1 k2 k01
              go_wp2_with fail
              refine (CJ.out _ (HB.out.keep s2.2.2.2.2.2.2.2.2.2.2.2.2.2)).mono ?_
              rintro e3 w3 ⟨rfl, k3⟩
              have s3 : w3.cell? ⟨w.heap.size, 0, none⟩ = some (.slice At nt ct) ∧ w3.cell? ⟨w.heap.size, 1, none⟩ = some (.slice (some ⟨gk, ok, none⟩) nk ck) ∧ w3.cell? ⟨w.heap.size, 2, none⟩ = some (.int .i64 a) ∧ w3.cell? ⟨w.heap.size, 3, none⟩ = some (.int .i64 b) ∧ w3.cell? ⟨w.heap.size, 4, none⟩ = some (.int .i64 c) ∧ w3.cell? ⟨w.heap.size, 5, none⟩ = some (.int .i64 d) ∧ w3.cell? ⟨w.heap.size, 6, none⟩ = some (.int .i64 e) ∧ w3.cell? ⟨w.heap.size, 7, none⟩ = some (.int .i64 W) ∧ w3.cell? ⟨w.heap.size, 8, none⟩ = some (.int .i64 H) ∧ w3.cell? ⟨w.heap.size, 9, none⟩ = some (x) ∧ w3.cell? ⟨w.heap.size, 10, none⟩ = some (r) ∧ w3.cell? ⟨w.heap.size, 11, none⟩ = some (y) ∧ w3.cell? ⟨gk, ok + k * 6 + 2, none⟩ = some (.int .i64 mov) ∧ Kp w w3 := ⟨k3.cell s2.1, k3.cell s2.2.1, k3.cell s2.2.2.1, k3.cell s2.2.2.2.1, k3.cell s2.2.2.2.2.1, k3.cell s2.2.2.2.2.2.1, k3.cell s2.2.2.2.2.2.2.1, k3.cell s2.2.2.2.2.2.2.2.1, k3.cell s2.2.2.2.2.2.2.2.2.1, k3.cell s2.2.2.2.2.2.2.2.2.2.1, k3.cell s2.2.2.2.2.2.2.2.2.2.2.1, k3.cell s2.2.2.2.2.2.2.2.2.2.2.2.1, k3.cell s2.2.2.2.2.2.2.2.2.2.2.2.2.1, s2.2.2.2.2.2.2.2.2.2.2.2.2.2.trans k3⟩
              have k03 := k02.trans k3
              clear s2 k3 k02
              by_cases hc0 : cur = 0
              · have hb0 : (cur == 0) = true := by simpa using hc0
                have hv : upd cur cj = cj := by unfold upd; rw [if_pos (.inl hc0)]
                go_wp2_with fail
                go_roundw
                case rel => exact ⟨dd + 1, by omega, by go_num, by rw [HU.out, hv], s3.1, s3.2.1, s3.2.2.1, s3.2.2.2.1, s3.2.2.2.2.1, s3.2.2.2.2.2.1, s3.2.2.2.2.2.2.1, s3.2.2.2.2.2.2.2.1, s3.2.2.2.2.2.2.2.2.1, s3.2.2.2.2.2.2.2.2.2.1, s3.2.2.2.2.2.2.2.2.2.2.1, s3.2.2.2.2.2.2.2.2.2.2.2.1, s3.2.2.2.2.2.2.2.2.2.2.2.2.1, s3.2.2.2.2.2.2.2.2.2.2.2.2.2, k03⟩
                case measure => simp [intOf]; omega
              · have hb0 : (cur == 0) = false := by simpa using hc0
                by_cases hc1 : cj < cur
                · have hv : upd cur cj = cj := by unfold upd; rw [if_pos (.inr hc1)]
                  go_wp2_with fail
                  go_roundw
                  case rel => exact ⟨dd + 1, by omega, by go_num, by rw [HU.out, hv], s3.1, s3.2.1, s3.2.2.1, s3.2.2.2.1, s3.2.2.2.2.1, s3.2.2.2.2.2.1, s3.2.2.2.2.2.2.1, s3.2.2.2.2.2.2.2.1, s3.2.2.2.2.2.2.2.2.1, s3.2.2.2.2.2.2.2.2.2.1, s3.2.2.2.2.2.2.2.2.2.2.1, s3.2.2.2.2.2.2.2.2.2.2.2.1, s3.2.2.2.2.2.2.2.2.2.2.2.2.1, s3.2.2.2.2.2.2.2.2.2.2.2.2.2, k03⟩
                  case measure => simp [intOf]; omega
                · have hv : upd cur cj = cur := by unfold upd; rw [if_neg (by omega)]
                  go_wp2_with fail
                  go_roundw
                  case rel => exact ⟨dd + 1, by omega, by go_num, by rw [HU.out, hv], s3.1, s3.2.1, s3.2.2.1, s3.2.2.2.1, s3.2.2.2.2.1, s3.2.2.2.2.2.1, s3.2.2.2.2.2.2.1, s3.2.2.2.2.2.2.2.1, s3.2.2.2.2.2.2.2.2.1, s3.2.2.2.2.2.2.2.2.2.1, s3.2.2.2.2.2.2.2.2.2.2.1, s3.2.2.2.2.2.2.2.2.2.2.2.1, s3.2.2.2.2.2.2.2.2.2.2.2.2.1, s3.2.2.2.2.2.2.2.2.2.2.2.2.2, k03⟩
                  case measure => simp [intOf]; omega
        · obtain rfl : dd = 6 := by omega
          rw [← HL1.out]
          go_wp2_with fail
          go_roundw
          case rel => exact ⟨q + 1, by omega, by go_num, rfl, si.1, si.2.1, si.2.2.1, si.2.2.2.1, si.2.2.2.2.1, si.2.2.2.2.2.1, si.2.2.2.2.2.2.1, si.2.2.2.2.2.2.2.1, si.2.2.2.2.2.2.2.2.1, si.2.2.2.2.2.2.2.2.2.1, si.2.2.2.2.2.2.2.2.2.2.1, si.2.2.2.2.2.2.2.2.2.2.2.1, si.2.2.2.2.2.2.2.2.2.2.2.2.1, si.2.2.2.2.2.2.2.2.2.2.2.2.2, k0i⟩
          case measure => simp [intOf]; omega
    · obtain rfl : q = n := by omega
      have et : L.take q = L := List.take_of_length_le (by have := HN.out; omega)
      rw [et]
      obtain ⟨R, hR⟩ : ∃ R, R = lst (hasNb l lt W H k) (costI l lt k) L 0 := ⟨_, rfl⟩
      rw [← hR]
      by_cases hr0 : R = 0
      · have hb0 : (R == 0) = true := by simpa using hr0
        go_wp2_with fail
        go_ret
        exact ⟨ret_bool (by rw [← hR]; simp [hr0]), sr.2.2.2.2.2.2.2.2.2.2.2.2.2⟩
      · have hb0 : (R == 0) = false := by simpa using hr0
        go_wp2_with fail
        go_ret
        exact ⟨ret_bool (by rw [← hR]; simp [hr0]), sr.2.2.2.2.2.2.2.2.2.2.2.2.2⟩

set_option maxRecDepth 100000 in
set_option maxHeartbeats 4000000 in
theorem stuckP_any (At Ak : Option Addr) (nt nk ct ck : Nat) (l : List Ter) (m : List Knd) (a b c d e W H : Int) (x r y : Value) (lt lr ld : List Int) (w : World) (hs : Spans w) (ht : Tab w) (hB : BrdAt w At Ak nt nk l m x r y lt lr ld) :
    Calls Tryd.prog 21 #[bv (.slice At nt ct) (.slice Ak nk ck) a b c d e W H x r y] w (ListPostI (brdOk ⟨l, m, a, b, c, d, e⟩ W H lt lr ld) (stkL l m lt W H nk) w) := by
  have KA : Kp w (w.alloc (.cells #[.slice At nt ct, .slice Ak nk ck, .int .i64 a, .int .i64 b, .int .i64 c, .int .i64 d, .int .i64 e, .int .i64 W, .int .i64 H, x, r, y] 40)) := (Kp.refl w).alloc _
  have s0 : (w.alloc (.cells #[.slice At nt ct, .slice Ak nk ck, .int .i64 a, .int .i64 b, .int .i64 c, .int .i64 d, .int .i64 e, .int .i64 W, .int .i64 H, x, r, y] 40)).cell? ⟨w.heap.size, 0, none⟩ = some (.slice At nt ct) ∧ (w.alloc (.cells #[.slice At nt ct, .slice Ak nk ck, .int .i64 a, .int .i64 b, .int .i64 c, .int .i64 d, .int .i64 e, .int .i64 W, .int .i64 H, x, r, y] 40)).cell? ⟨w.heap.size, 1, none⟩ = some (.slice Ak nk ck) ∧ (w.alloc (.cells #[.slice At nt ct, .slice Ak nk ck, .int .i64 a, .int .i64 b, .int .i64 c, .int .i64 d, .int .i64 e, .int .i64 W, .int .i64 H, x, r, y] 40)).cell? ⟨w.heap.size, 2, none⟩ = some (.int .i64 a) ∧ (w.alloc (.cells #[.slice At nt ct, .slice Ak nk ck, .int .i64 a, .int .i64 b, .int .i64 c, .int .i64 d, .int .i64 e, .int .i64 W, .int .i64 H, x, r, y] 40)).cell? ⟨w.heap.size, 3, none⟩ = some (.int .i64 b) ∧ (w.alloc (.cells #[.slice At nt ct, .slice Ak nk ck, .int .i64 a, .int .i64 b, .int .i64 c, .int .i64 d, .int .i64 e, .int .i64 W, .int .i64 H, x, r, y] 40)).cell? ⟨w.heap.size, 4, none⟩ = some (.int .i64 c) ∧ (w.alloc (.cells #[.slice At nt ct, .slice Ak nk ck, .int .i64 a, .int .i64 b, .int .i64 c, .int .i64 d, .int .i64 e, .int .i64 W, .int .i64 H, x, r, y] 40)).cell? ⟨w.heap.size, 5, none⟩ = some (.int .i64 d) ∧ (w.alloc (.cells #[.slice At nt ct, .slice Ak nk ck, .int .i64 a, .int .i64 b, .int .i64 c, .int .i64 d, .int .i64 e, .int .i64 W, .int .i64 H, x, r, y] 40)).cell? ⟨w.heap.size, 6, none⟩ = some (.int .i64 e) ∧ (w.alloc (.cells #[.slice At nt ct, .slice Ak nk ck, .int .i64 a, .int .i64 b, .int .i64 c, .int .i64 d, .int .i64 e, .int .i64 W, .int .i64 H, x, r, y] 40)).cell? ⟨w.heap.size, 7, none⟩ = some (.int .i64 W) ∧ (w.alloc (.cells #[.slice At nt ct, .slice Ak nk ck, .int .i64 a, .int .i64 b, .int .i64 c, .int .i64 d, .int .i64 e, .int .i64 W, .int .i64 H, x, r, y] 40)).cell? ⟨w.heap.size, 8, none⟩ = some (.int .i64 H) ∧ (w.alloc (.cells #[.slice At nt ct, .slice Ak nk ck, .int .i64 a, .int .i64 b, .int .i64 c, .int .i64 d, .int .i64 e, .int .i64 W, .int .i64 H, x, r, y] 40)).cell? ⟨w.heap.size, 9, none⟩ = some (x) ∧ (w.alloc (.cells #[.slice At nt ct, .slice Ak nk ck, .int .i64 a, .int .i64 b, .int .i64 c, .int .i64 d, .int .i64 e, .int .i64 W, .int .i64 H, x, r, y] 40)).cell? ⟨w.heap.size, 10, none⟩ = some (r) ∧ (w.alloc (.cells #[.slice At nt ct, .slice Ak nk ck, .int .i64 a, .int .i64 b, .int .i64 c, .int .i64 d, .int .i64 e, .int .i64 W, .int .i64 H, x, r, y] 40)).cell? ⟨w.heap.size, 11, none⟩ = some (y) ∧ Kp w (w.alloc (.cells #[.slice At nt ct, .slice Ak nk ck, .int .i64 a, .int .i64 b, .int .i64 c, .int .i64 d, .int .i64 e, .int .i64 W, .int .i64 H, x, r, y] 40)) := ⟨by simp [go_sem], by simp [go_sem], by simp [go_sem], by simp [go_sem], by simp [go_sem], by simp [go_sem], by simp [go_sem], by simp [go_sem], by simp [go_sem], by simp [go_sem], by simp [go_sem], by simp [go_sem], KA⟩
  have HB := Lib.hid hB
  have HT := Lib.hid ht
  have C1 := Lib.hid (isBoard_any At Ak nt nk ct ck l m a b c d e W H x r y lt lr ld _ (hs.keep KA) (ht.keep KA) (hB.keep KA))
  cases hp : brdOk ⟨l, m, a, b, c, d, e⟩ W H lt lr ld
  · rw [hp] at C1
    clear hs ht hB hp
    go_enter Tryd.func21, Tryd.ntmps21
    go_wp2_with fail
    refine C1.out.mono ?_
    rintro e1 w1 ⟨rfl, k1⟩
    go_wp2_with fail
    go_ret2
    exact ListPostI.no (KA.trans k1)
  · rw [hp] at C1
    have hn6 : nk ≤ 4 := by have := (rulOk_nt (brdOk_rul hp)).2.2; have := hB.R.rk.1; omega
    have hmk := hB.R.rk.1
    have HF : Hid (∀ i : Nat, i < nk → Hid (∀ w, Tab w → BrdAt w At Ak nt nk l m x r y lt lr ld → Calls Tryd.prog 44 #[bv (.slice At nt ct) (.slice Ak nk ck) a b c d e W H x r y, .int .i64 (i : Int)] w fun e' w' => e' = .returned (.bool (canK l m lt W H i)) ∧ Kp w w')) := Lib.hid fun i hi => Lib.hid fun w ht h => canStep_any At Ak nt nk ct ck l m a b c d e W H x r y lt lr ld i w ht h hp (by omega)
    have e0 : stkL l m lt W H nk = filN (stkB l m lt W H) nk := rfl
    rw [e0]
    have HP : Hid (∀ i : Nat, canK l m lt W H i = !stkB l m lt W H i) := Lib.hid fun i => by simp [stkB]
    generalize hF : stkB l m lt W H = F at HF HP ⊢
    obtain ⟨j0, hj0, hz0, hs0, hb0⟩ := info_parts infoInt
    clear hs ht hB hp KA hF e0 hmk
    go_enter Tryd.func21, Tryd.ntmps21
    go_wp2_with fail
    refine C1.out.mono ?_
    rintro e1 w0 ⟨rfl, k0⟩
    replace s0 : w0.cell? ⟨w.heap.size, 0, none⟩ = some (.slice At nt ct) ∧ w0.cell? ⟨w.heap.size, 1, none⟩ = some (.slice Ak nk ck) ∧ w0.cell? ⟨w.heap.size, 2, none⟩ = some (.int .i64 a) ∧ w0.cell? ⟨w.heap.size, 3, none⟩ = some (.int .i64 b) ∧ w0.cell? ⟨w.heap.size, 4, none⟩ = some (.int .i64 c) ∧ w0.cell? ⟨w.heap.size, 5, none⟩ = some (.int .i64 d) ∧ w0.cell? ⟨w.heap.size, 6, none⟩ = some (.int .i64 e) ∧ w0.cell? ⟨w.heap.size, 7, none⟩ = some (.int .i64 W) ∧ w0.cell? ⟨w.heap.size, 8, none⟩ = some (.int .i64 H) ∧ w0.cell? ⟨w.heap.size, 9, none⟩ = some (x) ∧ w0.cell? ⟨w.heap.size, 10, none⟩ = some (r) ∧ w0.cell? ⟨w.heap.size, 11, none⟩ = some (y) ∧ Kp w w0 := ⟨k0.cell s0.1, k0.cell s0.2.1, k0.cell s0.2.2.1, k0.cell s0.2.2.2.1, k0.cell s0.2.2.2.2.1, k0.cell s0.2.2.2.2.2.1, k0.cell s0.2.2.2.2.2.2.1, k0.cell s0.2.2.2.2.2.2.2.1, k0.cell s0.2.2.2.2.2.2.2.2.1, k0.cell s0.2.2.2.2.2.2.2.2.2.1, k0.cell s0.2.2.2.2.2.2.2.2.2.2.1, k0.cell s0.2.2.2.2.2.2.2.2.2.2.2.1, s0.2.2.2.2.2.2.2.2.2.2.2.2.trans k0⟩
    clear k0 C1
    go_wp2_with fail
    go_loopw [4, 5, 13] (fun v _ sq wx => ∃ q : Nat, q ≤ nk ∧ sq = .int .i64 q ∧ OwnI wx (w.heap.size + 1) v (filN F q) ∧ wx.cell? ⟨w.heap.size, 0, none⟩ = some (.slice At nt ct) ∧ wx.cell? ⟨w.heap.size, 1, none⟩ = some (.slice Ak nk ck) ∧ wx.cell? ⟨w.heap.size, 2, none⟩ = some (.int .i64 a) ∧ wx.cell? ⟨w.heap.size, 3, none⟩ = some (.int .i64 b) ∧ wx.cell? ⟨w.heap.size, 4, none⟩ = some (.int .i64 c) ∧ wx.cell? ⟨w.heap.size, 5, none⟩ = some (.int .i64 d) ∧ wx.cell? ⟨w.heap.size, 6, none⟩ = some (.int .i64 e) ∧ wx.cell? ⟨w.heap.size, 7, none⟩ = some (.int .i64 W) ∧ wx.cell? ⟨w.heap.size, 8, none⟩ = some (.int .i64 H) ∧ wx.cell? ⟨w.heap.size, 9, none⟩ = some (x) ∧ wx.cell? ⟨w.heap.size, 10, none⟩ = some (r) ∧ wx.cell? ⟨w.heap.size, 11, none⟩ = some (y) ∧ Kp w wx) (fun _ _ sq _ => nk - (intOf sq).toNat)
    case atStart => exact ⟨0, by omega, rfl, OwnI.nil _ _, s0⟩
    case round =>
      clear s0
      obtain ⟨q, hqn, rfl, hoR, sr⟩ := hrel
      by_cases hlt : q < nk
      · have hlt' : (q : Int) < nk := by omega
        have HO := Lib.hid hoR
        have kr : Kp w wr := sr.2.2.2.2.2.2.2.2.2.2.2.2
        clear hoR
        cases hf : F q
        · have HS : Hid (filN F (q + 1) = filN F q) := Lib.hid (filN_no hf)
          have hh := HP.out q
          rw [hf] at hh
          go_wp2_with fail
          refine ((HF.out q hlt).out _ (HT.out.keep kr) (HB.out.keep kr)).mono ?_
          rintro e1 w1 ⟨rfl, k1⟩
          rw [hh]
          have HO1 := Lib.hid (HO.out.keep k1)
          have s1 : w1.cell? ⟨w.heap.size, 0, none⟩ = some (.slice At nt ct) ∧ w1.cell? ⟨w.heap.size, 1, none⟩ = some (.slice Ak nk ck) ∧ w1.cell? ⟨w.heap.size, 2, none⟩ = some (.int .i64 a) ∧ w1.cell? ⟨w.heap.size, 3, none⟩ = some (.int .i64 b) ∧ w1.cell? ⟨w.heap.size, 4, none⟩ = some (.int .i64 c) ∧ w1.cell? ⟨w.heap.size, 5, none⟩ = some (.int .i64 d) ∧ w1.cell? ⟨w.heap.size, 6, none⟩ = some (.int .i64 e) ∧ w1.cell? ⟨w.heap.size, 7, none⟩ = some (.int .i64 W) ∧ w1.cell? ⟨w.heap.size, 8, none⟩ = some (.int .i64 H) ∧ w1.cell? ⟨w.heap.size, 9, none⟩ = some (x) ∧ w1.cell? ⟨w.heap.size, 10, none⟩ = some (r) ∧ w1.cell? ⟨w.heap.size, 11, none⟩ = some (y) ∧ Kp w w1 := ⟨k1.cell sr.1, k1.cell sr.2.1, k1.cell sr.2.2.1, k1.cell sr.2.2.2.1, k1.cell sr.2.2.2.2.1, k1.cell sr.2.2.2.2.2.1, k1.cell sr.2.2.2.2.2.2.1, k1.cell sr.2.2.2.2.2.2.2.1, k1.cell sr.2.2.2.2.2.2.2.2.1, k1.cell sr.2.2.2.2.2.2.2.2.2.1, k1.cell sr.2.2.2.2.2.2.2.2.2.2.1, k1.cell sr.2.2.2.2.2.2.2.2.2.2.2.1, kr.trans k1⟩
          clear sr k1 HO kr
          go_wp2_with fail
          go_roundw
          case rel => exact ⟨q + 1, by omega, by go_num, by rw [HS.out]; exact HO1.out, s1⟩
          case measure => simp [intOf]; omega
        · have HS : Hid (filN F (q + 1) = filN F q ++ [(q : Int)]) := Lib.hid (filN_yes hf)
          have hln := Lib.hid (filN_len F q)
          have hh := HP.out q
          rw [hf] at hh
          go_wp2_with fail
          refine ((HF.out q hlt).out _ (HT.out.keep kr) (HB.out.keep kr)).mono ?_
          rintro e1 w1 ⟨rfl, k1⟩
          rw [hh]
          have HO1 := Lib.hid (HO.out.keep k1)
          have s1 : w1.cell? ⟨w.heap.size, 0, none⟩ = some (.slice At nt ct) ∧ w1.cell? ⟨w.heap.size, 1, none⟩ = some (.slice Ak nk ck) ∧ w1.cell? ⟨w.heap.size, 2, none⟩ = some (.int .i64 a) ∧ w1.cell? ⟨w.heap.size, 3, none⟩ = some (.int .i64 b) ∧ w1.cell? ⟨w.heap.size, 4, none⟩ = some (.int .i64 c) ∧ w1.cell? ⟨w.heap.size, 5, none⟩ = some (.int .i64 d) ∧ w1.cell? ⟨w.heap.size, 6, none⟩ = some (.int .i64 e) ∧ w1.cell? ⟨w.heap.size, 7, none⟩ = some (.int .i64 W) ∧ w1.cell? ⟨w.heap.size, 8, none⟩ = some (.int .i64 H) ∧ w1.cell? ⟨w.heap.size, 9, none⟩ = some (x) ∧ w1.cell? ⟨w.heap.size, 10, none⟩ = some (r) ∧ w1.cell? ⟨w.heap.size, 11, none⟩ = some (y) ∧ Kp w w1 := ⟨k1.cell sr.1, k1.cell sr.2.1, k1.cell sr.2.2.1, k1.cell sr.2.2.2.1, k1.cell sr.2.2.2.2.1, k1.cell sr.2.2.2.2.2.1, k1.cell sr.2.2.2.2.2.2.1, k1.cell sr.2.2.2.2.2.2.2.1, k1.cell sr.2.2.2.2.2.2.2.2.1, k1.cell sr.2.2.2.2.2.2.2.2.2.1, k1.cell sr.2.2.2.2.2.2.2.2.2.2.1, k1.cell sr.2.2.2.2.2.2.2.2.2.2.2.1, kr.trans k1⟩
          have n0 := Lib.hid (HO1.out.not (g := w.heap.size) (by omega))
          have n1 := Lib.hid (HO1.out.not (g := w.heap.size) (by omega))
          have n2 := Lib.hid (HO1.out.not (g := w.heap.size) (by omega))
          have n3 := Lib.hid (HO1.out.not (g := w.heap.size) (by omega))
          have n4 := Lib.hid (HO1.out.not (g := w.heap.size) (by omega))
          have n5 := Lib.hid (HO1.out.not (g := w.heap.size) (by omega))
          have n6 := Lib.hid (HO1.out.not (g := w.heap.size) (by omega))
          have n7 := Lib.hid (HO1.out.not (g := w.heap.size) (by omega))
          have n8 := Lib.hid (HO1.out.not (g := w.heap.size) (by omega))
          have n9 := Lib.hid (HO1.out.not (g := w.heap.size) (by omega))
          have n10 := Lib.hid (HO1.out.not (g := w.heap.size) (by omega))
          have n11 := Lib.hid (HO1.out.not (g := w.heap.size) (by omega))
          have hbw : w.heap.size ≤ w1.heap.size := s1.2.2.2.2.2.2.2.2.2.2.2.2.size
          clear sr k1 HO kr
          go_wp2_with (at_builtin; refine wpList_append_own_at _ rfl (.tmp 20) (.tmp 22) 26 rfl (w.heap.size + 1) 3 j0 (.int .i64 0) 1 8 Tryd.underlying26 hj0 hz0 hs0 hb0 rfl (by decide) _ (filN F q).length (cellsI (filN F q)) rfl (World.ownsRow.alloc HO1.out _) ⟨w1.heap.size, 0, none⟩ 1 1 [.int .i64 q] rfl rfl (one_cell _ _ _) (by simp [Value.oneCell']) (by have := hln.out; simp only [maxLen]; omega) (by have := hln.out; omega) (by simp; omega) ?_; intro v' w3 hown2 hgrow2 hnil2 hat2; clear hnil2 hat2; have s5 : w3.cell? ⟨w.heap.size, 0, none⟩ = some (.slice At nt ct) ∧ w3.cell? ⟨w.heap.size, 1, none⟩ = some (.slice Ak nk ck) ∧ w3.cell? ⟨w.heap.size, 2, none⟩ = some (.int .i64 a) ∧ w3.cell? ⟨w.heap.size, 3, none⟩ = some (.int .i64 b) ∧ w3.cell? ⟨w.heap.size, 4, none⟩ = some (.int .i64 c) ∧ w3.cell? ⟨w.heap.size, 5, none⟩ = some (.int .i64 d) ∧ w3.cell? ⟨w.heap.size, 6, none⟩ = some (.int .i64 e) ∧ w3.cell? ⟨w.heap.size, 7, none⟩ = some (.int .i64 W) ∧ w3.cell? ⟨w.heap.size, 8, none⟩ = some (.int .i64 H) ∧ w3.cell? ⟨w.heap.size, 9, none⟩ = some (x) ∧ w3.cell? ⟨w.heap.size, 10, none⟩ = some (r) ∧ w3.cell? ⟨w.heap.size, 11, none⟩ = some (y) ∧ Kp w w3 := ⟨hgrow2.cell (((Kp.refl w1).alloc (.cells #[.int .i64 (q : Int)] 3)).cell s1.1) (fun e => n0.out e.symm), hgrow2.cell (((Kp.refl w1).alloc (.cells #[.int .i64 (q : Int)] 3)).cell s1.2.1) (fun e => n1.out e.symm), hgrow2.cell (((Kp.refl w1).alloc (.cells #[.int .i64 (q : Int)] 3)).cell s1.2.2.1) (fun e => n2.out e.symm), hgrow2.cell (((Kp.refl w1).alloc (.cells #[.int .i64 (q : Int)] 3)).cell s1.2.2.2.1) (fun e => n3.out e.symm), hgrow2.cell (((Kp.refl w1).alloc (.cells #[.int .i64 (q : Int)] 3)).cell s1.2.2.2.2.1) (fun e => n4.out e.symm), hgrow2.cell (((Kp.refl w1).alloc (.cells #[.int .i64 (q : Int)] 3)).cell s1.2.2.2.2.2.1) (fun e => n5.out e.symm), hgrow2.cell (((Kp.refl w1).alloc (.cells #[.int .i64 (q : Int)] 3)).cell s1.2.2.2.2.2.2.1) (fun e => n6.out e.symm), hgrow2.cell (((Kp.refl w1).alloc (.cells #[.int .i64 (q : Int)] 3)).cell s1.2.2.2.2.2.2.2.1) (fun e => n7.out e.symm), hgrow2.cell (((Kp.refl w1).alloc (.cells #[.int .i64 (q : Int)] 3)).cell s1.2.2.2.2.2.2.2.2.1) (fun e => n8.out e.symm), hgrow2.cell (((Kp.refl w1).alloc (.cells #[.int .i64 (q : Int)] 3)).cell s1.2.2.2.2.2.2.2.2.2.1) (fun e => n9.out e.symm), hgrow2.cell (((Kp.refl w1).alloc (.cells #[.int .i64 (q : Int)] 3)).cell s1.2.2.2.2.2.2.2.2.2.2.1) (fun e => n10.out e.symm), hgrow2.cell (((Kp.refl w1).alloc (.cells #[.int .i64 (q : Int)] 3)).cell s1.2.2.2.2.2.2.2.2.2.2.2.1) (fun e => n11.out e.symm), (s1.2.2.2.2.2.2.2.2.2.2.2.2.alloc _).grown hgrow2 (fun k e => by have := (World.ownsRow.lt HO1.out k e).1; omega)⟩; have O3 := Lib.hid (OwnI.snoc (x := q) hown2); clear hown2 hgrow2)
          go_roundw
          case rel => exact ⟨q + 1, by omega, by go_num, by rw [HS.out]; exact O3.out, s5⟩
          case measure => simp [intOf]; omega
      · obtain rfl : q = nk := by omega
        go_wp2_with fail
        go_ret2
        exact ⟨_, rfl, hoR.base (by omega), sr.2.2.2.2.2.2.2.2.2.2.2.2⟩

set_option maxRecDepth 100000 in
set_option maxHeartbeats 4000000 in
theorem specStuck_any (At Ak : Option Addr) (nt nk ct ck : Nat) (l : List Ter) (m : List Knd) (a b c d e W H : Int) (x r y : Value) (lt lr ld : List Int) (w : World) (hB : BrdAt w At Ak nt nk l m x r y lt lr ld) :
    Calls Tryd.prog 20 #[bv (.slice At nt ct) (.slice Ak nk ck) a b c d e W H x r y] w (ListPostI (brdOk ⟨l, m, a, b, c, d, e⟩ W H lt lr ld) (stkL l m lt W H nk) w) := by
  have KA : Kp w (w.alloc (.cells #[.slice At nt ct, .slice Ak nk ck, .int .i64 a, .int .i64 b, .int .i64 c, .int .i64 d, .int .i64 e, .int .i64 W, .int .i64 H, x, r, y] 40)) := (Kp.refl w).alloc _
  have s0 : (w.alloc (.cells #[.slice At nt ct, .slice Ak nk ck, .int .i64 a, .int .i64 b, .int .i64 c, .int .i64 d, .int .i64 e, .int .i64 W, .int .i64 H, x, r, y] 40)).cell? ⟨w.heap.size, 0, none⟩ = some (.slice At nt ct) ∧ (w.alloc (.cells #[.slice At nt ct, .slice Ak nk ck, .int .i64 a, .int .i64 b, .int .i64 c, .int .i64 d, .int .i64 e, .int .i64 W, .int .i64 H, x, r, y] 40)).cell? ⟨w.heap.size, 1, none⟩ = some (.slice Ak nk ck) ∧ (w.alloc (.cells #[.slice At nt ct, .slice Ak nk ck, .int .i64 a, .int .i64 b, .int .i64 c, .int .i64 d, .int .i64 e, .int .i64 W, .int .i64 H, x, r, y] 40)).cell? ⟨w.heap.size, 2, none⟩ = some (.int .i64 a) ∧ (w.alloc (.cells #[.slice At nt ct, .slice Ak nk ck, .int .i64 a, .int .i64 b, .int .i64 c, .int .i64 d, .int .i64 e, .int .i64 W, .int .i64 H, x, r, y] 40)).cell? ⟨w.heap.size, 3, none⟩ = some (.int .i64 b) ∧ (w.alloc (.cells #[.slice At nt ct, .slice Ak nk ck, .int .i64 a, .int .i64 b, .int .i64 c, .int .i64 d, .int .i64 e, .int .i64 W, .int .i64 H, x, r, y] 40)).cell? ⟨w.heap.size, 4, none⟩ = some (.int .i64 c) ∧ (w.alloc (.cells #[.slice At nt ct, .slice Ak nk ck, .int .i64 a, .int .i64 b, .int .i64 c, .int .i64 d, .int .i64 e, .int .i64 W, .int .i64 H, x, r, y] 40)).cell? ⟨w.heap.size, 5, none⟩ = some (.int .i64 d) ∧ (w.alloc (.cells #[.slice At nt ct, .slice Ak nk ck, .int .i64 a, .int .i64 b, .int .i64 c, .int .i64 d, .int .i64 e, .int .i64 W, .int .i64 H, x, r, y] 40)).cell? ⟨w.heap.size, 6, none⟩ = some (.int .i64 e) ∧ (w.alloc (.cells #[.slice At nt ct, .slice Ak nk ck, .int .i64 a, .int .i64 b, .int .i64 c, .int .i64 d, .int .i64 e, .int .i64 W, .int .i64 H, x, r, y] 40)).cell? ⟨w.heap.size, 7, none⟩ = some (.int .i64 W) ∧ (w.alloc (.cells #[.slice At nt ct, .slice Ak nk ck, .int .i64 a, .int .i64 b, .int .i64 c, .int .i64 d, .int .i64 e, .int .i64 W, .int .i64 H, x, r, y] 40)).cell? ⟨w.heap.size, 8, none⟩ = some (.int .i64 H) ∧ (w.alloc (.cells #[.slice At nt ct, .slice Ak nk ck, .int .i64 a, .int .i64 b, .int .i64 c, .int .i64 d, .int .i64 e, .int .i64 W, .int .i64 H, x, r, y] 40)).cell? ⟨w.heap.size, 9, none⟩ = some (x) ∧ (w.alloc (.cells #[.slice At nt ct, .slice Ak nk ck, .int .i64 a, .int .i64 b, .int .i64 c, .int .i64 d, .int .i64 e, .int .i64 W, .int .i64 H, x, r, y] 40)).cell? ⟨w.heap.size, 10, none⟩ = some (r) ∧ (w.alloc (.cells #[.slice At nt ct, .slice Ak nk ck, .int .i64 a, .int .i64 b, .int .i64 c, .int .i64 d, .int .i64 e, .int .i64 W, .int .i64 H, x, r, y] 40)).cell? ⟨w.heap.size, 11, none⟩ = some (y) ∧ Kp w (w.alloc (.cells #[.slice At nt ct, .slice Ak nk ck, .int .i64 a, .int .i64 b, .int .i64 c, .int .i64 d, .int .i64 e, .int .i64 W, .int .i64 H, x, r, y] 40)) := ⟨by simp [go_sem], by simp [go_sem], by simp [go_sem], by simp [go_sem], by simp [go_sem], by simp [go_sem], by simp [go_sem], by simp [go_sem], by simp [go_sem], by simp [go_sem], by simp [go_sem], by simp [go_sem], KA⟩
  have HB := Lib.hid hB
  have C1 := Lib.hid (bGood_any At Ak nt nk ct ck l m a b c d e W H x r y lt lr ld _ (hB.keep KA))
  cases hp : brdOk ⟨l, m, a, b, c, d, e⟩ W H lt lr ld
  · rw [hp] at C1
    clear  hB hp
    go_enter Tryd.func20, Tryd.ntmps20
    go_wp2_with fail
    refine C1.out.mono ?_
    rintro e1 w1 ⟨rfl, k1⟩
    go_wp2_with fail
    go_ret2
    exact ListPostI.no (KA.trans k1)
  · rw [hp] at C1
    have hn6 : nk ≤ 4 := by have := (rulOk_nt (brdOk_rul hp)).2.2; have := hB.R.rk.1; omega
    have hmk := hB.R.rk.1
    have HF : Hid (∀ i : Nat, i < nk → Hid (∀ w, BrdAt w At Ak nt nk l m x r y lt lr ld → Calls Tryd.prog 42 #[bv (.slice At nt ct) (.slice Ak nk ck) a b c d e W H x r y, .int .i64 (i : Int)] w fun e' w' => e' = .returned (.bool (stkB l m lt W H i)) ∧ Kp w w')) := Lib.hid fun i hi => Lib.hid fun w h => bStuck_any At Ak nt nk ct ck l m a b c d e W H x r y lt lr ld i w h hp (by omega)
    have e0 : stkL l m lt W H nk = filN (stkB l m lt W H) nk := rfl
    rw [e0]
    generalize hF : stkB l m lt W H = F at HF ⊢
    obtain ⟨j0, hj0, hz0, hs0, hb0⟩ := info_parts infoInt
    clear  hB hp KA hF e0 hmk
    go_enter Tryd.func20, Tryd.ntmps20
    go_wp2_with fail
    refine C1.out.mono ?_
    rintro e1 w0 ⟨rfl, k0⟩
    replace s0 : w0.cell? ⟨w.heap.size, 0, none⟩ = some (.slice At nt ct) ∧ w0.cell? ⟨w.heap.size, 1, none⟩ = some (.slice Ak nk ck) ∧ w0.cell? ⟨w.heap.size, 2, none⟩ = some (.int .i64 a) ∧ w0.cell? ⟨w.heap.size, 3, none⟩ = some (.int .i64 b) ∧ w0.cell? ⟨w.heap.size, 4, none⟩ = some (.int .i64 c) ∧ w0.cell? ⟨w.heap.size, 5, none⟩ = some (.int .i64 d) ∧ w0.cell? ⟨w.heap.size, 6, none⟩ = some (.int .i64 e) ∧ w0.cell? ⟨w.heap.size, 7, none⟩ = some (.int .i64 W) ∧ w0.cell? ⟨w.heap.size, 8, none⟩ = some (.int .i64 H) ∧ w0.cell? ⟨w.heap.size, 9, none⟩ = some (x) ∧ w0.cell? ⟨w.heap.size, 10, none⟩ = some (r) ∧ w0.cell? ⟨w.heap.size, 11, none⟩ = some (y) ∧ Kp w w0 := ⟨k0.cell s0.1, k0.cell s0.2.1, k0.cell s0.2.2.1, k0.cell s0.2.2.2.1, k0.cell s0.2.2.2.2.1, k0.cell s0.2.2.2.2.2.1, k0.cell s0.2.2.2.2.2.2.1, k0.cell s0.2.2.2.2.2.2.2.1, k0.cell s0.2.2.2.2.2.2.2.2.1, k0.cell s0.2.2.2.2.2.2.2.2.2.1, k0.cell s0.2.2.2.2.2.2.2.2.2.2.1, k0.cell s0.2.2.2.2.2.2.2.2.2.2.2.1, s0.2.2.2.2.2.2.2.2.2.2.2.2.trans k0⟩
    clear k0 C1
    go_wp2_with fail
    go_loopw [4, 5, 13] (fun v _ sq wx => ∃ q : Nat, q ≤ nk ∧ sq = .int .i64 q ∧ OwnI wx (w.heap.size + 1) v (filN F q) ∧ wx.cell? ⟨w.heap.size, 0, none⟩ = some (.slice At nt ct) ∧ wx.cell? ⟨w.heap.size, 1, none⟩ = some (.slice Ak nk ck) ∧ wx.cell? ⟨w.heap.size, 2, none⟩ = some (.int .i64 a) ∧ wx.cell? ⟨w.heap.size, 3, none⟩ = some (.int .i64 b) ∧ wx.cell? ⟨w.heap.size, 4, none⟩ = some (.int .i64 c) ∧ wx.cell? ⟨w.heap.size, 5, none⟩ = some (.int .i64 d) ∧ wx.cell? ⟨w.heap.size, 6, none⟩ = some (.int .i64 e) ∧ wx.cell? ⟨w.heap.size, 7, none⟩ = some (.int .i64 W) ∧ wx.cell? ⟨w.heap.size, 8, none⟩ = some (.int .i64 H) ∧ wx.cell? ⟨w.heap.size, 9, none⟩ = some (x) ∧ wx.cell? ⟨w.heap.size, 10, none⟩ = some (r) ∧ wx.cell? ⟨w.heap.size, 11, none⟩ = some (y) ∧ Kp w wx) (fun _ _ sq _ => nk - (intOf sq).toNat)
    case atStart => exact ⟨0, by omega, rfl, OwnI.nil _ _, s0⟩
    case round =>
      clear s0
      obtain ⟨q, hqn, rfl, hoR, sr⟩ := hrel
      by_cases hlt : q < nk
      · have hlt' : (q : Int) < nk := by omega
        have HO := Lib.hid hoR
        have kr : Kp w wr := sr.2.2.2.2.2.2.2.2.2.2.2.2
        clear hoR
        cases hf : F q
        · have HS : Hid (filN F (q + 1) = filN F q) := Lib.hid (filN_no hf)
          go_wp2_with fail
          refine ((HF.out q hlt).out _ (HB.out.keep kr)).mono ?_
          rintro e1 w1 ⟨rfl, k1⟩
          rw [hf]
          have HO1 := Lib.hid (HO.out.keep k1)
          have s1 : w1.cell? ⟨w.heap.size, 0, none⟩ = some (.slice At nt ct) ∧ w1.cell? ⟨w.heap.size, 1, none⟩ = some (.slice Ak nk ck) ∧ w1.cell? ⟨w.heap.size, 2, none⟩ = some (.int .i64 a) ∧ w1.cell? ⟨w.heap.size, 3, none⟩ = some (.int .i64 b) ∧ w1.cell? ⟨w.heap.size, 4, none⟩ = some (.int .i64 c) ∧ w1.cell? ⟨w.heap.size, 5, none⟩ = some (.int .i64 d) ∧ w1.cell? ⟨w.heap.size, 6, none⟩ = some (.int .i64 e) ∧ w1.cell? ⟨w.heap.size, 7, none⟩ = some (.int .i64 W) ∧ w1.cell? ⟨w.heap.size, 8, none⟩ = some (.int .i64 H) ∧ w1.cell? ⟨w.heap.size, 9, none⟩ = some (x) ∧ w1.cell? ⟨w.heap.size, 10, none⟩ = some (r) ∧ w1.cell? ⟨w.heap.size, 11, none⟩ = some (y) ∧ Kp w w1 := ⟨k1.cell sr.1, k1.cell sr.2.1, k1.cell sr.2.2.1, k1.cell sr.2.2.2.1, k1.cell sr.2.2.2.2.1, k1.cell sr.2.2.2.2.2.1, k1.cell sr.2.2.2.2.2.2.1, k1.cell sr.2.2.2.2.2.2.2.1, k1.cell sr.2.2.2.2.2.2.2.2.1, k1.cell sr.2.2.2.2.2.2.2.2.2.1, k1.cell sr.2.2.2.2.2.2.2.2.2.2.1, k1.cell sr.2.2.2.2.2.2.2.2.2.2.2.1, kr.trans k1⟩
          clear sr k1 HO kr
          go_wp2_with fail
          go_roundw
          case rel => exact ⟨q + 1, by omega, by go_num, by rw [HS.out]; exact HO1.out, s1⟩
          case measure => simp [intOf]; omega
        · have HS : Hid (filN F (q + 1) = filN F q ++ [(q : Int)]) := Lib.hid (filN_yes hf)
          have hln := Lib.hid (filN_len F q)
          go_wp2_with fail
          refine ((HF.out q hlt).out _ (HB.out.keep kr)).mono ?_
          rintro e1 w1 ⟨rfl, k1⟩
          rw [hf]
          have HO1 := Lib.hid (HO.out.keep k1)
          have s1 : w1.cell? ⟨w.heap.size, 0, none⟩ = some (.slice At nt ct) ∧ w1.cell? ⟨w.heap.size, 1, none⟩ = some (.slice Ak nk ck) ∧ w1.cell? ⟨w.heap.size, 2, none⟩ = some (.int .i64 a) ∧ w1.cell? ⟨w.heap.size, 3, none⟩ = some (.int .i64 b) ∧ w1.cell? ⟨w.heap.size, 4, none⟩ = some (.int .i64 c) ∧ w1.cell? ⟨w.heap.size, 5, none⟩ = some (.int .i64 d) ∧ w1.cell? ⟨w.heap.size, 6, none⟩ = some (.int .i64 e) ∧ w1.cell? ⟨w.heap.size, 7, none⟩ = some (.int .i64 W) ∧ w1.cell? ⟨w.heap.size, 8, none⟩ = some (.int .i64 H) ∧ w1.cell? ⟨w.heap.size, 9, none⟩ = some (x) ∧ w1.cell? ⟨w.heap.size, 10, none⟩ = some (r) ∧ w1.cell? ⟨w.heap.size, 11, none⟩ = some (y) ∧ Kp w w1 := ⟨k1.cell sr.1, k1.cell sr.2.1, k1.cell sr.2.2.1, k1.cell sr.2.2.2.1, k1.cell sr.2.2.2.2.1, k1.cell sr.2.2.2.2.2.1, k1.cell sr.2.2.2.2.2.2.1, k1.cell sr.2.2.2.2.2.2.2.1, k1.cell sr.2.2.2.2.2.2.2.2.1, k1.cell sr.2.2.2.2.2.2.2.2.2.1, k1.cell sr.2.2.2.2.2.2.2.2.2.2.1, k1.cell sr.2.2.2.2.2.2.2.2.2.2.2.1, kr.trans k1⟩
          have n0 := Lib.hid (HO1.out.not (g := w.heap.size) (by omega))
          have n1 := Lib.hid (HO1.out.not (g := w.heap.size) (by omega))
          have n2 := Lib.hid (HO1.out.not (g := w.heap.size) (by omega))
          have n3 := Lib.hid (HO1.out.not (g := w.heap.size) (by omega))
          have n4 := Lib.hid (HO1.out.not (g := w.heap.size) (by omega))
          have n5 := Lib.hid (HO1.out.not (g := w.heap.size) (by omega))
          have n6 := Lib.hid (HO1.out.not (g := w.heap.size) (by omega))
          have n7 := Lib.hid (HO1.out.not (g := w.heap.size) (by omega))
          have n8 := Lib.hid (HO1.out.not (g := w.heap.size) (by omega))
          have n9 := Lib.hid (HO1.out.not (g := w.heap.size) (by omega))
          have n10 := Lib.hid (HO1.out.not (g := w.heap.size) (by omega))
          have n11 := Lib.hid (HO1.out.not (g := w.heap.size) (by omega))
          have hbw : w.heap.size ≤ w1.heap.size := s1.2.2.2.2.2.2.2.2.2.2.2.2.size
          clear sr k1 HO kr
          go_wp2_with (at_builtin; refine wpList_append_own_at _ rfl (.tmp 19) (.tmp 21) 26 rfl (w.heap.size + 1) 3 j0 (.int .i64 0) 1 8 Tryd.underlying26 hj0 hz0 hs0 hb0 rfl (by decide) _ (filN F q).length (cellsI (filN F q)) rfl (World.ownsRow.alloc HO1.out _) ⟨w1.heap.size, 0, none⟩ 1 1 [.int .i64 q] rfl rfl (one_cell _ _ _) (by simp [Value.oneCell']) (by have := hln.out; simp only [maxLen]; omega) (by have := hln.out; omega) (by simp; omega) ?_; intro v' w3 hown2 hgrow2 hnil2 hat2; clear hnil2 hat2; have s5 : w3.cell? ⟨w.heap.size, 0, none⟩ = some (.slice At nt ct) ∧ w3.cell? ⟨w.heap.size, 1, none⟩ = some (.slice Ak nk ck) ∧ w3.cell? ⟨w.heap.size, 2, none⟩ = some (.int .i64 a) ∧ w3.cell? ⟨w.heap.size, 3, none⟩ = some (.int .i64 b) ∧ w3.cell? ⟨w.heap.size, 4, none⟩ = some (.int .i64 c) ∧ w3.cell? ⟨w.heap.size, 5, none⟩ = some (.int .i64 d) ∧ w3.cell? ⟨w.heap.size, 6, none⟩ = some (.int .i64 e) ∧ w3.cell? ⟨w.heap.size, 7, none⟩ = some (.int .i64 W) ∧ w3.cell? ⟨w.heap.size, 8, none⟩ = some (.int .i64 H) ∧ w3.cell? ⟨w.heap.size, 9, none⟩ = some (x) ∧ w3.cell? ⟨w.heap.size, 10, none⟩ = some (r) ∧ w3.cell? ⟨w.heap.size, 11, none⟩ = some (y) ∧ Kp w w3 := ⟨hgrow2.cell (((Kp.refl w1).alloc (.cells #[.int .i64 (q : Int)] 3)).cell s1.1) (fun e => n0.out e.symm), hgrow2.cell (((Kp.refl w1).alloc (.cells #[.int .i64 (q : Int)] 3)).cell s1.2.1) (fun e => n1.out e.symm), hgrow2.cell (((Kp.refl w1).alloc (.cells #[.int .i64 (q : Int)] 3)).cell s1.2.2.1) (fun e => n2.out e.symm), hgrow2.cell (((Kp.refl w1).alloc (.cells #[.int .i64 (q : Int)] 3)).cell s1.2.2.2.1) (fun e => n3.out e.symm), hgrow2.cell (((Kp.refl w1).alloc (.cells #[.int .i64 (q : Int)] 3)).cell s1.2.2.2.2.1) (fun e => n4.out e.symm), hgrow2.cell (((Kp.refl w1).alloc (.cells #[.int .i64 (q : Int)] 3)).cell s1.2.2.2.2.2.1) (fun e => n5.out e.symm), hgrow2.cell (((Kp.refl w1).alloc (.cells #[.int .i64 (q : Int)] 3)).cell s1.2.2.2.2.2.2.1) (fun e => n6.out e.symm), hgrow2.cell (((Kp.refl w1).alloc (.cells #[.int .i64 (q : Int)] 3)).cell s1.2.2.2.2.2.2.2.1) (fun e => n7.out e.symm), hgrow2.cell (((Kp.refl w1).alloc (.cells #[.int .i64 (q : Int)] 3)).cell s1.2.2.2.2.2.2.2.2.1) (fun e => n8.out e.symm), hgrow2.cell (((Kp.refl w1).alloc (.cells #[.int .i64 (q : Int)] 3)).cell s1.2.2.2.2.2.2.2.2.2.1) (fun e => n9.out e.symm), hgrow2.cell (((Kp.refl w1).alloc (.cells #[.int .i64 (q : Int)] 3)).cell s1.2.2.2.2.2.2.2.2.2.2.1) (fun e => n10.out e.symm), hgrow2.cell (((Kp.refl w1).alloc (.cells #[.int .i64 (q : Int)] 3)).cell s1.2.2.2.2.2.2.2.2.2.2.2.1) (fun e => n11.out e.symm), (s1.2.2.2.2.2.2.2.2.2.2.2.2.alloc _).grown hgrow2 (fun k e => by have := (World.ownsRow.lt HO1.out k e).1; omega)⟩; have O3 := Lib.hid (OwnI.snoc (x := q) hown2); clear hown2 hgrow2)
          go_roundw
          case rel => exact ⟨q + 1, by omega, by go_num, by rw [HS.out]; exact O3.out, s5⟩
          case measure => simp [intOf]; omega
      · obtain rfl : q = nk := by omega
        go_wp2_with fail
        go_ret2
        exact ⟨_, rfl, hoR.base (by omega), sr.2.2.2.2.2.2.2.2.2.2.2.2⟩


end Go.Proofs.YtfohhofpfmbheaaDoor
