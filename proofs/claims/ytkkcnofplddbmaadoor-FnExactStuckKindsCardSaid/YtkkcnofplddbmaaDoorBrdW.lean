/-
  The laws' marking of copied boards: only the copy's own blocks are written, and the number handed back is not less. (What the marks are is not said here.)
-/
import Derived.Test.YtkkcnofplddbmaaDoorBrdL
import Derived.Test.YtkkcnofplddbmaaDoorMarkI
import Derived.Laws.BytesArg
namespace Go.Proofs.YtkkcnofplddbmaaDoor
open Go.RowKit

/-- Below lo, and from hi on, all that lay there is as it was. -/
def Mk (lo hi : Nat) (w w' : World) : Prop := Below lo w w' ∧ ∀ b, hi ≤ b → b < w.heap.size → w'.heap[b]? = w.heap[b]?
theorem Mk.refl (lo hi : Nat) (w : World) : Mk lo hi w w := ⟨Below.refl _ _, fun _ _ _ => rfl⟩
theorem Mk.trans {lo hi : Nat} {a b c : World} (h : Mk lo hi a b) (k : Mk lo hi b c) : Mk lo hi a c :=
  ⟨Below.trans h.1 k.1, fun n hn hs => (k.2 n hn (Nat.lt_of_lt_of_le hs h.1.size)).trans (h.2 n hn hs)⟩
theorem Mk.of_kp {lo hi : Nat} {w w' : World} (k : Kp w w') (h : lo ≤ w.heap.size) : Mk lo hi w w' := ⟨Below.mono k h, fun b _ hb => k.block b hb⟩
theorem Mk.set {lo hi : Nat} {a w : World} (h : Mk lo hi a w) {b j : Nat} (h1 : lo ≤ b) (h2 : b < hi) (u : Value) : Mk lo hi a (w.setCell ⟨b, j, none⟩ u) :=
  ⟨Below.setCell h.1 h1 u, fun n hn hs => (Below.heap_setCell w ⟨b, j, none⟩ u n (by simp only; omega)).trans (h.2 n hn hs)⟩
theorem Mk.grown {lo hi : Nat} {a w w' : World} {row : Option Nat} (h : Mk lo hi a w) (g : w.grownBy w' row) (hs : lo ≤ w.heap.size) (hr : ∀ k, row = some k → lo ≤ k ∧ k < hi) : Mk lo hi a w' :=
  ⟨Below.grown h.1 g hs (fun k e => (hr k e).1), fun n hn hz => ((let ⟨_, _, _, _, gb⟩ := g; gb) n (Nat.lt_of_lt_of_le hz h.1.size) (fun e => by have := (hr n e.symm).2; omega)).trans (h.2 n hn hz)⟩
theorem Mk.kp {lo hi : Nat} {w w' W0 : World} (h : Mk lo hi w w') (k : Kp W0 w) (hb : W0.heap.size ≤ lo) : Kp W0 w' := Below.trans k (Below.mono h.1 hb)
theorem Mk.own {lo hi base sz n : Nat} {w w' : World} {e : TypeId} {v : Value} {xs : List Value} (h : Mk lo hi w w') (o : w.ownsRow base e sz v n xs) (hb : ∀ g, v.ownBlock = some g → hi ≤ g) : w'.ownsRow base e sz v n xs := by
  obtain ⟨hl, hv⟩ := o
  refine ⟨hl, ?_⟩
  rcases hv with h0 | ⟨g, cap, cur, rfl, h1, h2, h3⟩
  · exact .inl h0
  · have hg : g < w.heap.size := (Array.getElem?_eq_some_iff.1 h2).1
    exact .inr ⟨g, cap, cur, rfl, h1, by rw [h.2 g (hb g rfl) hg]; exact h2, h3⟩

set_option maxRecDepth 100000 in
set_option maxHeartbeats 1000000 in
theorem markText_any (k : Nat) (w : World) (hk : k ≤ 1000000000000000) :
    Calls Tryd.prog 113 #[.int .i64 (k : Int)] w fun e w' => ∃ s, e = .returned (.string s) ∧ Kp w w' := by
  by_cases h0 : k = 0
  · subst h0
    go_enter Tryd.func113, Tryd.ntmps113
    go_wp2_with fail
    go_ret
    exact ⟨_, rfl, Kp.refl _⟩
  · have h1 : ¬ (k : Int) ≤ 0 := by omega
    go_enter Tryd.func113, Tryd.ntmps113
    go_wp2_with fail
    go_loopw [0, 3] (fun kk s wr => ∃ (q : Nat) (x : ByteArray), kk = .int .i64 q ∧ s = .string x ∧ q + x.size ≤ k ∧ Kp w wr) (fun kk _ _ => (intOf kk).toNat)
    case atStart => exact ⟨k, ByteArray.empty, rfl, rfl, by simp, Kp.refl _⟩
    case round =>
      obtain ⟨q, x, rfl, rfl, hq, kr⟩ := hrel
      by_cases hq0 : 0 < q
      · have hq1 : (0 : Int) < q := by omega
        have hd1 : 0 ≤ (q : Int) % 10 := by omega
        have hd2 : (q : Int) % 10 ≤ 9 := by omega
        have hconv := run_convert_bytes_arg (P := Tryd.prog) (wr.alloc (.cells #[.int .u8 (48 + (q : Int) % 10)] 5)) 137 5 Tryd.underlying137 Tryd.underlying5 wr.heap.size 0 1 1 [48 + (q : Int) % 10] rfl (fun i hi => by
          obtain rfl : i = 0 := by omega
          simp [go_sem]) 9 Tryd.underlying9
        have hsz := strOfNums_size [48 + (q : Int) % 10]
        generalize strOfNums [48 + (q : Int) % 10] = z at hconv hsz
        go_wp2_with fail
        go_roundw
        case rel => exact ⟨q / 10, _, by go_num, rfl, by simp at hsz ⊢; omega, kr.alloc _⟩
        case measure => simp [intOf]; omega
      · obtain rfl : q = 0 := by omega
        go_wp2_with fail
        go_ret
        exact ⟨_, rfl, kr⟩


theorem live_grown {w w' : World} {base g n sz : Nat} {e : TypeId} {ys : List Value} {cap : Nat} (h : w.ownsRow base e sz (.slice (some ⟨g, 0, none⟩) n cap) n ys) {row : Option Nat} (gr : w.grownBy w' row) (hne : some g ≠ row) : w'.ownsRow base e sz (.slice (some ⟨g, 0, none⟩) n cap) n ys :=
  World.ownsRow.kept h gr (.inr (fun e => hne (by rw [← e]; rfl)))
/-- What the marking of terrains needs of the terrains from the q-th on. -/
def Rest (w : World) (g q : Nat) (l : List Ter) (cs : List (Option Addr × Nat)) (ys : List Value) : Prop :=
  ∀ (j : Nat) (x : Ter) (c : Option Addr × Nat), q ≤ j → l[j]? = some x → cs[j]? = some c → ys[j * 5 + 1]? = some (.slice c.1 x.cost.length c.2) ∧ OwnI w (g + 1) (.slice c.1 x.cost.length c.2) x.cost
theorem OwnI.kp_set {w w1 : World} {base g j : Nat} {v : Value} {l : List Int} (h : OwnI w base v l) (k : Kp w w1) (hg : g < base) (u : Value) : OwnI (w1.setCell ⟨g, j, none⟩ u) base v l := by
  have h1 := h.keep k
  exact h1.far (h1.not hg) u

set_option maxRecDepth 100000 in
set_option maxHeartbeats 4000000 in
theorem markTerrainS_w (g n : Nat) (l : List Ter) (cs : List (Option Addr × Nat)) (ys : List Value) (k0 : Int) (lo hi : Nat) (w : World) (h : OwnT w g n l cs ys) (hl : l.length = n) (hc : cs.length = n) (hn : n ≤ 1048576) (hb : ∀ x ∈ l, x.cost.length ≤ 1048576) (hlo : lo ≤ g) (hg : g < hi)
    (hhi : ∀ (j : Nat) (c : Option Addr × Nat) (x b : Nat), cs[j]? = some c → (Value.slice c.1 x c.2).ownBlock = some b → b < hi) (p0 : 0 ≤ k0) (p1 : k0 ≤ 100000000000000) :
    Calls Tryd.prog 83 #[.slice (some ⟨g, 0, none⟩) n n, .int .i64 k0] w fun e w' => ∃ k', e = .returned (.int .i64 k') ∧ k0 ≤ k' ∧ k' ≤ k0 + 1048580 * (n : Int) ∧ Mk lo hi w w' := by
  have HN := Lib.hid hl
  have HC := Lib.hid hc
  have HB := Lib.hid hb
  have HHI := Lib.hid hhi
  have HAP := Lib.hid h.apart
  have R0 := Lib.hid h.row
  have S0 : Hid (Rest w g 0 l cs ys) := Lib.hid fun j x c _ hx hcj => ⟨(h.here j x c hx hcj).2.1, h.each j x c hx hcj⟩
  have hgw : g < w.heap.size := (World.ownsRow.lt h.row g rfl).2
  clear h hl hc hb hhi
  go_enter Tryd.func83, Tryd.ntmps83
  go_wp2_with fail
  go_loopw [1, 5] (fun kk i wr => ∃ (q : Nat) (k : Int) (ys : List Value), q ≤ n ∧ i = .int .i64 q ∧ kk = .int .i64 k ∧ k0 ≤ k ∧ k ≤ k0 + 1048580 * (q : Int) ∧ Hid (wr.ownsRow g 79 5 (.slice (some ⟨g, 0, none⟩) n n) n ys) ∧ Hid (Rest wr g q l cs ys) ∧ Mk lo hi w wr ∧ w.heap.size ≤ wr.heap.size) (fun _ i _ => n - (intOf i).toNat)
  case atStart => exact ⟨0, _, ys, by omega, rfl, rfl, by omega, by omega, R0, S0, Mk.refl _ _ _, Nat.le_refl _⟩
  case round =>
    clear R0 S0
    obtain ⟨q, k, zs, hq, rfl, rfl, hk0, hk1, HR, HS, mk, hz⟩ := hrel
    by_cases hlt : q < n
    · have hlt' : (q : Int) < n := by omega
      obtain ⟨x, hx⟩ : ∃ x, l[q]? = some x := ⟨l[q]'(by have := HN.out; omega), List.getElem?_eq_getElem _⟩
      obtain ⟨c, hc⟩ : ∃ c, cs[q]? = some c := ⟨cs[q]'(by have := HC.out; omega), List.getElem?_eq_getElem _⟩
      have hnc := HB.out x (List.mem_of_getElem? hx)
      have HX := Lib.hid hx
      have HCC := Lib.hid hc
      have hrq := HS.out q x c (Nat.le_refl _) hx hc
      obtain ⟨Ac, cc⟩ := c
      simp only at hrq
      have HO := Lib.hid hrq.2
      have HY := Lib.hid hrq.1
      have HZ : Hid (zs.length = n * 5) := Lib.hid HR.out.1
      have HBL : Hid (∀ b, (Value.slice Ac x.cost.length cc).ownBlock = some b → g + 1 ≤ b ∧ b < wr.heap.size ∧ b < hi) := Lib.hid fun b hb => ⟨(World.ownsRow.lt HO.out b hb).1, (World.ownsRow.lt HO.out b hb).2, HHI.out q _ _ b hc hb⟩
      obtain ⟨kn, rfl⟩ : ∃ kn : Nat, k = kn := ⟨k.toNat, by omega⟩
      generalize hcl : x.cost.length = nc at HO HY hnc HBL
      have HCL := Lib.hid hcl
      obtain ⟨⟨u0, b0⟩, f0⟩ := liveN HR.out (j := q * 5) (by omega)
      have hgr : g < wr.heap.size := by omega
      clear hx hc hrq hcl
      go_wp2_with fail
      refine (markText_any kn _ (by omega)).mono ?_
      rintro e1 w1 ⟨s, rfl, k1⟩
      have b0' := k1.cell b0
      have R1 := Lib.hid (ownsRow_keep HR.out k1)
      have f0' := (liveN R1.out (j := q * 5) (by omega)).2
      have R2 := Lib.hid (R1.out.stored (q * 5) (.string s)).1
      have O2 : Hid ((w1.setCell ⟨g, q * 5, none⟩ (.string s)).ownsRow (g + 1) 3 1 (.slice Ac nc cc) nc (cellsI x.cost)) := Lib.hid (by
        have := HO.out.kp_set k1 (g := g) (j := q * 5) (by omega) (.string s)
        unfold OwnI at this
        rw [HCL.out] at this
        exact this)
      have c1 : (w1.setCell ⟨g, q * 5, none⟩ (.string s)).cell? ⟨g, q * 5 + 1, none⟩ = some (.slice Ac nc cc) := by
        refine (R2.out.cellAt (q * 5 + 1) (by omega)).trans ?_
        rw [List.getElem?_set_ne (by omega)]
        exact HY.out
      have m1 : Mk lo hi w (w1.setCell ⟨g, q * 5, none⟩ (.string s)) := (mk.trans (Mk.of_kp k1 (by omega))).set hlo hg _
      have hz1 : wr.heap.size ≤ (w1.setCell ⟨g, q * 5, none⟩ (.string s)).heap.size := by have := k1.size; simpa using this
      clear b0 f0 R1
      go_wp2_with fail
      generalize hW : w1.setCell ⟨g, q * 5, none⟩ (.string s) = W1 at *
      refine (markIntS_own _ _ (g + 1) _ _ _ (by omega) (by omega) hnc O2.out).mono ?_
      rintro e2 w2 ⟨rfl, _, g2⟩
      have R3 := Lib.hid (live_grown R2.out g2 (fun e => by have := HBL.out g e.symm; omega))
      have m2 : Mk lo hi w w2 := m1.grown g2 (by omega) (fun b e => by have := HBL.out b e; omega)
      have hz2 : W1.heap.size ≤ w2.heap.size := g2.size
      have S2 : Hid (∀ (j : Nat) (y : Ter) (d : Option Addr × Nat), q + 1 ≤ j → l[j]? = some y → cs[j]? = some d → OwnI w2 (g + 1) (.slice d.1 y.cost.length d.2) y.cost) := Lib.hid fun j y d hj hy hd => by
        have h1 := (HS.out j y d (by omega) hy hd).2
        have h2 : OwnI W1 (g + 1) (.slice d.1 y.cost.length d.2) y.cost := by
          rw [← hW]
          exact h1.kp_set k1 (by omega) _
        refine World.ownsRow.kept h2 g2 ?_
        cases hb : (Value.slice d.1 y.cost.length d.2).ownBlock
        · exact .inl rfl
        · rename_i b
          refine .inr fun e => ?_
          exact HAP.out q j _ d (by omega) HCC.out hd nc y.cost.length b e.symm hb
      obtain ⟨⟨u2, b2⟩, f2⟩ := liveN R3.out (j := q * 5 + 2) (by omega)
      obtain ⟨⟨u3, b3⟩, f3⟩ := liveN R3.out (j := q * 5 + 3) (by omega)
      obtain ⟨⟨u4, b4⟩, f4⟩ := liveN R3.out (j := q * 5 + 4) (by omega)
      have g2s := g2
      clear g2 hW O2 R2 c1 m1 b0' f0' k1
      go_wp2_with fail
      go_roundw
      case rel =>
        refine ⟨q + 1, _, _, by omega, by go_num, rfl, by omega, by omega, Lib.hid (((R3.out.stored (q * 5 + 2) _).1.stored (q * 5 + 3) _).1.stored (q * 5 + 4) _).1, Lib.hid ?_, ((m2.set hlo hg _).set hlo hg _).set hlo hg _, by simp; omega⟩
        intro j y d hj hy hd
        have h1 := (HS.out j y d (by omega) hy hd).1
        refine ⟨?_, ?_⟩
        · rw [List.getElem?_set_ne (by omega), List.getElem?_set_ne (by omega), List.getElem?_set_ne (by omega), List.getElem?_set_ne (by omega)]
          exact h1
        · have h2 := S2.out j y d hj hy hd
          have n1 := h2.not (g := g) (by omega)
          exact ((h2.far n1 _).far n1 _).far n1 _
      case measure => simp [intOf]; omega
    · obtain rfl : q = n := by omega
      go_wp2_with fail
      go_ret
      exact ⟨_, rfl, hk0, hk1, mk⟩

end Go.Proofs.YtkkcnofplddbmaaDoor
