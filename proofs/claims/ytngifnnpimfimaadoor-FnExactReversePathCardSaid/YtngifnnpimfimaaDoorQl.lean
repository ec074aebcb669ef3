/-
  Texts of this seat in one module: BrdW, BrdX, TabS, RowC, PutI, OwnB, NearI.
-/
import Derived.Laws.BytesArg
import Derived.Test.YtngifnnpimfimaaDoorQa
import Derived.Test.YtngifnnpimfimaaDoorQb
import Derived.Test.YtngifnnpimfimaaDoorQe
import Derived.Test.YtngifnnpimfimaaDoorQf
import Derived.Test.YtngifnnpimfimaaDoorQj
import Derived.Test.YtngifnnpimfimaaDoorQk

/-
  The laws' marking of copied boards: only the copy's own blocks are written, and the number handed back is not less. (What the marks are is not said here.)
-/
namespace Go.Proofs.YtngifnnpimfimaaDoor
open Go.RowKit

set_option maxRecDepth 100000 in
set_option maxHeartbeats 1000000 in
theorem markText_any (k : Nat) (w : World) (hk : k ≤ 1000000000000000) :
    Calls Tryd.prog 109 #[.int .i64 (k : Int)] w fun e w' => ∃ s, e = .returned (.string s) ∧ Kp w w' := by
  by_cases h0 : k = 0
  · subst h0
    go_enter Tryd.func109, Tryd.ntmps109
    go_wp2_with fail
    go_ret
    exact ⟨_, rfl, Kp.refl _⟩
  · have h1 : ¬ (k : Int) ≤ 0 := by omega
    go_enter Tryd.func109, Tryd.ntmps109
    go_wp2_with fail
    go_loopw [0, 3] (fun kk s wr => ∃ (q : Nat) (x : ByteArray), kk = .int .i64 q ∧ s = .string x ∧ q + x.size ≤ k ∧ Kp w wr) (fun kk _ _ => (intOf kk).toNat)
    case atStart => exact ⟨k, ByteArray.empty, rfl, rfl, by simp, Kp.refl _⟩
    case round =>
      obtain ⟨q, x, rfl, rfl, hq, kr⟩ := hrel
      by_cases hq0 : 0 < q
      · have hq1 : (0 : Int) < q := by omega
        have hd1 : 0 ≤ (q : Int) % 10 := by omega
        have hd2 : (q : Int) % 10 ≤ 9 := by omega
        have hconv := run_convert_bytes_arg (P := Tryd.prog) (wr.alloc (.cells #[.int .u8 (48 + (q : Int) % 10)] 5)) 144 5 Tryd.underlying144 Tryd.underlying5 wr.heap.size 0 1 1 [48 + (q : Int) % 10] rfl (fun i hi => by
          obtain rfl : i = 0 := by omega
          simp [go_sem]) 9 Tryd.underlying9
        have hsz := strOfNums_size [48 + (q : Int) % 10]
        generalize strOfNums [48 + (q : Int) % 10] = z at hconv hsz
        go_wp2_with fail
        go_roundw
        case rel => exact ⟨q / 10, _, by go_num, rfl, by simp at hsz ⊢; omega, kr.alloc _⟩
        case measure => simp [intOf]; omega
      · obtain rfl : q = 0 := by omega
        go_wp2_with fail
        go_ret
        exact ⟨_, rfl, kr⟩


theorem live_grown {w w' : World} {base g n sz : Nat} {e : TypeId} {ys : List Value} {cap : Nat} (h : w.ownsRow base e sz (.slice (some ⟨g, 0, none⟩) n cap) n ys) {row : Option Nat} (gr : w.grownBy w' row) (hne : some g ≠ row) : w'.ownsRow base e sz (.slice (some ⟨g, 0, none⟩) n cap) n ys :=
  World.ownsRow.kept h gr (.inr (fun e => hne (by rw [← e]; rfl)))
/-- What the marking of terrains needs of the terrains from the q-th on. -/
def Rest (w : World) (g q : Nat) (l : List Ter) (cs : List (Option Addr × Nat)) (ys : List Value) : Prop :=
  ∀ (j : Nat) (x : Ter) (c : Option Addr × Nat), q ≤ j → l[j]? = some x → cs[j]? = some c → ys[j * 5 + 1]? = some (.slice c.1 x.cost.length c.2) ∧ OwnI w (g + 1) (.slice c.1 x.cost.length c.2) x.cost
theorem OwnI.kp_set {w w1 : World} {base g j : Nat} {v : Value} {l : List Int} (h : OwnI w base v l) (k : Kp w w1) (hg : g < base) (u : Value) : OwnI (w1.setCell ⟨g, j, none⟩ u) base v l := by
  have h1 := h.keep k
  exact h1.far (h1.not hg) u

set_option maxRecDepth 100000 in
set_option maxHeartbeats 4000000 in
theorem markTerrainS_w (g n : Nat) (l : List Ter) (cs : List (Option Addr × Nat)) (ys : List Value) (k0 : Int) (lo hi : Nat) (w : World) (h : OwnT w g n l cs ys) (hl : l.length = n) (hc : cs.length = n) (hn : n ≤ 1048576) (hb : ∀ x ∈ l, x.cost.length ≤ 1048576) (hlo : lo ≤ g) (hg : g < hi)
    (hhi : ∀ (j : Nat) (c : Option Addr × Nat) (x b : Nat), cs[j]? = some c → (Value.slice c.1 x c.2).ownBlock = some b → b < hi) (p0 : 0 ≤ k0) (p1 : k0 ≤ 100000000000000) :
    Calls Tryd.prog 82 #[.slice (some ⟨g, 0, none⟩) n n, .int .i64 k0] w fun e w' => ∃ k', e = .returned (.int .i64 k') ∧ k0 ≤ k' ∧ k' ≤ k0 + 1048580 * (n : Int) ∧ Mk lo hi w w' := by
  have HN := Lib.hid hl
  have HC := Lib.hid hc
  have HB := Lib.hid hb
  have HHI := Lib.hid hhi
  have HAP := Lib.hid h.apart
  have R0 := Lib.hid h.row
  have S0 : Hid (Rest w g 0 l cs ys) := Lib.hid fun j x c _ hx hcj => ⟨(h.here j x c hx hcj).2.1, h.each j x c hx hcj⟩
  have hgw : g < w.heap.size := (World.ownsRow.lt h.row g rfl).2
  clear h hl hc hb hhi
  go_enter Tryd.func82, Tryd.ntmps82
  go_wp2_with fail
  go_loopw [1, 5] (fun kk i wr => ∃ (q : Nat) (k : Int) (ys : List Value), q ≤ n ∧ i = .int .i64 q ∧ kk = .int .i64 k ∧ k0 ≤ k ∧ k ≤ k0 + 1048580 * (q : Int) ∧ Hid (wr.ownsRow g 120 5 (.slice (some ⟨g, 0, none⟩) n n) n ys) ∧ Hid (Rest wr g q l cs ys) ∧ Mk lo hi w wr ∧ w.heap.size ≤ wr.heap.size) (fun _ i _ => n - (intOf i).toNat)
  case atStart => exact ⟨0, _, ys, by omega, rfl, rfl, by omega, by omega, R0, S0, Mk.refl _ _ _, Nat.le_refl _⟩
  case round =>
    clear R0 S0
    obtain ⟨q, k, zs, hq, rfl, rfl, hk0, hk1, HR, HS, mk, hz⟩ := hrel
    by_cases hlt : q < n
    · have hlt' : (q : Int) < n := by omega
      obtain ⟨x, hx⟩ : ∃ x, l[q]? = some x := ⟨l[q]'(by have := HN.out; omega), List.getElem?_eq_getElem _⟩
      obtain ⟨c, hc⟩ : ∃ c, cs[q]? = some c := ⟨cs[q]'(by have := HC.out; omega), List.getElem?_eq_getElem _⟩
      have hnc := HB.out x (List.mem_of_getElem? hx)
      have HX := Lib.hid hx
      have HCC := Lib.hid hc
      have hrq := HS.out q x c (Nat.le_refl _) hx hc
      obtain ⟨Ac, cc⟩ := c
      simp only at hrq
      have HO := Lib.hid hrq.2
      have HY := Lib.hid hrq.1
      have HZ : Hid (zs.length = n * 5) := Lib.hid HR.out.1
      have HBL : Hid (∀ b, (Value.slice Ac x.cost.length cc).ownBlock = some b → g + 1 ≤ b ∧ b < wr.heap.size ∧ b < hi) := Lib.hid fun b hb => ⟨(World.ownsRow.lt HO.out b hb).1, (World.ownsRow.lt HO.out b hb).2, HHI.out q _ _ b hc hb⟩
      obtain ⟨kn, rfl⟩ : ∃ kn : Nat, k = kn := ⟨k.toNat, by omega⟩
      generalize hcl : x.cost.length = nc at HO HY hnc HBL
      have HCL := Lib.hid hcl
      obtain ⟨⟨u0, b0⟩, f0⟩ := liveN HR.out (j := q * 5) (by omega)
      have hgr : g < wr.heap.size := by omega
      clear hx hc hrq hcl
      go_wp2_with fail
      refine (markText_any kn _ (by omega)).mono ?_
      rintro e1 w1 ⟨s, rfl, k1⟩
      have b0' := k1.cell b0
      have R1 := Lib.hid (ownsRow_keep HR.out k1)
      have f0' := (liveN R1.out (j := q * 5) (by omega)).2
      have R2 := Lib.hid (R1.out.stored (q * 5) (.string s)).1
      have O2 : Hid ((w1.setCell ⟨g, q * 5, none⟩ (.string s)).ownsRow (g + 1) 3 1 (.slice Ac nc cc) nc (cellsI x.cost)) := Lib.hid (by
        have := HO.out.kp_set k1 (g := g) (j := q * 5) (by omega) (.string s)
        unfold OwnI at this
        rw [HCL.out] at this
        exact this)
      have c1 : (w1.setCell ⟨g, q * 5, none⟩ (.string s)).cell? ⟨g, q * 5 + 1, none⟩ = some (.slice Ac nc cc) := by
        refine (R2.out.cellAt (q * 5 + 1) (by omega)).trans ?_
        rw [List.getElem?_set_ne (by omega)]
        exact HY.out
      have m1 : Mk lo hi w (w1.setCell ⟨g, q * 5, none⟩ (.string s)) := (mk.trans (Mk.of_kp k1 (by omega))).set hlo hg _
      have hz1 : wr.heap.size ≤ (w1.setCell ⟨g, q * 5, none⟩ (.string s)).heap.size := by have := k1.size; simpa using this
      clear b0 f0 R1
      go_wp2_with fail
      generalize hW : w1.setCell ⟨g, q * 5, none⟩ (.string s) = W1 at *
      refine (markIntS_own _ _ (g + 1) _ _ _ (by omega) (by omega) hnc O2.out).mono ?_
      rintro e2 w2 ⟨rfl, _, g2⟩
      have R3 := Lib.hid (live_grown R2.out g2 (fun e => by have := HBL.out g e.symm; omega))
      have m2 : Mk lo hi w w2 := m1.grown g2 (by omega) (fun b e => by have := HBL.out b e; omega)
      have hz2 : W1.heap.size ≤ w2.heap.size := g2.size
      have S2 : Hid (∀ (j : Nat) (y : Ter) (d : Option Addr × Nat), q + 1 ≤ j → l[j]? = some y → cs[j]? = some d → OwnI w2 (g + 1) (.slice d.1 y.cost.length d.2) y.cost) := Lib.hid fun j y d hj hy hd => by
        have h1 := (HS.out j y d (by omega) hy hd).2
        have h2 : OwnI W1 (g + 1) (.slice d.1 y.cost.length d.2) y.cost := by
          rw [← hW]
          exact h1.kp_set k1 (by omega) _
        refine World.ownsRow.kept h2 g2 ?_
        cases hb : (Value.slice d.1 y.cost.length d.2).ownBlock
        · exact .inl rfl
        · rename_i b
          refine .inr fun e => ?_
          exact HAP.out q j _ d (by omega) HCC.out hd nc y.cost.length b e.symm hb
      obtain ⟨⟨u2, b2⟩, f2⟩ := liveN R3.out (j := q * 5 + 2) (by omega)
      obtain ⟨⟨u3, b3⟩, f3⟩ := liveN R3.out (j := q * 5 + 3) (by omega)
      obtain ⟨⟨u4, b4⟩, f4⟩ := liveN R3.out (j := q * 5 + 4) (by omega)
      have g2s := g2
      clear g2 hW O2 R2 c1 m1 b0' f0' k1
      go_wp2_with fail
      go_roundw
      case rel =>
        refine ⟨q + 1, _, _, by omega, by go_num, rfl, by omega, by omega, Lib.hid (((R3.out.stored (q * 5 + 2) _).1.stored (q * 5 + 3) _).1.stored (q * 5 + 4) _).1, Lib.hid ?_, ((m2.set hlo hg _).set hlo hg _).set hlo hg _, by simp; omega⟩
        intro j y d hj hy hd
        have h1 := (HS.out j y d (by omega) hy hd).1
        refine ⟨?_, ?_⟩
        · rw [List.getElem?_set_ne (by omega), List.getElem?_set_ne (by omega), List.getElem?_set_ne (by omega), List.getElem?_set_ne (by omega)]
          exact h1
        · have h2 := S2.out j y d hj hy hd
          have n1 := h2.not (g := g) (by omega)
          exact ((h2.far n1 _).far n1 _).far n1 _
      case measure => simp [intOf]; omega
    · obtain rfl : q = n := by omega
      go_wp2_with fail
      go_ret
      exact ⟨_, rfl, hk0, hk1, mk⟩

end Go.Proofs.YtngifnnpimfimaaDoor

/-
  The laws' marking of copied kinds, rules, maps and boards: only the copy's own blocks are written, and the number handed back is not less.
-/
namespace Go.Proofs.YtngifnnpimfimaaDoor
open Go.RowKit

set_option maxRecDepth 100000 in
set_option maxHeartbeats 4000000 in
theorem markKindS_w (g n : Nat) (ys : List Value) (k0 : Int) (lo hi : Nat) (w : World) (h : w.ownsRow g 124 6 (.slice (some ⟨g, 0, none⟩) n n) n ys) (hn : n ≤ 1048576) (hlo : lo ≤ g) (hg : g < hi) (p0 : 0 ≤ k0) (p1 : k0 ≤ 200000000000000) :
    Calls Tryd.prog 83 #[.slice (some ⟨g, 0, none⟩) n n, .int .i64 k0] w fun e w' => ∃ k', e = .returned (.int .i64 k') ∧ k0 ≤ k' ∧ k' ≤ k0 + 6 * (n : Int) ∧ Mk lo hi w w' := by
  have R0 := Lib.hid h
  have hgw : g < w.heap.size := (World.ownsRow.lt h g rfl).2
  clear h
  go_enter Tryd.func83, Tryd.ntmps83
  go_wp2_with fail
  go_loopw [1, 5] (fun kk i wr => ∃ (q : Nat) (k : Int) (ys : List Value), q ≤ n ∧ i = .int .i64 q ∧ kk = .int .i64 k ∧ k0 ≤ k ∧ k ≤ k0 + 6 * (q : Int) ∧ Hid (wr.ownsRow g 124 6 (.slice (some ⟨g, 0, none⟩) n n) n ys) ∧ Mk lo hi w wr ∧ w.heap.size ≤ wr.heap.size) (fun _ i _ => n - (intOf i).toNat)
  case atStart => exact ⟨0, _, ys, by omega, rfl, rfl, by omega, by omega, R0, Mk.refl _ _ _, Nat.le_refl _⟩
  case round =>
    clear R0
    obtain ⟨q, k, zs, hq, rfl, rfl, hk0, hk1, HR, mk, hz⟩ := hrel
    by_cases hlt : q < n
    · have hlt' : (q : Int) < n := by omega
      obtain ⟨kn, rfl⟩ : ∃ kn : Nat, k = kn := ⟨k.toNat, by omega⟩
      obtain ⟨⟨u0, b0⟩, f0⟩ := liveN HR.out (j := q * 6) (by omega)
      have hgr : g < wr.heap.size := by omega
      go_wp2_with fail
      refine (markText_any kn _ (by omega)).mono ?_
      rintro e1 w1 ⟨s, rfl, k1⟩
      have R1 := Lib.hid (ownsRow_keep HR.out k1)
      obtain ⟨⟨t0, c0⟩, d0⟩ := liveN R1.out (j := q * 6) (by omega)
      obtain ⟨⟨t1, c1⟩, d1⟩ := liveN R1.out (j := q * 6 + 1) (by omega)
      obtain ⟨⟨t2, c2⟩, d2⟩ := liveN R1.out (j := q * 6 + 2) (by omega)
      obtain ⟨⟨t3, c3⟩, d3⟩ := liveN R1.out (j := q * 6 + 3) (by omega)
      obtain ⟨⟨t4, c4⟩, d4⟩ := liveN R1.out (j := q * 6 + 4) (by omega)
      obtain ⟨⟨t5, c5⟩, d5⟩ := liveN R1.out (j := q * 6 + 5) (by omega)
      have m1 : Mk lo hi w w1 := mk.trans (Mk.of_kp k1 (by omega))
      have hz1 : wr.heap.size ≤ w1.heap.size := k1.size
      clear b0 f0 k1
      go_wp2_with fail
      go_roundw
      case rel =>
        exact ⟨q + 1, _, _, by omega, by go_num, rfl, by omega, by omega, Lib.hid ((((((R1.out.stored (q * 6) _).1.stored (q * 6 + 1) _).1.stored (q * 6 + 2) _).1.stored (q * 6 + 3) _).1.stored (q * 6 + 4) _).1.stored (q * 6 + 5) _).1, (((((m1.set hlo hg _).set hlo hg _).set hlo hg _).set hlo hg _).set hlo hg _).set hlo hg _, by simp; omega⟩
      case measure => simp [intOf]; omega
    · obtain rfl : q = n := by omega
      go_wp2_with fail
      go_ret
      exact ⟨_, rfl, hk0, hk1, mk⟩

theorem Mk.row {lo hi base g n sz : Nat} {w w' : World} {e : TypeId} {cap : Nat} {xs : List Value} (h : Mk lo hi w w') (o : w.ownsRow base e sz (.slice (some ⟨g, 0, none⟩) n cap) n xs) (hb : hi ≤ g) : w'.ownsRow base e sz (.slice (some ⟨g, 0, none⟩) n cap) n xs :=
  h.own o (fun b e => by
    have : g = b := by simpa [Value.ownBlock] using e
    omega)
theorem Mk.cell_hi {lo hi : Nat} {w w' : World} (h : Mk lo hi w w') {b o : Nat} {v : Value} (hb : hi ≤ b) (hc : w.cell? ⟨b, o, none⟩ = some v) : w'.cell? ⟨b, o, none⟩ = some v :=
  (World.cell?_of_block (w := w) (h.2 b hb (cell_lt hc))).trans hc
theorem Mk.wide {lo hi hi' : Nat} {w w' : World} (h : Mk lo hi w w') (hh : hi ≤ hi') : Mk lo hi' w w' := ⟨h.1, fun b hb hs => h.2 b (by omega) hs⟩
theorem OwnR.hi {w : World} {base g1 g2 nt nk : Nat} {l : List Ter} {m : List Knd} {cs : List (Option Addr × Nat)} {ys zs : List Value} (h : OwnR w base g1 g2 nt nk l m cs ys zs) : ∀ (j : Nat) (c : Option Addr × Nat) (x b : Nat), cs[j]? = some c → (Value.slice c.1 x c.2).ownBlock = some b → b < g2 :=
  fun j c x b hc hb => (h.mid j c x b hc hb).2

set_option maxRecDepth 100000 in
set_option maxHeartbeats 4000000 in
theorem markRules_w (base g1 g2 nt nk : Nat) (l : List Ter) (m : List Knd) (cs : List (Option Addr × Nat)) (ys zs : List Value) (a b c d e k0 : Int) (w : World) (h : OwnR w base g1 g2 nt nk l m cs ys zs) (hb1 : nt ≤ 1048576) (hb2 : nk ≤ 1048576) (hb : ∀ x ∈ l, x.cost.length ≤ 1048576) (p0 : 0 ≤ k0) (p1 : k0 ≤ 100000000000000) :
    Calls Tryd.prog 50 #[rv (.slice (some ⟨g1, 0, none⟩) nt nt) (.slice (some ⟨g2, 0, none⟩) nk nk) a b c d e, .int .i64 k0] w fun e' w' => ∃ k', e' = .returned (.int .i64 k') ∧ k0 ≤ k' ∧ k' ≤ k0 + 2000000000000 ∧ Mk base (g2 + 1) w w' := by
  have KA : Kp w (w.alloc (.cells #[.slice (some ⟨g1, 0, none⟩) nt nt, .slice (some ⟨g2, 0, none⟩) nk nk, .int .i64 a, .int .i64 b, .int .i64 c, .int .i64 d, .int .i64 e] 39)) := (Kp.refl w).alloc _
  have q1 : (w.alloc (.cells #[.slice (some ⟨g1, 0, none⟩) nt nt, .slice (some ⟨g2, 0, none⟩) nk nk, .int .i64 a, .int .i64 b, .int .i64 c, .int .i64 d, .int .i64 e] 39)).cell? ⟨w.heap.size, 1, none⟩ = some (.slice (some ⟨g2, 0, none⟩) nk nk) := by simp [go_sem]
  have HO := Lib.hid (h.keep KA)
  have HB := Lib.hid hb
  have x1 := h.b
  have x2 := h.g
  have x3 := h.z
  clear h hb
  go_enter Tryd.func50, Tryd.ntmps50
  go_wp2_with fail
  refine (markTerrainS_w g1 nt l cs ys k0 base g2 _ HO.out.t HO.out.lt HO.out.lc hb1 HB.out x1 x2 HO.out.hi p0 p1).mono ?_
  rintro e1 w1 ⟨k1, rfl, y1, y2, m1⟩
  have q2 := m1.cell_hi (by omega) q1
  have O1 := Lib.hid (m1.row HO.out.k.row (Nat.le_refl _))
  have M1 : Mk base (g2 + 1) w w1 := (Mk.of_kp KA (by omega)).trans (m1.wide (by omega))
  clear q1 m1
  go_wp2_with fail
  refine (markKindS_w g2 nk zs _ base (g2 + 1) _ O1.out hb2 (by omega) (by omega) (by omega) (by omega)).mono ?_
  rintro e2 w2 ⟨k2, rfl, z1, z2, m2⟩
  go_wp2_with fail
  go_ret
  exact ⟨_, rfl, by omega, by omega, M1.trans m2⟩

set_option maxRecDepth 100000 in
set_option maxHeartbeats 4000000 in
theorem markMap_w (W H : Int) (t r d : Value) (lt lr ld : List Int) (nt nr nd base hi : Nat) (k0 : Int) (w : World) (ho : Own3 w base t r d lt lr ld) (h1 : lt.length = nt) (h2 : lr.length = nr) (h3 : ld.length = nd) (b1 : nt ≤ 1048576) (b2 : nr ≤ 1048576) (b3 : nd ≤ 1048576) (hs : base ≤ w.heap.size)
    (hi1 : ∀ g, t.ownBlock = some g → g < hi) (hi2 : ∀ g, r.ownBlock = some g → g < hi) (hi3 : ∀ g, d.ownBlock = some g → g < hi) (p0 : 0 ≤ k0) (p1 : k0 ≤ 500000000000000) :
    Calls Tryd.prog 51 #[mp W H t r d, .int .i64 k0] w fun e w' => e = .returned (.int .i64 (k0 + nt + nr + nd)) ∧ Mk base hi w w' := by
  have o1 : w.ownsRow base 3 1 t nt (cellsI lt) := by rw [← h1]; exact ho.ot
  have o2 : w.ownsRow base 3 1 r nr (cellsI lr) := by rw [← h2]; exact ho.or
  have o3 : w.ownsRow base 3 1 d nd (cellsI ld) := by rw [← h3]; exact ho.od
  have n1 := Lib.hid (ho.ot.block' w.heap.size (Nat.le_refl _))
  have n2 := Lib.hid (ho.or.block' w.heap.size (Nat.le_refl _))
  have AP := Lib.hid (And.intro ho.tr (And.intro ho.td ho.rd))
  have s0 := new5 w (.int .i64 W) (.int .i64 H) t r d 40
  have k0' := s0.2.2.2.2.2
  have O1 := Lib.hid (ownsRow_keep o1 k0')
  have O2 := Lib.hid (ownsRow_keep o2 k0')
  have O3 := Lib.hid (ownsRow_keep o3 k0')
  have I1 : Hid (∀ g, t.ownBlock = some g → base ≤ g ∧ g < hi) := Lib.hid fun g e => ⟨(World.ownsRow.lt o1 g e).1, hi1 g e⟩
  have I2 : Hid (∀ g, r.ownBlock = some g → base ≤ g ∧ g < hi) := Lib.hid fun g e => ⟨(World.ownsRow.lt o2 g e).1, hi2 g e⟩
  have I3 : Hid (∀ g, d.ownBlock = some g → base ≤ g ∧ g < hi) := Lib.hid fun g e => ⟨(World.ownsRow.lt o3 g e).1, hi3 g e⟩
  have m0 : Mk base hi w _ := Mk.of_kp k0' hs
  have hz0 : w.heap.size ≤ _ := k0'.size
  clear ho h1 h2 h3 o1 o2 o3 k0' hi1 hi2 hi3
  go_enter Tryd.func51, Tryd.ntmps51
  go_wp2_with fail
  refine (markIntS_own _ _ base _ _ _ (by omega) (by omega) b1 O1.out).mono ?_
  rintro e1 wa ⟨rfl, oa, ga⟩
  have c3 := ga.cell s0.2.2.2.1 (fun e => n1.out e.symm)
  have c4 := ga.cell s0.2.2.2.2.1 (fun e => n1.out e.symm)
  have P2 := Lib.hid (World.ownsRow.kept O2.out ga (apart_ne AP.out.1))
  have P3 := Lib.hid (World.ownsRow.kept O3.out ga (apart_ne AP.out.2.1))
  have ma := m0.grown ga (by omega) I1.out
  have za := ga.size
  clear oa ga s0 O1 O2 O3 m0
  go_wp2_with fail
  refine (markIntS_own _ _ base _ _ _ (by omega) (by omega) b2 P2.out).mono ?_
  rintro e2 wb ⟨rfl, ob, gb⟩
  have d4 := gb.cell c4 (fun e => n2.out e.symm)
  have Q3 := Lib.hid (World.ownsRow.kept P3.out gb (apart_ne AP.out.2.2))
  have mb := ma.grown gb (by omega) I2.out
  have zb := gb.size
  clear ob gb c3 c4 P2 P3 ma
  go_wp2_with fail
  refine (markIntS_own _ _ base _ _ _ (by omega) (by omega) b3 Q3.out).mono ?_
  rintro e3 wc ⟨rfl, oc, gc⟩
  have mc := mb.grown gc (by omega) I3.out
  clear oc gc d4 Q3 mb
  go_wp2_with fail
  go_ret
  exact ⟨rfl, mc⟩

theorem Own3.marked {w w' : World} {lo hi base : Nat} {t r d : Value} {lt lr ld : List Int} (h : Own3 w base t r d lt lr ld) (m : Mk lo hi w w') (hb : hi ≤ base) : Own3 w' base t r d lt lr ld :=
  ⟨m.own h.ot (fun g e => Nat.le_trans hb (World.ownsRow.lt h.ot g e).1), m.own h.or (fun g e => Nat.le_trans hb (World.ownsRow.lt h.or g e).1), m.own h.od (fun g e => Nat.le_trans hb (World.ownsRow.lt h.od g e).1), h.tr, h.td, h.rd⟩

set_option maxRecDepth 100000 in
set_option maxHeartbeats 4000000 in
theorem markBoard_u (base g1 g2 nt nk : Nat) (l : List Ter) (m : List Knd) (cs : List (Option Addr × Nat)) (ys zs : List Value) (a b c d e W H k0 : Int) (x r y : Value) (lt lr ld : List Int) (w : World) (h : OwnBrd w base g1 g2 nt nk l m cs ys zs x r y lt lr ld) (hb1 : nt ≤ 1048576) (hb2 : nk ≤ 1048576) (hb : ∀ x ∈ l, x.cost.length ≤ 1048576) (hm : mapSm lt lr ld) (hbs : base ≤ w.heap.size) (hi : Nat) (_hh : hi ≤ w.heap.size) (hg : g2 < hi) (i1 : ∀ g, x.ownBlock = some g → g < hi) (i2 : ∀ g, r.ownBlock = some g → g < hi) (i3 : ∀ g, y.ownBlock = some g → g < hi) (p0 : 0 ≤ k0) (p1 : k0 ≤ 100000000000000) :
    Calls Tryd.prog 20 #[bv (.slice (some ⟨g1, 0, none⟩) nt nt) (.slice (some ⟨g2, 0, none⟩) nk nk) a b c d e W H x r y, .int .i64 k0] w fun e' w' => ∃ k', e' = .returned (.int .i64 k') ∧ k0 ≤ k' ∧ k' ≤ k0 + 3000000000000 ∧ Mk base hi w w' := by
  have KA : Kp w (w.alloc (.cells #[.slice (some ⟨g1, 0, none⟩) nt nt, .slice (some ⟨g2, 0, none⟩) nk nk, .int .i64 a, .int .i64 b, .int .i64 c, .int .i64 d, .int .i64 e, .int .i64 W, .int .i64 H, x, r, y] 42)) := (Kp.refl w).alloc _
  have s0 : ce12 (w.alloc (.cells #[.slice (some ⟨g1, 0, none⟩) nt nt, .slice (some ⟨g2, 0, none⟩) nk nk, .int .i64 a, .int .i64 b, .int .i64 c, .int .i64 d, .int .i64 e, .int .i64 W, .int .i64 H, x, r, y] 42)) (w.heap.size) (.slice (some ⟨g1, 0, none⟩) nt nt) (.slice (some ⟨g2, 0, none⟩) nk nk) (.int .i64 a) (.int .i64 b) (.int .i64 c) (.int .i64 d) (.int .i64 e) (.int .i64 W) (.int .i64 H) (x) (r) (y) := ⟨by simp [go_sem], by simp [go_sem], by simp [go_sem], by simp [go_sem], by simp [go_sem], by simp [go_sem], by simp [go_sem], by simp [go_sem], by simp [go_sem], by simp [go_sem], by simp [go_sem], by simp [go_sem]⟩
  have HO := Lib.hid (h.keep KA)
  have HB := Lib.hid hb
  have HM := Lib.hid hm
  have x1 := h.R.b
  have x2 := h.R.g
  have x3 := h.R.z
  have I1 := Lib.hid i1
  have I2 := Lib.hid i2
  have I3 := Lib.hid i3
  have hzA : w.heap.size ≤ _ := KA.size
  clear h hb hm i1 i2 i3
  go_enter Tryd.func20, Tryd.ntmps20
  go_wp2_with fail
  refine (markRules_w base g1 g2 nt nk l m cs ys zs a b c d e k0 _ HO.out.R hb1 hb2 HB.out p0 p1).mono ?_
  rintro e1 w1 ⟨k1, rfl, y1, y2, m1⟩
  have s1 : ce12 w1 (w.heap.size) (.slice (some ⟨g1, 0, none⟩) nt nt) (.slice (some ⟨g2, 0, none⟩) nk nk) (.int .i64 a) (.int .i64 b) (.int .i64 c) (.int .i64 d) (.int .i64 e) (.int .i64 W) (.int .i64 H) (x) (r) (y) := ⟨m1.cell_hi (by omega) s0.1, m1.cell_hi (by omega) s0.2.1, m1.cell_hi (by omega) s0.2.2.1, m1.cell_hi (by omega) s0.2.2.2.1, m1.cell_hi (by omega) s0.2.2.2.2.1, m1.cell_hi (by omega) s0.2.2.2.2.2.1, m1.cell_hi (by omega) s0.2.2.2.2.2.2.1, m1.cell_hi (by omega) s0.2.2.2.2.2.2.2.1, m1.cell_hi (by omega) s0.2.2.2.2.2.2.2.2.1, m1.cell_hi (by omega) s0.2.2.2.2.2.2.2.2.2.1, m1.cell_hi (by omega) s0.2.2.2.2.2.2.2.2.2.2.1, m1.cell_hi (by omega) s0.2.2.2.2.2.2.2.2.2.2.2⟩
  have O1 := Lib.hid (HO.out.M.marked m1 (Nat.le_refl _))
  have M1 : Mk base hi w w1 := (Mk.of_kp KA hbs).trans (m1.wide (by omega))
  have hz1 := m1.1.size
  clear s0 m1
  go_wp2_with fail
  refine (markMap_w W H x r y lt lr ld _ _ _ (g2 + 1) hi k1 _ O1.out rfl rfl rfl HM.out.1 HM.out.2.1 HM.out.2.2 (by omega) I1.out I2.out I3.out (by omega) (by omega)).mono ?_
  rintro e2 w2 ⟨rfl, m2⟩
  go_wp2_with fail
  go_ret
  exact ⟨_, rfl, by omega, by have h1 := HM.out.1; have h2 := HM.out.2.1; have h3 := HM.out.2.2; omega, M1.trans ⟨Below.mono m2.1 (by omega), m2.2⟩⟩
theorem markBoard_w (base g1 g2 nt nk : Nat) (l : List Ter) (m : List Knd) (cs : List (Option Addr × Nat)) (ys zs : List Value) (a b c d e W H k0 : Int) (x r y : Value) (lt lr ld : List Int) (w : World) (h : OwnBrd w base g1 g2 nt nk l m cs ys zs x r y lt lr ld) (hb1 : nt ≤ 1048576) (hb2 : nk ≤ 1048576) (hb : ∀ x ∈ l, x.cost.length ≤ 1048576) (hm : mapSm lt lr ld) (hbs : base ≤ w.heap.size) (hi : Nat) (_hh : hi ≤ w.heap.size) (hg : g2 < hi) (i1 : ∀ g, x.ownBlock = some g → g < hi) (i2 : ∀ g, r.ownBlock = some g → g < hi) (i3 : ∀ g, y.ownBlock = some g → g < hi) (p0 : 0 ≤ k0) (p1 : k0 ≤ 100000000000000) :
    Calls Tryd.prog 20 #[bv (.slice (some ⟨g1, 0, none⟩) nt nt) (.slice (some ⟨g2, 0, none⟩) nk nk) a b c d e W H x r y, .int .i64 k0] w fun e' w' => ∃ k', e' = .returned (.int .i64 k') ∧ k0 ≤ k' ∧ Mk base hi w w' :=
  (markBoard_u base g1 g2 nt nk l m cs ys zs a b c d e W H k0 x r y lt lr ld w h hb1 hb2 hb hm hbs hi _hh hg i1 i2 i3 p0 p1).mono fun _ _ ⟨k', h1, h2, _, h4⟩ => ⟨k', h1, h2, h4⟩

end Go.Proofs.YtngifnnpimfimaaDoor

/-
  What the rows' lists say of the ranges and of the table of directions, cell by cell; a world for the witness in which they lie.
-/
namespace Go.Proofs.YtngifnnpimfimaaDoor
open Go.ChangeShapes Go.WideShapes Go.ChangeAt Go.RowKit Go.Joins

theorem terrainsG : Tryd.prog.globalNamed "loop.example/g00886/impl.terrainsSpan" = some 2 := by kernel_rfl
theorem terrainsTy : (Tryd.prog.globals[2]?).map (·.type) = some 62 := by kernel_rfl
theorem costG : Tryd.prog.globalNamed "loop.example/g00886/impl.costSpan" = some 9 := by kernel_rfl
theorem costTy : (Tryd.prog.globals[9]?).map (·.type) = some 62 := by kernel_rfl
theorem shiftG : Tryd.prog.globalNamed "loop.example/g00886/impl.shiftSpan" = some 10 := by kernel_rfl
theorem shiftTy : (Tryd.prog.globals[10]?).map (·.type) = some 62 := by kernel_rfl
theorem heightG : Tryd.prog.globalNamed "loop.example/g00886/impl.heightSpan" = some 11 := by kernel_rfl
theorem heightTy : (Tryd.prog.globals[11]?).map (·.type) = some 62 := by kernel_rfl
theorem kindsG : Tryd.prog.globalNamed "loop.example/g00886/impl.kindsSpan" = some 3 := by kernel_rfl
theorem kindsTy : (Tryd.prog.globals[3]?).map (·.type) = some 62 := by kernel_rfl
theorem strengthG : Tryd.prog.globalNamed "loop.example/g00886/impl.strengthSpan" = some 12 := by kernel_rfl
theorem strengthTy : (Tryd.prog.globals[12]?).map (·.type) = some 62 := by kernel_rfl
theorem movesG : Tryd.prog.globalNamed "loop.example/g00886/impl.movesSpan" = some 13 := by kernel_rfl
theorem movesTy : (Tryd.prog.globals[13]?).map (·.type) = some 62 := by kernel_rfl
theorem stepsG : Tryd.prog.globalNamed "loop.example/g00886/impl.stepsSpan" = some 14 := by kernel_rfl
theorem stepsTy : (Tryd.prog.globals[14]?).map (·.type) = some 62 := by kernel_rfl
theorem viewG : Tryd.prog.globalNamed "loop.example/g00886/impl.viewSpan" = some 15 := by kernel_rfl
theorem viewTy : (Tryd.prog.globals[15]?).map (·.type) = some 62 := by kernel_rfl
theorem stackG : Tryd.prog.globalNamed "loop.example/g00886/impl.stackSpan" = some 4 := by kernel_rfl
theorem stackTy : (Tryd.prog.globals[4]?).map (·.type) = some 62 := by kernel_rfl
theorem riverG : Tryd.prog.globalNamed "loop.example/g00886/impl.riverSpan" = some 5 := by kernel_rfl
theorem riverTy : (Tryd.prog.globals[5]?).map (·.type) = some 62 := by kernel_rfl
theorem roadG : Tryd.prog.globalNamed "loop.example/g00886/impl.roadSpan" = some 6 := by kernel_rfl
theorem roadTy : (Tryd.prog.globals[6]?).map (·.type) = some 62 := by kernel_rfl
theorem supplyG : Tryd.prog.globalNamed "loop.example/g00886/impl.supplySpan" = some 7 := by kernel_rfl
theorem supplyTy : (Tryd.prog.globals[7]?).map (·.type) = some 62 := by kernel_rfl
theorem turnsG : Tryd.prog.globalNamed "loop.example/g00886/impl.turnsSpan" = some 8 := by kernel_rfl
theorem turnsTy : (Tryd.prog.globals[8]?).map (·.type) = some 62 := by kernel_rfl

theorem spans14 {W : World} (h : laidMetH Tryd.prog [("loop.example/g00886/impl.terrainsSpan", Rows.laid_loop_example_g00886_impl_terrainsSpan), ("loop.example/g00886/impl.costSpan", Rows.laid_loop_example_g00886_impl_costSpan), ("loop.example/g00886/impl.shiftSpan", Rows.laid_loop_example_g00886_impl_shiftSpan), ("loop.example/g00886/impl.heightSpan", Rows.laid_loop_example_g00886_impl_heightSpan), ("loop.example/g00886/impl.kindsSpan", Rows.laid_loop_example_g00886_impl_kindsSpan), ("loop.example/g00886/impl.strengthSpan", Rows.laid_loop_example_g00886_impl_strengthSpan), ("loop.example/g00886/impl.movesSpan", Rows.laid_loop_example_g00886_impl_movesSpan), ("loop.example/g00886/impl.stepsSpan", Rows.laid_loop_example_g00886_impl_stepsSpan), ("loop.example/g00886/impl.viewSpan", Rows.laid_loop_example_g00886_impl_viewSpan), ("loop.example/g00886/impl.stackSpan", Rows.laid_loop_example_g00886_impl_stackSpan), ("loop.example/g00886/impl.riverSpan", Rows.laid_loop_example_g00886_impl_riverSpan), ("loop.example/g00886/impl.roadSpan", Rows.laid_loop_example_g00886_impl_roadSpan), ("loop.example/g00886/impl.supplySpan", Rows.laid_loop_example_g00886_impl_supplySpan), ("loop.example/g00886/impl.turnsSpan", Rows.laid_loop_example_g00886_impl_turnsSpan)] W) : Spans W := by
  have h' : laidMet Tryd.prog [("loop.example/g00886/impl.terrainsSpan", Rows.laid_loop_example_g00886_impl_terrainsSpan), ("loop.example/g00886/impl.costSpan", Rows.laid_loop_example_g00886_impl_costSpan), ("loop.example/g00886/impl.shiftSpan", Rows.laid_loop_example_g00886_impl_shiftSpan), ("loop.example/g00886/impl.heightSpan", Rows.laid_loop_example_g00886_impl_heightSpan), ("loop.example/g00886/impl.kindsSpan", Rows.laid_loop_example_g00886_impl_kindsSpan), ("loop.example/g00886/impl.strengthSpan", Rows.laid_loop_example_g00886_impl_strengthSpan), ("loop.example/g00886/impl.movesSpan", Rows.laid_loop_example_g00886_impl_movesSpan), ("loop.example/g00886/impl.stepsSpan", Rows.laid_loop_example_g00886_impl_stepsSpan), ("loop.example/g00886/impl.viewSpan", Rows.laid_loop_example_g00886_impl_viewSpan), ("loop.example/g00886/impl.stackSpan", Rows.laid_loop_example_g00886_impl_stackSpan), ("loop.example/g00886/impl.riverSpan", Rows.laid_loop_example_g00886_impl_riverSpan), ("loop.example/g00886/impl.roadSpan", Rows.laid_loop_example_g00886_impl_roadSpan), ("loop.example/g00886/impl.supplySpan", Rows.laid_loop_example_g00886_impl_supplySpan), ("loop.example/g00886/impl.turnsSpan", Rows.laid_loop_example_g00886_impl_turnsSpan)] W := h
  obtain ⟨ps, hl, _⟩ := h'
  exact ⟨span_of terrainsG terrainsTy (laid_one hl (.head _)), span_of costG costTy (laid_one hl (.tail _ (.head _))), span_of shiftG shiftTy (laid_one hl (.tail _ (.tail _ (.head _)))), span_of heightG heightTy (laid_one hl (.tail _ (.tail _ (.tail _ (.head _))))), span_of kindsG kindsTy (laid_one hl (.tail _ (.tail _ (.tail _ (.tail _ (.head _)))))), span_of strengthG strengthTy (laid_one hl (.tail _ (.tail _ (.tail _ (.tail _ (.tail _ (.head _))))))), span_of movesG movesTy (laid_one hl (.tail _ (.tail _ (.tail _ (.tail _ (.tail _ (.tail _ (.head _)))))))), span_of stepsG stepsTy (laid_one hl (.tail _ (.tail _ (.tail _ (.tail _ (.tail _ (.tail _ (.tail _ (.head _))))))))), span_of viewG viewTy (laid_one hl (.tail _ (.tail _ (.tail _ (.tail _ (.tail _ (.tail _ (.tail _ (.tail _ (.head _)))))))))), span_of stackG stackTy (laid_one hl (.tail _ (.tail _ (.tail _ (.tail _ (.tail _ (.tail _ (.tail _ (.tail _ (.tail _ (.head _))))))))))), span_of riverG riverTy (laid_one hl (.tail _ (.tail _ (.tail _ (.tail _ (.tail _ (.tail _ (.tail _ (.tail _ (.tail _ (.tail _ (.head _)))))))))))), span_of roadG roadTy (laid_one hl (.tail _ (.tail _ (.tail _ (.tail _ (.tail _ (.tail _ (.tail _ (.tail _ (.tail _ (.tail _ (.tail _ (.head _))))))))))))), span_of supplyG supplyTy (laid_one hl (.tail _ (.tail _ (.tail _ (.tail _ (.tail _ (.tail _ (.tail _ (.tail _ (.tail _ (.tail _ (.tail _ (.tail _ (.head _)))))))))))))), span_of turnsG turnsTy (laid_one hl (.tail _ (.tail _ (.tail _ (.tail _ (.tail _ (.tail _ (.tail _ (.tail _ (.tail _ (.tail _ (.tail _ (.tail _ (.tail _ (.head _)))))))))))))))⟩

theorem spans15 {W : World} (h : laidMetH Tryd.prog [("loop.example/g00886/impl.directionSteps", Rows.laid_loop_example_g00886_impl_directionSteps), ("loop.example/g00886/impl.terrainsSpan", Rows.laid_loop_example_g00886_impl_terrainsSpan), ("loop.example/g00886/impl.costSpan", Rows.laid_loop_example_g00886_impl_costSpan), ("loop.example/g00886/impl.shiftSpan", Rows.laid_loop_example_g00886_impl_shiftSpan), ("loop.example/g00886/impl.heightSpan", Rows.laid_loop_example_g00886_impl_heightSpan), ("loop.example/g00886/impl.kindsSpan", Rows.laid_loop_example_g00886_impl_kindsSpan), ("loop.example/g00886/impl.strengthSpan", Rows.laid_loop_example_g00886_impl_strengthSpan), ("loop.example/g00886/impl.movesSpan", Rows.laid_loop_example_g00886_impl_movesSpan), ("loop.example/g00886/impl.stepsSpan", Rows.laid_loop_example_g00886_impl_stepsSpan), ("loop.example/g00886/impl.viewSpan", Rows.laid_loop_example_g00886_impl_viewSpan), ("loop.example/g00886/impl.stackSpan", Rows.laid_loop_example_g00886_impl_stackSpan), ("loop.example/g00886/impl.riverSpan", Rows.laid_loop_example_g00886_impl_riverSpan), ("loop.example/g00886/impl.roadSpan", Rows.laid_loop_example_g00886_impl_roadSpan), ("loop.example/g00886/impl.supplySpan", Rows.laid_loop_example_g00886_impl_supplySpan), ("loop.example/g00886/impl.turnsSpan", Rows.laid_loop_example_g00886_impl_turnsSpan)] W) : Spans W := by
  have h' : laidMet Tryd.prog [("loop.example/g00886/impl.directionSteps", Rows.laid_loop_example_g00886_impl_directionSteps), ("loop.example/g00886/impl.terrainsSpan", Rows.laid_loop_example_g00886_impl_terrainsSpan), ("loop.example/g00886/impl.costSpan", Rows.laid_loop_example_g00886_impl_costSpan), ("loop.example/g00886/impl.shiftSpan", Rows.laid_loop_example_g00886_impl_shiftSpan), ("loop.example/g00886/impl.heightSpan", Rows.laid_loop_example_g00886_impl_heightSpan), ("loop.example/g00886/impl.kindsSpan", Rows.laid_loop_example_g00886_impl_kindsSpan), ("loop.example/g00886/impl.strengthSpan", Rows.laid_loop_example_g00886_impl_strengthSpan), ("loop.example/g00886/impl.movesSpan", Rows.laid_loop_example_g00886_impl_movesSpan), ("loop.example/g00886/impl.stepsSpan", Rows.laid_loop_example_g00886_impl_stepsSpan), ("loop.example/g00886/impl.viewSpan", Rows.laid_loop_example_g00886_impl_viewSpan), ("loop.example/g00886/impl.stackSpan", Rows.laid_loop_example_g00886_impl_stackSpan), ("loop.example/g00886/impl.riverSpan", Rows.laid_loop_example_g00886_impl_riverSpan), ("loop.example/g00886/impl.roadSpan", Rows.laid_loop_example_g00886_impl_roadSpan), ("loop.example/g00886/impl.supplySpan", Rows.laid_loop_example_g00886_impl_supplySpan), ("loop.example/g00886/impl.turnsSpan", Rows.laid_loop_example_g00886_impl_turnsSpan)] W := h
  obtain ⟨ps, hl, _⟩ := h'
  exact ⟨span_of terrainsG terrainsTy (laid_one hl (.tail _ (.head _))), span_of costG costTy (laid_one hl (.tail _ (.tail _ (.head _)))), span_of shiftG shiftTy (laid_one hl (.tail _ (.tail _ (.tail _ (.head _))))), span_of heightG heightTy (laid_one hl (.tail _ (.tail _ (.tail _ (.tail _ (.head _)))))), span_of kindsG kindsTy (laid_one hl (.tail _ (.tail _ (.tail _ (.tail _ (.tail _ (.head _))))))), span_of strengthG strengthTy (laid_one hl (.tail _ (.tail _ (.tail _ (.tail _ (.tail _ (.tail _ (.head _)))))))), span_of movesG movesTy (laid_one hl (.tail _ (.tail _ (.tail _ (.tail _ (.tail _ (.tail _ (.tail _ (.head _))))))))), span_of stepsG stepsTy (laid_one hl (.tail _ (.tail _ (.tail _ (.tail _ (.tail _ (.tail _ (.tail _ (.tail _ (.head _)))))))))), span_of viewG viewTy (laid_one hl (.tail _ (.tail _ (.tail _ (.tail _ (.tail _ (.tail _ (.tail _ (.tail _ (.tail _ (.head _))))))))))), span_of stackG stackTy (laid_one hl (.tail _ (.tail _ (.tail _ (.tail _ (.tail _ (.tail _ (.tail _ (.tail _ (.tail _ (.tail _ (.head _)))))))))))), span_of riverG riverTy (laid_one hl (.tail _ (.tail _ (.tail _ (.tail _ (.tail _ (.tail _ (.tail _ (.tail _ (.tail _ (.tail _ (.tail _ (.head _))))))))))))), span_of roadG roadTy (laid_one hl (.tail _ (.tail _ (.tail _ (.tail _ (.tail _ (.tail _ (.tail _ (.tail _ (.tail _ (.tail _ (.tail _ (.tail _ (.head _)))))))))))))), span_of supplyG supplyTy (laid_one hl (.tail _ (.tail _ (.tail _ (.tail _ (.tail _ (.tail _ (.tail _ (.tail _ (.tail _ (.tail _ (.tail _ (.tail _ (.tail _ (.head _))))))))))))))), span_of turnsG turnsTy (laid_one hl (.tail _ (.tail _ (.tail _ (.tail _ (.tail _ (.tail _ (.tail _ (.tail _ (.tail _ (.tail _ (.tail _ (.tail _ (.tail _ (.tail _ (.head _))))))))))))))))⟩

theorem tab15 {W : World} (h : laidMetH Tryd.prog [("loop.example/g00886/impl.directionSteps", Rows.laid_loop_example_g00886_impl_directionSteps), ("loop.example/g00886/impl.terrainsSpan", Rows.laid_loop_example_g00886_impl_terrainsSpan), ("loop.example/g00886/impl.costSpan", Rows.laid_loop_example_g00886_impl_costSpan), ("loop.example/g00886/impl.shiftSpan", Rows.laid_loop_example_g00886_impl_shiftSpan), ("loop.example/g00886/impl.heightSpan", Rows.laid_loop_example_g00886_impl_heightSpan), ("loop.example/g00886/impl.kindsSpan", Rows.laid_loop_example_g00886_impl_kindsSpan), ("loop.example/g00886/impl.strengthSpan", Rows.laid_loop_example_g00886_impl_strengthSpan), ("loop.example/g00886/impl.movesSpan", Rows.laid_loop_example_g00886_impl_movesSpan), ("loop.example/g00886/impl.stepsSpan", Rows.laid_loop_example_g00886_impl_stepsSpan), ("loop.example/g00886/impl.viewSpan", Rows.laid_loop_example_g00886_impl_viewSpan), ("loop.example/g00886/impl.stackSpan", Rows.laid_loop_example_g00886_impl_stackSpan), ("loop.example/g00886/impl.riverSpan", Rows.laid_loop_example_g00886_impl_riverSpan), ("loop.example/g00886/impl.roadSpan", Rows.laid_loop_example_g00886_impl_roadSpan), ("loop.example/g00886/impl.supplySpan", Rows.laid_loop_example_g00886_impl_supplySpan), ("loop.example/g00886/impl.turnsSpan", Rows.laid_loop_example_g00886_impl_turnsSpan)] W) : Tab W := by
  have h' : laidMet Tryd.prog [("loop.example/g00886/impl.directionSteps", Rows.laid_loop_example_g00886_impl_directionSteps), ("loop.example/g00886/impl.terrainsSpan", Rows.laid_loop_example_g00886_impl_terrainsSpan), ("loop.example/g00886/impl.costSpan", Rows.laid_loop_example_g00886_impl_costSpan), ("loop.example/g00886/impl.shiftSpan", Rows.laid_loop_example_g00886_impl_shiftSpan), ("loop.example/g00886/impl.heightSpan", Rows.laid_loop_example_g00886_impl_heightSpan), ("loop.example/g00886/impl.kindsSpan", Rows.laid_loop_example_g00886_impl_kindsSpan), ("loop.example/g00886/impl.strengthSpan", Rows.laid_loop_example_g00886_impl_strengthSpan), ("loop.example/g00886/impl.movesSpan", Rows.laid_loop_example_g00886_impl_movesSpan), ("loop.example/g00886/impl.stepsSpan", Rows.laid_loop_example_g00886_impl_stepsSpan), ("loop.example/g00886/impl.viewSpan", Rows.laid_loop_example_g00886_impl_viewSpan), ("loop.example/g00886/impl.stackSpan", Rows.laid_loop_example_g00886_impl_stackSpan), ("loop.example/g00886/impl.riverSpan", Rows.laid_loop_example_g00886_impl_riverSpan), ("loop.example/g00886/impl.roadSpan", Rows.laid_loop_example_g00886_impl_roadSpan), ("loop.example/g00886/impl.supplySpan", Rows.laid_loop_example_g00886_impl_supplySpan), ("loop.example/g00886/impl.turnsSpan", Rows.laid_loop_example_g00886_impl_turnsSpan)] W := h
  obtain ⟨ps, ⟨g, t, cs, fuel, p, q, h1, h2, h3, h4, _, _⟩, _⟩ := h'
  exact tab_of_laid1 ⟨g, t, cs, fuel, p, h1, h2, h3, h4⟩

noncomputable def laidWorldS (os : Os) : World :=
  setVar (setVar (setVar (setVar (setVar (setVar (setVar (setVar (setVar (setVar (setVar (setVar (setVar (setVar (laidWorld os) 2 #[.int .i64 1, .int .i64 6]) 9 #[.int .i64 0, .int .i64 9]) 10 #[.int .i64 (-3), .int .i64 3]) 11 #[.int .i64 0, .int .i64 3]) 3 #[.int .i64 1, .int .i64 4]) 12 #[.int .i64 1, .int .i64 9]) 13 #[.int .i64 0, .int .i64 9]) 14 #[.int .i64 1, .int .i64 4]) 15 #[.int .i64 0, .int .i64 4]) 4 #[.int .i64 1, .int .i64 4]) 5 #[.int .i64 0, .int .i64 9]) 6 #[.int .i64 1, .int .i64 9]) 7 #[.int .i64 0, .int .i64 20]) 8 #[.int .i64 1, .int .i64 30]

theorem len14 {α : Type} {l : List α} (h : l.length = 14) : ∃ x0 x1 x2 x3 x4 x5 x6 x7 x8 x9 x10 x11 x12 x13, l = [x0, x1, x2, x3, x4, x5, x6, x7, x8, x9, x10, x11, x12, x13] := by
  match l, h with
  | [x0, x1, x2, x3, x4, x5, x6, x7, x8, x9, x10, x11, x12, x13], _ => exact ⟨_, _, _, _, _, _, _, _, _, _, _, _, _, _, rfl⟩
theorem len15 {α : Type} {l : List α} (h : l.length = 15) : ∃ x0 x1 x2 x3 x4 x5 x6 x7 x8 x9 x10 x11 x12 x13 x14, l = [x0, x1, x2, x3, x4, x5, x6, x7, x8, x9, x10, x11, x12, x13, x14] := by
  match l, h with
  | [x0, x1, x2, x3, x4, x5, x6, x7, x8, x9, x10, x11, x12, x13, x14], _ => exact ⟨_, _, _, _, _, _, _, _, _, _, _, _, _, _, _, rfl⟩

end Go.Proofs.YtngifnnpimfimaaDoor

/-
  Small facts on rows of cells that a call owns, and on lists to which one element is added.
-/
namespace Go.Proofs.YtngifnnpimfimaaDoor
open Go.RowKit

theorem ownsRow_base {w : World} {base b : Nat} {e : TypeId} {size : Nat} {v : Value} {n : Nat} {xs : List Value} (h : w.ownsRow base e size v n xs) (hb : b ≤ base) : w.ownsRow b e size v n xs := by
  refine ⟨h.1, ?_⟩
  rcases h.2 with h | ⟨g, cap, cur, h1, h2, h3⟩
  · exact .inl h
  · exact .inr ⟨g, cap, cur, h1, by omega, h3⟩
theorem snoc_cases {α : Type} {l : List α} {a x : α} {i : Nat} (h : (l ++ [a])[i]? = some x) : (i < l.length ∧ l[i]? = some x) ∨ (i = l.length ∧ x = a) := by
  rcases Nat.lt_or_ge i l.length with hi | hi
  · rw [List.getElem?_append_left hi] at h
    exact .inl ⟨hi, h⟩
  · rw [List.getElem?_append_right hi] at h
    match e : i - l.length, h with
    | 0, h =>
      simp at h
      exact .inr ⟨by omega, h.symm⟩
    | n + 1, h => simp at h

end Go.Proofs.YtngifnnpimfimaaDoor

/-
  A store into a list of integers that the call owns; a new list of zeros.
-/
namespace Go.Proofs.YtngifnnpimfimaaDoor
open Go.RowKit

theorem cellsI_set (l : List Int) (k : Nat) (x : Int) : cellsI (l.set k x) = (cellsI l).set k (.int .i64 x) := by simp [cellsI, List.map_set]
theorem cellsI_zero (n : Nat) : (madeCells #[.int .i64 0] n).toList = cellsI (List.replicate n 0) := by
  apply List.ext_getElem?
  intro i
  by_cases h : i < n
  · have : i % 1 = 0 := Nat.mod_one i
    simp [madeCells, cellsI, h, this]
  · simp [madeCells, cellsI, h]
/-- The cell at k, that it may be written, and what is owned when it has been. -/
theorem OwnI.put {w : World} {base n g cap : Nat} {l : List Int} (h : OwnI w base (.slice (some ⟨g, 0, none⟩) n cap) l) (hn : l.length = n) {k : Nat} (hk : k < n) (x : Int) :
    (∃ u, w.cell? ⟨g, k, none⟩ = some u) ∧ w.frozen? ⟨g, k, none⟩ = false ∧ OwnI (w.setCell ⟨g, k, none⟩ (.int .i64 x)) base (.slice (some ⟨g, 0, none⟩) n cap) (l.set k x) := by
  subst hn
  have ho : w.ownsRow base 3 1 (.slice (some ⟨g, 0, none⟩) l.length cap) l.length (cellsI l) := h
  have hlen : (cellsI l).length = l.length * 1 := ho.1
  refine ⟨⟨_, (ho.cellAt k (by omega)).trans (List.getElem?_eq_getElem (by omega))⟩, ho.frozenAt k, ?_⟩
  have o1 := (ho.stored k (.int .i64 x)).1
  unfold OwnI
  rw [cellsI_set, List.length_set]
  exact o1

theorem ownI_zero (w : World) (n : Nat) (hn : n ≤ 1048576) : OwnI (w.alloc (.cells (madeCells #[.int .i64 0] n) 3)) w.heap.size (.slice (some ⟨w.heap.size, 0, none⟩) n n) (List.replicate n 0) := by
  have own0 : (w.alloc (.cells (madeCells #[.int .i64 0] n) 3)).ownsRow w.heap.size 3 1 (.slice (some ⟨w.heap.size, 0, none⟩) n n) n (madeCells #[.int .i64 0] n).toList :=
    World.ownsRow_lit w _ n (Nat.le_refl _) (by simp only [maxLen]; omega) (by rw [size_madeCells, Nat.mul_one])
  rw [cellsI_zero] at own0
  unfold OwnI
  rw [List.length_replicate]
  exact own0

end Go.Proofs.YtngifnnpimfimaaDoor

/-
  Small facts on slices of hexes that a call owns in blocks from a number on.
-/
namespace Go.Proofs.YtngifnnpimfimaaDoor
open Go.RowKit

theorem OwnH.base {w : World} {base b : Nat} {v : Value} {l : List (Int × Int)} (h : OwnH w base v l) (hb : b ≤ base) : OwnH w b v l := by
  refine ⟨h.1, ?_⟩
  rcases h.2 with h | ⟨g, cap, cur, h1, h2, h3⟩
  · exact .inl h
  · exact .inr ⟨g, cap, cur, h1, by omega, h3⟩
theorem OwnH.not {w : World} {base : Nat} {v : Value} {l : List (Int × Int)} (h : OwnH w base v l) {g : Nat} (hg : g < base) : some g ≠ v.ownBlock := fun e => by
  have := (World.ownsRow.lt h g e.symm).1
  omega
theorem OwnH.cell {w : World} {base : Nat} {v : Value} {l l' : List (Int × Int)} (h : OwnH w base v l) (e : l = l') : OwnH w base v l' := e ▸ h

theorem two_new_at {w : World} {b : Nat} (hb : b = w.heap.size) (x y : Value) (t : TypeId) : ∀ j u, [x, y][j]? = some u → (w.alloc (.cells #[x, y] t)).cell? ((⟨b, 0, none⟩ : Addr).add j) = some u := by
  subst hb
  exact two_new w x y t

end Go.Proofs.YtngifnnpimfimaaDoor

/-
  The integers nearest to a fraction, one or two: the program's and the reference's lists read as a plain function says, and nothing that was there is changed.
-/
namespace Go.Proofs.YtngifnnpimfimaaDoor
open Go.RowKit

def nrFS (f s p : Int) : List Int := if 2 * s < p then [f] else if p < 2 * s then [f + 1] else [f, f + 1]
def nrI (n p : Int) : List Int := nrFS (n / p) (n % p) p
theorem nrFS_1 {f s p : Int} (h : 2 * s < p) : nrFS f s p = [f] := by simp [nrFS, h]
theorem nrFS_2 {f s p : Int} (h : p < 2 * s) : nrFS f s p = [f + 1] := by rw [nrFS, if_neg (by omega), if_pos h]
theorem nrFS_3 {f s p : Int} (h : 2 * s = p) : nrFS f s p = [f, f + 1] := by rw [nrFS, if_neg (by omega), if_neg (by omega)]
theorem nr_neg {n p : Int} (hp : 1 ≤ p) (h : n.tmod p < 0) : n / p = n.tdiv p - 1 ∧ n % p = n.tmod p + p := by
  have h1 := Int.mul_tdiv_add_tmod n p
  have h2 : -p < n.tmod p := Int.lt_tmod_of_pos n (by omega)
  rw [Int.ediv_emod_unique (by omega)]
  refine ⟨?_, by omega, by omega⟩
  rw [Int.mul_sub]
  omega
theorem nr_zero {n p : Int} (hp : 1 ≤ p) (h : n.tmod p = 0) : n / p = n.tdiv p ∧ n % p = 0 := by
  have h1 := Int.mul_tdiv_add_tmod n p
  rw [Int.ediv_emod_unique (by omega)]
  exact ⟨by omega, by omega, by omega⟩
theorem nr_le {n p : Int} (hn : n < 0) : n.tmod p ≤ 0 := by
  have h := Int.tmod_nonneg (a := -n) p (by omega)
  rw [Int.neg_tmod] at h
  omega
theorem nr_rest (n p : Int) : n - n / p * p = n % p := by
  have := Int.ediv_mul_add_emod n p
  omega
theorem nr_bd {n p : Int} (hp : 1 ≤ p) (h1 : -20000 ≤ n) (h2 : n ≤ 20000) : -20000 ≤ n / p ∧ n / p ≤ 20000 ∧ 0 ≤ n % p ∧ n % p < p := by
  refine ⟨Int.le_ediv_of_mul_le (by omega) ?_, ?_, Int.emod_nonneg _ (by omega), Int.emod_lt_of_pos _ (by omega)⟩
  · have : 0 ≤ (p - 1) * 20000 := Int.mul_nonneg (by omega) (by omega)
    omega
  · by_cases h : 0 ≤ n
    · exact Int.le_trans (Int.ediv_le_self _ h) h2
    · have := Int.ediv_neg_of_neg_of_pos (a := n) (b := p) (by omega) (by omega)
      omega

theorem rd_one (w : World) (x : Int) (T : TypeId) : RdI (w.alloc (.cells #[.int .i64 x] T)) (.slice (some ⟨w.heap.size, 0, none⟩) 1 1) [x] := by
  refine ⟨_, _, rfl, fun _ => ⟨w.heap.size, 0, rfl, fun i y hy => ?_⟩⟩
  match i, hy with
  | 0, hy =>
    simp at hy
    subst hy
    simp [go_sem]
theorem rd_two (w : World) (x y : Int) (T : TypeId) : RdI (w.alloc (.cells #[.int .i64 x, .int .i64 y] T)) (.slice (some ⟨w.heap.size, 0, none⟩) 2 2) [x, y] := by
  refine ⟨_, _, rfl, fun _ => ⟨w.heap.size, 0, rfl, fun i z hz => ?_⟩⟩
  match i, hz with
  | 0, hz =>
    simp at hz
    subst hz
    simp [go_sem]
  | 1, hz =>
    simp at hz
    subst hz
    simp [go_sem]

def NearPost (l : List Int) (w : World) (e : Ending) (w' : World) : Prop := ∃ v, e = .returned v ∧ RdI w' v l ∧ Kp w w'

end Go.Proofs.YtngifnnpimfimaaDoor
