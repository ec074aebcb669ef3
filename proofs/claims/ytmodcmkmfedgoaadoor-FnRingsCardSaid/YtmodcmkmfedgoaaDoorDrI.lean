/-
  The reference's draws of a hex and a radius, of a list of steps, of a hex and a path: lists of their own; all that was there is as it was.
-/
import Derived.Test.YtmodcmkmfedgoaaDoorCuB
import Derived.Test.YtmodcmkmfedgoaaDoorDrH
import Derived.Test.YtmodcmkmfedgoaaDoorListI
import Derived.Deep.Cut
import Derived.StillTailTactics
import Derived.OwnWalk
namespace Go.Proofs.YtmodcmkmfedgoaaDoor
open Go.RowKit

theorem gwI_trans {w0 w w' : World} {row : Option Nat} (h : w0.grownBy w row) (k : w.grownBy w' row) : w0.grownBy w' row :=
  ⟨k.os.trans h.os, k.tape.trans h.tape, k.output.trans h.output, Nat.le_trans h.size k.size, fun i hi hne => (k.block i (Nat.lt_of_lt_of_le hi h.size) hne).trans (h.block i hi hne)⟩
/-- A list under way beside the cursor, in memory behind w. -/
structure LiS (w wr : World) (base g K : Nat) (v : Value) (l : List Int) : Prop where
  own : OwnI wr w.heap.size v l
  cu : Cu wr base g K
  gw : w.grownBy wr (some g)
  hb : base ≤ w.heap.size
theorem LiS.keep {w wr w2 : World} {base g K : Nat} {v : Value} {l : List Int} (h : LiS w wr base g K v l) (k : Kp wr w2) : LiS w w2 base g K v l :=
  ⟨h.own.keep k, h.cu.keep k, grown_keep h.gw k, h.hb⟩
theorem LiS.le {w wr : World} {base g K K2 : Nat} {v : Value} {l : List Int} (h : LiS w wr base g K v l) (k : K ≤ K2) : LiS w wr base g K2 v l := ⟨h.own, h.cu.le k, h.gw, h.hb⟩
theorem LiS.draw {w wr w2 : World} {base g K K2 : Nat} {v : Value} {l : List Int} (h : LiS w wr base g K v l) (k : wr.grownBy w2 (some g)) (c2 : Cu w2 base g K2) : LiS w w2 base g K2 v l :=
  ⟨h.own.draw k (Nat.lt_of_lt_of_le c2.lt h.hb), c2, gwI_trans h.gw k, h.hb⟩
theorem LiS.app {w wr w2 : World} {base g K : Nat} {v v' : Value} {l l' : List Int} {o : Obj} (h : LiS w wr base g K v l) (k : (wr.alloc o).grownBy w2 v.ownBlock) (own : OwnI w2 w.heap.size v' l') : LiS w w2 base g K v' l' := by
  have hv : ∀ b, v.ownBlock = some b → w.heap.size ≤ b := fun b e => (World.ownsRow.lt h.own b e).1
  have h2 := h.keep ((Kp.refl wr).alloc o)
  exact ⟨own, h2.cu.own k (fun b e => by have := hv b e; have := h.hb; omega), gw_own h2.gw k hv, h.hb⟩
theorem i64_snoc {l : List Int} {z : Int} (h : ∀ y ∈ l, isI64 y) (h0 : -1000 ≤ z) (h1 : z ≤ 1000) : ∀ y ∈ l ++ [z], isI64 y := fun y hy => by
  rcases List.mem_append.1 hy with h2 | h2
  · exact h y h2
  · obtain rfl : y = z := by simpa using h2
    unfold isI64
    omega

/-- Steps drawn. -/
def StepD (base g K : Nat) (w : World) (e : Ending) (w' : World) : Prop :=
  ∃ (v : Value) (l : List Int), e = .returned v ∧ OwnI w' w.heap.size v l ∧ l.length ≤ 8 ∧ (∀ z ∈ l, isI64 z) ∧ Cu w' base g (K + 9) ∧ w.grownBy w' (some g)
set_option maxRecDepth 100000 in
set_option maxHeartbeats 4000000 in
theorem stepsC (base g K : Nat) (w : World) (hc : Cu w base g K) (hb : base ≤ w.heap.size) (hK : K ≤ 80000) :
    Calls Tryd.prog 31 #[.pointer (some ⟨g, 0, none⟩), .int .i64 8] w (StepD base g K w) := by
  obtain ⟨j0, hj0, hz0, hs0, hb0⟩ := info_parts infoInt
  have S0 := Lib.hid (show LiS w w base g K (.slice none 0 0) [] from ⟨OwnI.nil _ _, hc, World.grownBy.refl w _, hb⟩)
  clear hc
  go_enter Tryd.func31, Tryd.ntmps31
  go_wp2_with fail
  refine (pickC base g K 9 w S0.out.cu (by omega) (by omega) (by omega)).mono ?_
  rintro e1 w1 ⟨k1, rfl, kl, kh, c1, g1⟩
  have S1 := Lib.hid (S0.out.draw g1 c1)
  clear S0 c1 g1
  obtain ⟨kn, rfl⟩ : ∃ n : Nat, k1 = n := ⟨k1.toNat, by omega⟩
  have hkn : kn ≤ 8 := by omega
  clear kl kh
  go_wp2_with fail
  go_loopw [5, 6] (fun v sk wr => ∃ (k : Nat) (l : List Int), k ≤ 8 ∧ sk = .int .i64 k ∧ l.length + k ≤ 8 ∧ Hid (∀ z ∈ l, isI64 z) ∧ Hid (LiS w wr base g (K + 1 + (8 - k)) v l)) (fun _ sk _ => (intOf sk).toNat)
  case atStart => exact ⟨kn, [], hkn, rfl, by simpa using hkn, Lib.hid (fun z h => (by cases h)), Lib.hid (S1.out.le (by omega))⟩
  case round =>
    clear S1
    obtain ⟨k, l, hk, rfl, hl, hI, SR⟩ := hrel
    obtain ⟨Av, cv, hv⟩ := SR.out.own.slice
    subst hv
    by_cases hlt : 0 < k
    · have hlt' : (0 : Int) < k := by omega
      go_wp2_with fail
      refine (pickC base g _ 6 _ SR.out.cu (by omega) (by omega) (by omega)).mono ?_
      rintro e2 w2 ⟨d, rfl, d0, d5, c2, q2⟩
      have SX := Lib.hid (SR.out.draw q2 c2)
      clear SR c2 q2
      have HO := Lib.hid SX.out.own
      have HSZ := Lib.hid SX.out.gw.size
      go_wp2_with (at_builtin; refine wpList_append_own_at _ rfl (.tmp 15) (.tmp 18) 34 rfl w.heap.size 3 j0 (.int .i64 0) 1 8 Tryd.underlying34 hj0 hz0 hs0 hb0 rfl (by decide) _ l.length (cellsI l) rfl (World.ownsRow.alloc HO.out _) ⟨w2.heap.size, 0, none⟩ 1 1 [.int .i64 d] rfl rfl (one_cell _ _ _) (by simp [Value.oneCell']) (by simp only [maxLen]; omega) (by omega) (by have := HSZ.out; simp; omega) ?_; intro v' w9 hown2 hgrow2 hnil2 hat2; clear hnil2 hat2; have S9 := Lib.hid (LiS.app SX.out hgrow2 (OwnI.snoc (l := l) (x := d) hown2)); clear hown2 hgrow2)
      go_roundw
      case rel => exact ⟨k - 1, l ++ [d], by omega, by first | go_num | (congr 1; omega), by simp; omega, Lib.hid (i64_snoc hI.out (by omega) (by omega)), Lib.hid (S9.out.le (by omega))⟩
      case measure => simp [intOf]; omega
    · obtain rfl : k = 0 := by omega
      go_wp2_with fail
      go_ret
      exact ⟨_, l, rfl, SR.out.own, by omega, hI.out, SR.out.cu.le (by omega), SR.out.gw⟩

set_option maxRecDepth 100000 in
set_option maxHeartbeats 4000000 in
theorem drawRingOf_any (A : Option Addr) (n c : Nat) (w : World) (hb : RdBy w A n) (hn : n ≤ 9223372036854775807) :
    Calls Tryd.prog 5 #[.slice A n c] w fun e w' => ∃ q r k : Int, e = .returned (.tuple #[hx q r, .int .i64 k]) ∧ Kp w w' := by
  have hlt := hb.lt
  obtain ⟨g, hg⟩ : ∃ g, g = w.heap.size + 1 := ⟨_, rfl⟩
  obtain ⟨base, hbase⟩ : ∃ b, b = w.heap.size + 1 + 1 := ⟨_, rfl⟩
  obtain ⟨W0, hW0⟩ : ∃ W0, W0 = (w.alloc (.cells #[.int .i64 0, .int .i64 0] 25)).alloc (.cells #[.slice A n c, .int .i64 0, .int .u64 0] 44) := ⟨_, rfl⟩
  have k0 : Kp w W0 := by rw [hW0]; exact ((Kp.refl w).alloc _).alloc _
  have c0 : Cu W0 base g 0 := by
    refine ⟨A, n, c, 0, ?_, hb.keep k0, hn, by omega, by omega, fun h0 a ha => ⟨by have := hlt h0 a ha; omega, by have := hlt h0 a ha; omega⟩⟩
    rw [hg, hW0]
    exact ⟨0, by omega, by simp [go_sem], ⟨by simp [go_sem], by simp [go_sem]⟩, ⟨by simp [go_sem], by simp [go_sem]⟩⟩
  have la : Live2 W0 w.heap.size (.int .i64 0) (.int .i64 0) := by rw [hW0]; exact ⟨by simp [go_sem], by simp [go_sem]⟩
  have CH := Lib.hid (fun w K hc (hK : K ≤ 90000) => anyHexC base g K w hc hK)
  unfold HexC at CH
  have C2 := Lib.hid (fun w hc => pickC base g 6 8 w hc (by omega) (by omega) (by omega))
  unfold PickC at C2
  have C3 := Lib.hid (fun w hc => pickC base g 7 20 w hc (by omega) (by omega) (by omega))
  unfold PickC at C3
  have K0 := Lib.hid k0
  have C0 := Lib.hid c0
  have HG := Lib.hid hg
  have hg1 : g ≠ w.heap.size := by omega
  clear hb hlt k0 c0 hbase
  go_enter Tryd.func5, Tryd.ntmps5
  go_wp2_with fail
  rw [← hW0, ← hg]
  clear hW0 hg
  refine (CH.out _ 0 C0.out (by omega)).mono ?_
  rintro e1 w1 ⟨q, r, rfl, b1, cu1, g1⟩
  have la1 := live2_grown g1 (fun h => hg1 h.symm) la
  have D1 := Lib.hid cu1
  have K1 : Kp w w1 := K0.out.grown g1 (fun k e => by have := Option.some.inj e; have := HG.out; omega)
  clear cu1 g1 la C0 K0 CH
  go_wp2_with fail
  refine (C2.out _ D1.out).mono ?_
  rintro e3 w3 ⟨x3, rfl, l3, u3, cu3, g3⟩
  have la3 := live2_grown g3 (fun h => hg1 h.symm) la1
  have D3 := Lib.hid cu3
  have K3 : Kp w w3 := K1.grown g3 (fun k e => by have := Option.some.inj e; have := HG.out; omega)
  clear cu3 g3 la1 D1 K1 C2
  go_wp2_with fail
  refine (C3.out _ D3.out).mono ?_
  rintro e4 w4 ⟨x4, rfl, l4, u4, cu4, g4⟩
  have la4 := live2_grown g4 (fun h => hg1 h.symm) la3
  have K4 : Kp w w4 := K3.grown g4 (fun k e => by have := Option.some.inj e; have := HG.out; omega)
  clear cu4 g4 la3 D3 K3 C3
  go_wp2_with fail
  refine bodyPost_ret (by simp [results, Tryd.results5, go_sem, *]; rfl) rfl ⟨q, r, _, rfl, (K4.setCell (by simp) _).setCell (by simp) _⟩

/-- The same with a hex in a box, and a box for the answer. -/
structure WaS (w0 wr : World) (base g K b5 b2 : Nat) (q r : Int) (v : Value) (l : List Int) : Prop where
  li : LiS w0 wr base g K v l
  ne : v.ownBlock ≠ some b5
  c : wr.cell? ⟨b5, 0, none⟩ = some (.int .i64 q) ∧ wr.cell? ⟨b5, 1, none⟩ = some (.int .i64 r)
  la : Live2 wr b2 (.int .i64 0) (.int .i64 0)
  b : b5 ≠ g ∧ b2 ≠ g ∧ b2 < w0.heap.size
theorem WaS.keep {w0 wr w2 : World} {base g K b5 b2 : Nat} {q r : Int} {v : Value} {l : List Int} (h : WaS w0 wr base g K b5 b2 q r v l) (k : Kp wr w2) : WaS w0 w2 base g K b5 b2 q r v l :=
  ⟨h.li.keep k, h.ne, k.two h.c, live2_kp k h.la, h.b⟩
theorem WaS.draw {w0 wr w2 : World} {base g K K2 b5 b2 : Nat} {q r : Int} {v : Value} {l : List Int} (h : WaS w0 wr base g K b5 b2 q r v l) (k : wr.grownBy w2 (some g)) (c2 : Cu w2 base g K2) : WaS w0 w2 base g K2 b5 b2 q r v l :=
  have ne : (some b5 : Option Nat) ≠ some g := fun e => h.b.1 (Option.some.inj e)
  ⟨h.li.draw k c2, h.ne, ⟨k.cell h.c.1 ne, k.cell h.c.2 ne⟩, live2_grown k h.b.2.1 h.la, h.b⟩
theorem WaS.app {w0 wr w2 : World} {base g K b5 b2 : Nat} {q r : Int} {v v' : Value} {l l' : List Int} {o : Obj} (h : WaS w0 wr base g K b5 b2 q r v l) (k : (wr.alloc o).grownBy w2 v.ownBlock) (own : OwnI w2 w0.heap.size v' l') (hat : v'.ownBlock = v.ownBlock ∨ v'.ownBlock = some (wr.alloc o).heap.size) : WaS w0 w2 base g K b5 b2 q r v' l' := by
  have h2 := h.keep ((Kp.refl wr).alloc o)
  have lt := cell_lt h.c.1
  have n2 : (some b2 : Option Nat) ≠ v.ownBlock := fun e => by have := (World.ownsRow.lt h.li.own b2 e.symm).1; have := h.b.2.2; omega
  refine ⟨h.li.app k own, ?_, ⟨k.cell h2.c.1 (fun e => h.ne e.symm), k.cell h2.c.2 (fun e => h.ne e.symm)⟩, ⟨⟨k.cell h2.la.1.1 n2, grown_frozen k h2.la.1.1 n2 h2.la.1.2⟩, ⟨k.cell h2.la.2.1 n2, grown_frozen k h2.la.2.1 n2 h2.la.2.2⟩⟩, h.b⟩
  rcases hat with e | e
  · rw [e]; exact h.ne
  · rw [e]
    intro f
    have := Option.some.inj f
    simp at this
    omega
theorem twoS_at (w : World) (T : TypeId) :
    ∀ i : Nat, i < 2 → ∃ v : Int, -1 ≤ v ∧ v ≤ 6 ∧ (w.alloc (.cells #[.int .i64 6, .int .i64 (-1)] T)).cell? ⟨w.heap.size, 0 + i, none⟩ = some (.int .i64 v)
  | 0, _ => ⟨6, by omega, by omega, by simp [go_sem]⟩
  | 1, _ => ⟨-1, by omega, by omega, by simp [go_sem]⟩

def lenS : Value → Nat
  | .slice _ n _ => n
  | _ => 0
theorem OwnI.snoc2 {w : World} {base : Nat} {v : Value} {l : List Int} {x y : Int} (h : w.ownsRow base 3 1 v (l.length + 2) (cellsI l ++ [.int .i64 x, .int .i64 y])) : OwnI w base v (l ++ [x, y]) := by
  have e : cellsI (l ++ [x, y]) = cellsI l ++ [.int .i64 x, .int .i64 y] := by simp [cellsI]
  unfold OwnI
  rw [e, List.length_append]
  exact h
theorem i64_snoc2 {l : List Int} (h : ∀ y ∈ l, isI64 y) : ∀ y ∈ l ++ [0, 3], isI64 y := fun y hy => by
  rcases List.mem_append.1 hy with h2 | h2
  · exact h y h2
  · have : y = 0 ∨ y = 3 := by simpa using h2
    unfold isI64
    omega
/-- A hex and a path drawn. -/
def WalkD (w : World) (e : Ending) (w' : World) : Prop :=
  ∃ (q r : Int) (v : Value) (l : List Int), e = .returned (.tuple #[hx q r, v]) ∧ RdI w' v l ∧ l.length ≤ 100 ∧ (∀ z ∈ l, isI64 z) ∧ Kp w w'
set_option maxRecDepth 100000 in
set_option maxHeartbeats 8000000 in
theorem drawWalkFrom_any (A : Option Addr) (n c : Nat) (w : World) (hb : RdBy w A n) (hn : n ≤ 9223372036854775807) :
    Calls Tryd.prog 12 #[.slice A n c] w (WalkD w) := by
  obtain ⟨j0, hj0, hz0, hs0, hb0⟩ := info_parts infoInt
  have hlt := hb.lt
  obtain ⟨g, hg⟩ : ∃ g, g = w.heap.size + 1 := ⟨_, rfl⟩
  obtain ⟨base, hbase⟩ : ∃ b, b = w.heap.size + 1 + 1 := ⟨_, rfl⟩
  obtain ⟨W0, hW0⟩ : ∃ W0, W0 = (w.alloc (.cells #[.int .i64 0, .int .i64 0] 25)).alloc (.cells #[.slice A n c, .int .i64 0, .int .u64 0] 44) := ⟨_, rfl⟩
  have k0 : Kp w W0 := by rw [hW0]; exact ((Kp.refl w).alloc _).alloc _
  have hsz : base = W0.heap.size := by rw [hW0, hbase]; simp
  have c0 : Cu W0 base g 0 := by
    refine ⟨A, n, c, 0, ?_, hb.keep k0, hn, by omega, by omega, fun h0 a ha => ⟨by have := hlt h0 a ha; omega, by have := hlt h0 a ha; omega⟩⟩
    rw [hg, hW0]
    exact ⟨0, by omega, by simp [go_sem], ⟨by simp [go_sem], by simp [go_sem]⟩, ⟨by simp [go_sem], by simp [go_sem]⟩⟩
  have la : Live2 W0 w.heap.size (.int .i64 0) (.int .i64 0) := by rw [hW0]; exact ⟨by simp [go_sem], by simp [go_sem]⟩
  have CH := Lib.hid (anyHexC base g 0 W0 c0 (by omega))
  unfold HexC at CH
  have K0 := Lib.hid k0
  have HG := Lib.hid hg
  have hg1 : g ≠ w.heap.size := by omega
  have hw0 : w.heap.size < W0.heap.size := by omega
  have hgb : g < W0.heap.size := by omega
  clear hb hlt k0 c0 hbase
  go_enter Tryd.func12, Tryd.ntmps12
  go_upto_region 2 with fail
  rw [← hW0, ← hg]
  clear hW0 hg
  go_wp2_with fail
  refine CH.out.mono ?_
  rintro e1 w1 ⟨q, r, rfl, b1, cu1, g1⟩
  have la1 := live2_grown g1 (fun h => hg1 h.symm) la
  have z1 := g1.size
  have CS := Lib.hid (stepsC base g 6 w1 cu1 (by omega) (by omega))
  unfold StepD at CS
  have G1 := Lib.hid g1
  clear cu1 g1 la CH
  go_wp2_with fail
  refine CS.out.mono ?_
  rintro e2 w2 ⟨v, l, rfl, o2, hl2, i2, cu2, g2⟩
  have z2 := g2.size
  have la2 := live2_grown g2 (fun h => hg1 h.symm) la1
  have ka := (Kp.refl w2).alloc (.cells #[.int .i64 q, .int .i64 r] 25)
  have hne : v.ownBlock ≠ some w2.heap.size := fun e => by have := (World.ownsRow.lt o2 _ e).2; omega
  have S2 : Hid (WaS W0 (w2.alloc (.cells #[.int .i64 q, .int .i64 r] 25)) base g 15 w2.heap.size w.heap.size q r v l) := Lib.hid ⟨⟨(o2.base z1).keep ka, cu2.keep ka, grown_keep (gwI_trans G1.out g2) ka, by omega⟩, hne, by simp [go_sem], live2_kp ka la2, by omega, fun h => hg1 h.symm, hw0⟩
  have HI2 := Lib.hid i2
  clear CS o2 cu2 g2 la1 la2 ka hne i2
  go_upto_region 3 with fail
  obtain ⟨b5, hb5⟩ : ∃ b, b = w2.heap.size := ⟨_, rfl⟩
  rw [← hb5] at S2 ⊢
  generalize w2.alloc (.cells #[.int .i64 q, .int .i64 r] 25) = W2 at *
  clear hb5 z1 z2
  go_wp2_with fail
  refine (pickC base g _ 24 _ S2.out.li.cu (by omega) (by omega) (by omega)).mono ?_
  rintro e3 w3 ⟨x, rfl, x0, x23, c3, g3⟩
  have S3 := Lib.hid (S2.out.draw g3 c3)
  clear S2 c3 g3
  obtain ⟨Av, cv, hv⟩ := S3.out.li.own.slice
  subst hv
  have END : Hid (∀ (wr : World) (v : Value) (l : List Int) (K : Nat), WaS W0 wr base g K b5 w.heap.size q r v l → RdI ((wr.setCell ⟨w.heap.size, 0, none⟩ (.int .i64 q)).setCell ⟨w.heap.size, 1, none⟩ (.int .i64 r)) v l ∧ Kp w ((wr.setCell ⟨w.heap.size, 0, none⟩ (.int .i64 q)).setCell ⟨w.heap.size, 1, none⟩ (.int .i64 r))) := Lib.hid (fun wr v l K h => by
    have hne : v.ownBlock ≠ some w.heap.size := h.li.own.not h.b.2.2
    exact ⟨((h.li.own.far hne _).far hne _).rd, ((K0.out.grown h.li.gw (fun k e => by have := Option.some.inj e; have := HG.out; omega)).setCell (by simp) _).setCell (by simp) _⟩)
  by_cases hx0 : x = 0
  · subst hx0
    have ka := (Kp.refl w3).alloc (.cells #[.int .i64 6, .int .i64 (-1)] 3)
    have S4 := Lib.hid (S3.out.keep ka)
    have CA := Lib.hid (amongC base g _ w3.heap.size 0 2 2 (-1) 6 _ S4.out.li.cu (by omega) (by omega) (by omega) (twoS_at w3 _) (by have := S3.out.li.gw.size; omega))
    unfold PickC at CA
    clear S3 ka
    go_wp2_with fail
    refine CA.out.mono ?_
    rintro e4 w4 ⟨d, rfl, d0, d1, c4, g4⟩
    have SX := Lib.hid (S4.out.draw g4 c4)
    clear S4 c4 g4 CA
    have HO := Lib.hid SX.out.li.own
    have HSZ := Lib.hid SX.out.li.gw.size
    go_wp2_with (at_builtin; refine wpList_append_own_at _ rfl (.tmp 19) (.tmp 23) 34 rfl W0.heap.size 3 j0 (.int .i64 0) 1 8 Tryd.underlying34 hj0 hz0 hs0 hb0 rfl (by decide) _ l.length (cellsI l) rfl (World.ownsRow.alloc HO.out _) ⟨w4.heap.size, 0, none⟩ 1 1 [.int .i64 d] rfl rfl (one_cell _ _ _) (by simp [Value.oneCell']) (by simp only [maxLen]; omega) (by omega) (by have := HSZ.out; simp; omega) ?_; intro v' w9 hown2 hgrow2 hnil2 hat2; clear hnil2; have S9 := Lib.hid (WaS.app SX.out hgrow2 (OwnI.snoc (l := l) (x := d) hown2) hat2); clear hown2 hgrow2 hat2; obtain ⟨d0', d1'⟩ := S9.out.c; obtain ⟨⟨p0, p1⟩, p2, p3⟩ := S9.out.la)
    obtain ⟨e1, e2⟩ := END.out _ _ _ _ S9.out
    exact bodyPost_ret (v := .tuple #[hx q r, v']) (by simp [results, Tryd.results12, go_sem, *]) rfl ⟨q, r, _, l ++ [d], rfl, e1, by first | omega | (simp; omega), i64_snoc HI2.out (by omega) (by omega), e2⟩
  · have hx0e : (x == 0) = false := by simpa using hx0
    by_cases hx1 : x = 1
    · subst hx1
      clear hx0
      go_wp2_with fail
      refine (pickC base g _ 2 _ S3.out.li.cu (by omega) (by omega) (by omega)).mono ?_
      rintro e4 w4 ⟨y, rfl, y0, y1, c4, g4⟩
      have S4 := Lib.hid (S3.out.draw g4 c4)
      clear S3 c4 g4
      go_wp2_with fail
      go_loopw [6] (fun v wr => ∃ m : List Int, m.length ≤ 62 ∧ lenS v = m.length ∧ Hid (∀ z ∈ m, isI64 z) ∧ Hid (WaS W0 wr base g (15 + 1 + 1) b5 w.heap.size q r v m)) (fun v _ => 62 - lenS v)
      case atStart => exact ⟨l, by omega, rfl, HI2, S4⟩
      case round =>
        clear S4 HI2
        obtain ⟨m, hm, hlm, hI, SR⟩ := hrel
        obtain ⟨Am, cm, hv⟩ := SR.out.li.own.slice
        subst hv
        by_cases hlt : (m.length : Int) < 60 + y
        · have HO := Lib.hid SR.out.li.own
          have HSZ := Lib.hid SR.out.li.gw.size
          go_wp2_with (at_builtin; refine wpList_append_own_at _ rfl (.tmp 34) (.tmp 35) 34 rfl W0.heap.size 3 j0 (.int .i64 0) 1 8 Tryd.underlying34 hj0 hz0 hs0 hb0 rfl (by decide) _ m.length (cellsI m) rfl (World.ownsRow.alloc HO.out _) ⟨wr.heap.size, 0, none⟩ 2 2 [.int .i64 0, .int .i64 3] rfl rfl (two_new _ _ _ _) (by simp [Value.oneCell']) (by simp only [maxLen]; omega) (by omega) (by have := HSZ.out; simp; omega) ?_; intro v' w9 hown2 hgrow2 hnil2 hat2; clear hnil2; have S9 := Lib.hid (WaS.app SR.out hgrow2 (OwnI.snoc2 (l := m) (x := 0) (y := 3) hown2) hat2); clear hown2 hgrow2 hat2)
          obtain ⟨A9, c9, hv9⟩ := S9.out.li.own.slice
          go_roundw
          case rel => exact ⟨m ++ [0, 3], by simp; omega, by rw [hv9]; rfl, Lib.hid (i64_snoc2 hI.out), S9⟩
          case measure => rw [hv9]; simp [lenS]; omega
        · obtain ⟨d0', d1'⟩ := SR.out.c
          obtain ⟨⟨p0, p1⟩, p2, p3⟩ := SR.out.la
          go_wp2_with fail
          obtain ⟨e1, e2⟩ := END.out _ _ _ _ SR.out
          exact bodyPost_ret (v := .tuple #[hx q r, .slice Am m.length cm]) (by simp [results, Tryd.results12, go_sem, *]) rfl ⟨q, r, _, m, rfl, e1, by first | omega | (simp; omega), hI.out, e2⟩
    · have hx1e : (x == 1) = false := by simpa using hx1
      obtain ⟨d0, d1⟩ := S3.out.c
      obtain ⟨⟨p0, p1⟩, p2, p3⟩ := S3.out.la
      go_wp2_with fail
      obtain ⟨e1, e2⟩ := END.out _ _ _ _ S3.out
      exact bodyPost_ret (v := .tuple #[hx q r, .slice Av l.length cv]) (by simp [results, Tryd.results12, go_sem, *]) rfl ⟨q, r, _, l, rfl, e1, by first | omega | (simp; omega), HI2.out, e2⟩

end Go.Proofs.YtmodcmkmfedgoaaDoor
