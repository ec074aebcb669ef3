/-
  Texts of this seat in one module: OpO, DiB, Bx3.
-/
import Derived.Test.YtbohefollbmhkaaGreatDoorShelf
import Derived.Lib.OthersKept
import Derived.Lib.RuneCountTail
import Derived.Lib.QuoteLoop
import Derived.Lib.RuneCount
import Derived.Laws.RangeAny
import Derived.Laws.Strings3
import Derived.BigCall
import Derived.Test.YtbohefollbmhkaaGreatDoorQa
import Derived.Test.YtbohefollbmhkaaGreatDoorQd
import Derived.Test.YtbohefollbmhkaaGreatDoorQe
import Derived.Test.YtbohefollbmhkaaGreatDoorQf

/-
  Slices of openings as lists of records: the laws' copy and comparison; arguments of that type.
-/
namespace Go.Proofs.YtbohefollbmhkaaGreatDoor
open Go.ChangeShapes Go.WideShapes Go.ChangeAt Go.RowKit Go.Joins Go.Deep

structure Opn where
  n : Int
  s : ByteArray
abbrev opx (n : Int) (s : ByteArray) : Value := .agg #[.int .i64 n, .string s]
def OpnAt (w : World) (g o : Nat) (x : Opn) : Prop := w.cell? ⟨g, o, none⟩ = some (.int .i64 x.n) ∧ w.cell? ⟨g, o + 1, none⟩ = some (.string x.s)
theorem OpnAt.keep {w w' : World} {g o : Nat} {x : Opn} (h : OpnAt w g o x) (k : Kp w w') : OpnAt w' g o x := ⟨k.cell h.1, k.cell h.2⟩
def OpnI (x : Opn) : Prop := isI64 x.n ∧ x.s.size ≤ 9223372036854775807
/-- The slice v reads as the list l. -/
def RdOp (w : World) (v : Value) (l : List Opn) : Prop :=
  ∃ A c, v = .slice A l.length c ∧ (0 < l.length → ∃ g off, A = some ⟨g, off, none⟩ ∧ ∀ i x, l[i]? = some x → OpnAt w g (off + i * 2) x)
theorem RdOp.keep {w w' : World} {v : Value} {l : List Opn} (h : RdOp w v l) (hk : Kp w w') : RdOp w' v l := by
  obtain ⟨A, c, rfl, h⟩ := h
  refine ⟨A, c, rfl, fun h0 => ?_⟩
  obtain ⟨g, off, rfl, hc⟩ := h h0
  exact ⟨g, off, rfl, fun i x hx => (hc i x hx).keep hk⟩
def cellsOp : List Opn → List Value
  | [] => []
  | x :: l => .int .i64 x.n :: .string x.s :: cellsOp l
theorem cellsOp_length : ∀ l, (cellsOp l).length = l.length * 2
  | [] => rfl
  | x :: l => by simp only [cellsOp, List.length_cons, cellsOp_length l]; omega
theorem cellsOp_append : ∀ l m, cellsOp (l ++ m) = cellsOp l ++ cellsOp m
  | [], _ => rfl
  | x :: l, m => by simp only [cellsOp, List.cons_append, cellsOp_append l m]
theorem cellsOp_at : ∀ (l : List Opn) (i : Nat) (x : Opn), l[i]? = some x → (cellsOp l)[i * 2]? = some (.int .i64 x.n) ∧ (cellsOp l)[i * 2 + 1]? = some (.string x.s)
  | [], _, _, h => by simp at h
  | y :: l, 0, x, h => by
    simp only [List.getElem?_cons_zero, Option.some.injEq] at h
    subst h
    exact ⟨rfl, rfl⟩
  | y :: l, i + 1, x, h => by
    have := cellsOp_at l i x (by simpa using h)
    have e1 : (i + 1) * 2 = i * 2 + 1 + 1 := by omega
    rw [e1]
    exact ⟨(by simpa [cellsOp] using this.1), (by simpa [cellsOp] using this.2)⟩

/-- The slice v owns the list l, in a block from base on. -/
def OwnOp (w : World) (base : Nat) (v : Value) (l : List Opn) : Prop := w.ownsRow base 25 2 v l.length (cellsOp l)
theorem OwnOp.rd {w : World} {base : Nat} {v : Value} {l : List Opn} (h : OwnOp w base v l) : RdOp w v l := by
  rcases h.2 with ⟨rfl, hn⟩ | ⟨g, cap, cur, rfl, hb, hg, hc, hm, hs, ht⟩
  · exact ⟨none, 0, by rw [hn], fun h0 => by omega⟩
  · refine ⟨_, _, rfl, fun _ => ⟨g, 0, rfl, fun i x hx => ?_⟩⟩
    have hi : i < l.length := (List.getElem?_eq_some_iff.1 hx).1
    have e := cellsOp_at l i x hx
    rw [Nat.zero_add]
    exact ⟨(World.ownsRow.cellAt h (i * 2) (by omega)).trans e.1, (World.ownsRow.cellAt h (i * 2 + 1) (by omega)).trans e.2⟩
theorem OwnOp.base {w : World} {base b : Nat} {v : Value} {l : List Opn} (h : OwnOp w base v l) (hb : b ≤ base) : OwnOp w b v l := ownsRow_base h hb
theorem OwnOp.keep {w w' : World} {base : Nat} {v : Value} {l : List Opn} (h : OwnOp w base v l) (hk : Kp w w') : OwnOp w' base v l := ownsRow_keep h hk
theorem OwnOp.nil (w : World) (base : Nat) : OwnOp w base (.slice none 0 0) [] := World.ownsRow_nil w base _ 2
theorem infoOpening : (Tryz.prog.info? 25).map (fun i => (i.zero, i.size, i.bytes)) = some (some (opx 0 ByteArray.empty), 2, 24) := by kernel_rfl
theorem OwnOp.slice {w : World} {base : Nat} {v : Value} {l : List Opn} (h : OwnOp w base v l) : ∃ A c, v = .slice A l.length c := by
  obtain ⟨A, c, rfl, _⟩ := h.rd
  exact ⟨A, c, rfl⟩
theorem OwnOp.far {w : World} {base : Nat} {v : Value} {l : List Opn} (h : OwnOp w base v l) {g j : Nat} (hne : v.ownBlock ≠ some g) (u : Value) : OwnOp (w.setCell ⟨g, j, none⟩ u) base v l :=
  World.ownsRow.kept h (grown_set w g j u) (.inr hne)
theorem OwnOp.not {w : World} {base : Nat} {v : Value} {l : List Opn} (h : OwnOp w base v l) {g : Nat} (hg : g < base) : v.ownBlock ≠ some g := fun e => by
  have := (World.ownsRow.lt h g e).1
  omega

theorem keep4u {w w1 : World} {p0 p1 p2 p3 : Addr} {v0 v1 v2 v3 : Value} (k : Kp w w1) (h : w.cell? p0 = some v0 ∧ w.cell? p1 = some v1 ∧ w.cell? p2 = some v2 ∧ w.cell? p3 = some v3) : w1.cell? p0 = some v0 ∧ w1.cell? p1 = some v1 ∧ w1.cell? p2 = some v2 ∧ w1.cell? p3 = some v3 :=
  ⟨k.cell h.1, k.cell h.2.1, k.cell h.2.2.1, k.cell h.2.2.2⟩

theorem mkOpeningN (n : Nat) (hn : n ≤ 1048576) (w : World) :
    (Instr.makeSlice 38 (.int .i64 (n : Int)) (.int .i64 (n : Int))).run Tryz.prog w = .ok (.slice (some ⟨w.heap.size, 0, none⟩) n n) (w.alloc (.cells (madeCells (opx 0 ByteArray.empty).cells (n * 2)) 25)) := by
  obtain ⟨i, hi, hz, hs, hb⟩ := info_parts infoOpening
  have hr := run_make (P := Tryz.prog) w 38 25 i (opx 0 ByteArray.empty) Tryz.underlying38 hi hz .i64 .i64 (n : Int) (n : Int) (by omega) (Int.le_refl _) (by rw [hb]; omega) (by omega)
  rw [hs, Int.toNat_natCast] at hr
  exact hr

theorem openOpening_list {l : List Value} (hl : l.length = 2) {c0 : Value} {c1 : Value} (q0 : l[0]? = some c0) (q1 : l[1]? = some c1) : l = [c0, c1] := by
  match l, hl with
  | [x0, x1], _ =>
    simp at q0 q1
    subst q0 q1
    rfl
end Go.Proofs.YtbohefollbmhkaaGreatDoor

/-
  The bytes of a text as numbers: the program's (character by character) and the reference's (byte by byte) are the plain list, in memory of its own. Nothing that was there is changed.
-/
namespace Go.Proofs.YtbohefollbmhkaaGreatDoor
open Go.RowKit

def byI (s : ByteArray) (k : Nat) : Int := if h : k < s.size then ((s[k]'h).toNat : Int) else 0
def byL (s : ByteArray) : Nat → List Int
  | 0 => []
  | k + 1 => byL s k ++ [byI s k]
theorem byL_len (s : ByteArray) : ∀ k, (byL s k).length = k
  | 0 => rfl
  | k + 1 => by rw [byL, List.length_append, byL_len s k]; rfl
theorem byI_at (s : ByteArray) (k : Nat) (h : k < s.size) : byI s k = ((s[k]'h).toNat : Int) := by simp [byI, h]
theorem byI_bd (s : ByteArray) (k : Nat) : 0 ≤ byI s k ∧ byI s k < 256 := by
  unfold byI
  split
  · rename_i h
    have := (s[k]'h).toNat_lt
    omega
  · omega
theorem dec_width (s : ByteArray) (pos : Nat) (h : pos < s.size) : 1 ≤ (Utf8.decode s pos).2 ∧ pos + (Utf8.decode s pos).2 ≤ s.size := by
  refine ⟨Lib.decode_width_pos s pos h, ?_⟩
  have h1 := Lib.width_le (s.extract pos s.size) (by simp; omega)
  rw [Lib.tail_decode, Nat.add_zero] at h1
  simp at h1
  omega
theorem dec_go (s : ByteArray) (pos : Nat) (h : pos < s.size) : Lib.decodeGo (s.extract pos s.size) = Utf8.decode s pos := by
  unfold Lib.decodeGo
  rw [if_neg (by simp; omega), Lib.tail_decode, Nat.add_zero]
theorem iter_grown (w : World) (k : Nat) (s : ByteArray) (p : Nat) : w.grownBy (w.iterAt k s p) (some k) :=
  ⟨rfl, rfl, rfl, by rw [Lib.iterAt_size]; exact Nat.le_refl _, fun j _ hj => Lib.iterAt_other w k j s p (fun e => hj (by rw [e]))⟩
theorem OwnI.ofKept {w w' : World} {base : Nat} {v : Value} {l : List Int} {g : Nat} (h : OwnI w base v l) (hg : w.grownBy w' (some g)) (hne : v.ownBlock ≠ some g) : OwnI w' base v l := World.ownsRow.kept h hg (.inr hne)

set_option maxRecDepth 100000 in
set_option maxHeartbeats 4000000 in
theorem dBytes_any (s : ByteArray) (w : World) (hs : s.size ≤ 1048576) :
    Calls Tryz.prog 54 #[.string s] w fun e w' => ∃ v, e = .returned v ∧ OwnI w' w.heap.size v (byL s s.size) ∧ Kp w w' := by
  obtain ⟨j0, hj0, hz0, hs0, hb0⟩ := info_parts infoInt
  go_enter Tryz.func54, Tryz.ntmps54
  go_wp2_with fail
  go_loopw [3, 4] (fun v iv wr => ∃ k : Nat, k ≤ s.size ∧ iv = .int .i64 k ∧ Hid (OwnI wr w.heap.size v (byL s k)) ∧ Kp w wr) (fun _ iv _ => s.size - (intOf iv).toNat)
  case atStart => exact ⟨0, by omega, rfl, Lib.hid (OwnI.nil _ _), Kp.refl _⟩
  case round =>
    obtain ⟨k, hk, rfl, hO, kr⟩ := hrel
    by_cases hlt : k < s.size
    · have hlt' : (k : Int) < (s.size : Int) := by omega
      have HS := Lib.hid (show byL s (k + 1) = byL s k ++ [byI s k] from rfl)
      have hX := byI_at s k hlt
      have hb := byI_bd s k
      have hln := Lib.hid (byL_len s k)
      generalize byL s k = L at hO HS hln
      generalize byI s k = X at *
      obtain ⟨Y, hY⟩ : ∃ Y, (s[k]'hlt).toNat = Y := ⟨_, rfl⟩
      rw [hY] at hX
      have eY : IntKind.i64.wrap (Y : Int) = (Y : Int) := IntWalk.i64_in _ (by omega)
      subst hX
      have hz := kr.size
      go_wp2_with (at_builtin; refine wpList_append_own_at _ rfl (.tmp 11) (.tmp 16) 43 rfl w.heap.size 3 j0 (.int .i64 0) 1 8 Tryz.underlying43 hj0 hz0 hs0 hb0 rfl (by decide) _ L.length (cellsI L) rfl (World.ownsRow.alloc hO.out _) ⟨wr.heap.size, 0, none⟩ 1 1 [.int .i64 (Y : Int)] rfl rfl (one_cell _ _ _) (by simp [Value.oneCell']) (by have := hln.out; simp only [maxLen]; omega) (by have := hln.out; omega) (by simp; omega) ?_; intro v' w3 hown2 hgrow2 hnil2 hat2; clear hnil2 hat2; have O3 : Hid (OwnI w3 w.heap.size v' (byL s (k + 1))) := Lib.hid (by rw [HS.out]; exact OwnI.snoc hown2); have K3 : Kp w w3 := (kr.alloc _).grown hgrow2 (fun k e => (World.ownsRow.lt hO.out k e).1); clear hown2 hgrow2)
      go_roundw
      case rel => exact ⟨k + 1, by omega, by go_num, O3, K3⟩
      case measure => simp [intOf]; omega
    · obtain rfl : k = s.size := by omega
      go_wp2_with fail
      go_ret
      exact ⟨_, rfl, hO.out, kr⟩

set_option maxRecDepth 100000 in
set_option maxHeartbeats 8000000 in
theorem bytesOf_any (s : ByteArray) (w : World) (hs : s.size ≤ 1048576) (hT : Lib.Utf8Tabs 6 7 w) :
    Calls Tryz.prog 51 #[.string s] w fun e w' => ∃ v, e = .returned v ∧ OwnI w' w.heap.size v (byL s s.size) ∧ Kp w w' := by
  obtain ⟨j0, hj0, hz0, hs0, hb0⟩ := info_parts infoInt
  have HT := Lib.hid hT
  clear hT
  have hmk := mkInts0 s.size hs w
  have own0 : Hid (OwnI ((w.alloc (.cells (madeCells #[.int .i64 0] s.size) 3)).alloc (.stringIter s 0)) w.heap.size (.slice (some ⟨w.heap.size, 0, none⟩) 0 s.size) (byL s 0)) := Lib.hid ((ownI_made0 w w.heap.size s.size (Nat.le_refl _) hs).keep ((Kp.refl _).alloc _))
  have K0 : Kp w ((w.alloc (.cells (madeCells #[.int .i64 0] s.size) 3)).alloc (.stringIter s 0)) := ((Kp.refl _).alloc _).alloc _
  have I0 : ((w.alloc (.cells (madeCells #[.int .i64 0] s.size) 3)).alloc (.stringIter s 0)).heap[w.heap.size + 1]? = some (.stringIter s 0) := by
    have := World.iter_heap (w.alloc (.cells (madeCells #[.int .i64 0] s.size) 3)) s 0
    simpa [World.iter] using this
  go_enter Tryz.func51, Tryz.ntmps51
  go_wp2_with fail
  go_loopw [3] (fun v wr => ∃ pos : Nat, pos ≤ s.size ∧ Hid (OwnI wr w.heap.size v (byL s pos)) ∧ Hid (v.ownBlock ≠ some (w.heap.size + 1)) ∧ wr.heap[w.heap.size + 1]? = some (.stringIter s pos) ∧ Kp w wr) (fun _ wr => s.size - wr.iterPos (w.heap.size + 1))
  case atStart => exact ⟨0, by omega, own0, Lib.hid (by simp [Value.ownBlock]), I0, K0⟩
  case round =>
    clear own0 K0 I0 hmk
    obtain ⟨pos, hpos, hO, hne, hit, kr⟩ := hrel
    have hsz : w.heap.size + 1 < wr.heap.size := (Array.getElem?_eq_some_iff.1 hit).1
    by_cases hp : pos < s.size
    · have hnx : ∀ ty, (Instr.next (.pointer (some ⟨w.heap.size + 1, 0, none⟩)) true ty).run Tryz.prog wr = _ := fun ty => Lib.run_next_any_at wr (w.heap.size + 1) s pos ty hit hp
      have hwd := dec_width s pos hp
      by_cases ha : (s[pos]'hp).toNat < 128
      · have hdec := decode_ascii s pos hp ha
        have hX := byI_at s pos hp
        have HS := Lib.hid (show byL s (pos + 1) = byL s pos ++ [byI s pos] from rfl)
        have hln := Lib.hid (byL_len s pos)
        simp only [hdec] at hnx
        generalize (s[pos]'hp).toNat = Y at *
        generalize byI s pos = X at *
        generalize byL s pos = L at *
        subst hX
        have ha' : (Y : Int) < 128 := by omega
        have eY : IntKind.i64.wrap (Y : Int) = (Y : Int) := IntWalk.i64_in _ (by omega)
        have hO1 := Lib.hid (hO.out.ofKept (iter_grown wr (w.heap.size + 1) s (pos + 1)) hne.out)
        have hit1 := Lib.iterAt_heap wr (w.heap.size + 1) s pos (pos + 1) hit
        have kr1 : Kp w (wr.iterAt (w.heap.size + 1) s (pos + 1)) := Lib.below_iterAt kr (by omega) s (pos + 1)
        have hz1 : w.heap.size + 1 < (wr.iterAt (w.heap.size + 1) s (pos + 1)).heap.size := by rw [Lib.iterAt_size]; exact hsz
        go_upto_region 5 with fail
        clear hnx hO hwd hdec
        generalize wr.iterAt (w.heap.size + 1) s (pos + 1) = W1 at *
        go_wp2_with (at_builtin; refine wpList_append_own_at _ rfl (.tmp 20) (.tmp 23) 43 rfl w.heap.size 3 j0 (.int .i64 0) 1 8 Tryz.underlying43 hj0 hz0 hs0 hb0 rfl (by decide) _ L.length (cellsI L) rfl (World.ownsRow.alloc hO1.out _) ⟨W1.heap.size, 0, none⟩ 1 1 [.int .i64 (Y : Int)] rfl rfl (one_cell _ _ _) (by simp [Value.oneCell']) (by have := hln.out; simp only [maxLen]; omega) (by have := hln.out; omega) (by simp; omega) ?_; intro v' w3 hown2 hgrow2 hnil2 hat2; clear hnil2; have O3 : Hid (OwnI w3 w.heap.size v' (byL s (pos + 1))) := Lib.hid (by rw [HS.out]; exact OwnI.snoc hown2); have K3 : Kp w w3 := (kr1.alloc _).grown hgrow2 (fun k e => (World.ownsRow.lt hO1.out k e).1); have HG3 := Lib.hid hgrow2; have HA3 := Lib.hid hat2; clear hown2 hgrow2 hat2)
        have hne3 : Hid (v'.ownBlock ≠ some (w.heap.size + 1)) := Lib.hid (fun e => by
          rcases HA3.out with h | h
          · exact hne.out (h.symm.trans e)
          · rw [h] at e
            simp at e
            omega)
        have hit3 : w3.heap[w.heap.size + 1]? = some (.stringIter s (pos + 1)) := (HG3.out.block (w.heap.size + 1) (by simp; omega) (fun e => hne.out e.symm)).trans ((heap_alloc_old W1 _ (by omega)).trans hit1)
        go_roundw
        case rel => exact ⟨pos + 1, by omega, O3, hne3, hit3, K3⟩
        case measure =>
          simp only [World.iterPos, hit3, hit]
          omega
      · have hhi := decode_high s pos hp (by omega)
        have hgo := dec_go s pos hp
        have hle := decode_le s pos
        have C := Lib.hid (fun w hT => Tryz.utf8_DecodeRuneInString (s.extract pos s.size) w hT)
        rw [hgo] at C
        clear hgo
        generalize (Utf8.decode s pos).1 = R at *
        generalize (Utf8.decode s pos).2 = K at *
        have hge : 128 ≤ (R : Int) := by omega
        have hO1 := Lib.hid (hO.out.ofKept (iter_grown wr (w.heap.size + 1) s (pos + K)) hne.out)
        have hit1 := Lib.iterAt_heap wr (w.heap.size + 1) s pos (pos + K) hit
        have kr1 : Kp w (wr.iterAt (w.heap.size + 1) s (pos + K)) := Lib.below_iterAt kr (by omega) s (pos + K)
        have hz1 : w.heap.size + 1 < (wr.iterAt (w.heap.size + 1) s (pos + K)).heap.size := by rw [Lib.iterAt_size]; exact hsz
        have hps : (pos : Int) ≤ (s.size : Int) := by omega
        go_upto_region 7 with fail
        clear hnx hO hhi
        generalize wr.iterAt (w.heap.size + 1) s (pos + K) = W1 at *
        go_wp2_with fail
        refine (C.out _ (by first | exact Lib.Utf8Tabs_below HT.out kr1 | exact Utf8Tabs_below HT.out kr1)).mono ?_
        rintro e2 w2 ⟨rfl, k2⟩
        have hO2 := Lib.hid (hO1.out.keep k2)
        have hit2 : w2.heap[w.heap.size + 1]? = some (.stringIter s (pos + K)) := (k2.block (w.heap.size + 1) (by omega)).trans hit1
        have kr2 := kr1.trans k2
        clear hO1 hit1 kr1 k2
        go_wp2_with fail
        go_loopw [3, 33] (fun v iv wz => ∃ j : Nat, j ≤ K ∧ iv = .int .i64 j ∧ Hid (OwnI wz w.heap.size v (byL s (pos + j))) ∧ Hid (v.ownBlock ≠ some (w.heap.size + 1)) ∧ wz.heap[w.heap.size + 1]? = some (.stringIter s (pos + K)) ∧ Kp w wz) (fun _ iv _ => K - (intOf iv).toNat)
        case atStart => exact ⟨0, by omega, rfl, hO2, hne, hit2, kr2⟩
        case round =>
          clear hO2 hit2 kr2 hne
          obtain ⟨j, hj, rfl, hO, hne, hit2, kr2⟩ := hrel
          have hsz2 : w.heap.size + 1 < wr.heap.size := (Array.getElem?_eq_some_iff.1 hit2).1
          by_cases hlt : j < K
          · have hlt' : (j : Int) < K := by omega
            obtain ⟨J, hJ⟩ : ∃ J, J = pos + j := ⟨_, rfl⟩
            have eJ : IntKind.i64.wrap ((pos : Int) + (j : Int)) = (J : Int) := by rw [IntWalk.i64_in _ (by omega)]; omega
            have hJs : J < s.size := by omega
            have hJs' : (J : Int) < (s.size : Int) := by omega
            have hX := byI_at s J hJs
            have HS : Hid (byL s (pos + (j + 1)) = byL s J ++ [byI s J]) := Lib.hid (by rw [hJ]; rfl)
            rw [← hJ] at hO
            have hln := Lib.hid (byL_len s J)
            have hb := byI_bd s J
            obtain ⟨Y, hY⟩ : ∃ Y, (s[J]'hJs).toNat = Y := ⟨_, rfl⟩
            rw [hY] at hX
            generalize byI s J = X at *
            generalize byL s J = L at *
            subst hX
            have eY : IntKind.i64.wrap (Y : Int) = (Y : Int) := IntWalk.i64_in _ (by omega)
            have hz := kr2.size
            clear hJ
            go_wp2_with (at_builtin; refine wpList_append_own_at _ rfl (.tmp 36) (.tmp 43) 43 rfl w.heap.size 3 j0 (.int .i64 0) 1 8 Tryz.underlying43 hj0 hz0 hs0 hb0 rfl (by decide) _ L.length (cellsI L) rfl (World.ownsRow.alloc hO.out _) ⟨wr.heap.size, 0, none⟩ 1 1 [.int .i64 (Y : Int)] rfl rfl (one_cell _ _ _) (by simp [Value.oneCell']) (by have := hln.out; simp only [maxLen]; omega) (by have := hln.out; omega) (by simp; omega) ?_; intro v' w3 hown2 hgrow2 hnil2 hat2; clear hnil2; have O3 : Hid (OwnI w3 w.heap.size v' (byL s (pos + (j + 1)))) := Lib.hid (by rw [HS.out]; exact OwnI.snoc hown2); have K3 : Kp w w3 := (kr2.alloc _).grown hgrow2 (fun k e => (World.ownsRow.lt hO.out k e).1); have HG3 := Lib.hid hgrow2; have HA3 := Lib.hid hat2; clear hown2 hgrow2 hat2)
            have hne3 : Hid (v'.ownBlock ≠ some (w.heap.size + 1)) := Lib.hid (fun e => by
              rcases HA3.out with h | h
              · exact hne.out (h.symm.trans e)
              · rw [h] at e
                simp at e
                omega)
            have hit3 : w3.heap[w.heap.size + 1]? = some (.stringIter s (pos + K)) := (HG3.out.block (w.heap.size + 1) (by simp; omega) (fun e => hne.out e.symm)).trans ((heap_alloc_old wr _ (by omega)).trans hit2)
            go_roundw
            case rel => exact ⟨j + 1, by omega, by go_num, O3, hne3, hit3, K3⟩
            case measure => simp [intOf]; omega
          · obtain rfl : j = K := by omega
            go_wp2_with fail
            go_roundw
            case rel => exact ⟨pos + j, by omega, hO, hne, hit2, kr2⟩
            case measure =>
              simp only [World.iterPos, hit2, hit]
              omega
    · have hnx : ∀ ty, (Instr.next (.pointer (some ⟨w.heap.size + 1, 0, none⟩)) true ty).run Tryz.prog wr = _ := fun ty => Lib.run_next_end_at wr (w.heap.size + 1) s pos ty hit hp
      obtain rfl : pos = s.size := by omega
      go_wp2_with fail
      go_ret
      exact ⟨_, rfl, hO.out, kr⟩

end Go.Proofs.YtbohefollbmhkaaGreatDoor

/-
  A box of three numbers that may be written.
-/
namespace Go.Proofs.YtbohefollbmhkaaGreatDoor
open Go.RowKit

/-- A box of three numbers that may be written. -/
def Bx3 (W : World) (g : Nat) (a b c : Int) : Prop := (W.cell? ⟨g, 0, none⟩ = some (.int .i64 a) ∧ W.cell? ⟨g, 1, none⟩ = some (.int .i64 b) ∧ W.cell? ⟨g, 2, none⟩ = some (.int .i64 c)) ∧ W.frozen? ⟨g, 0, none⟩ = false ∧ W.frozen? ⟨g, 1, none⟩ = false ∧ W.frozen? ⟨g, 2, none⟩ = false
theorem Bx3.keep {W W' : World} {g : Nat} {a b c : Int} (h : Bx3 W g a b c) (k : Kp W W') : Bx3 W' g a b c := by
  have hlt : g < W.heap.size := cell_lt h.1.1
  exact ⟨⟨k.cell h.1.1, k.cell h.1.2.1, k.cell h.1.2.2⟩, (k.cells.2 g 0 hlt).trans h.2.1, (k.cells.2 g 1 hlt).trans h.2.2.1, (k.cells.2 g 2 hlt).trans h.2.2.2⟩
theorem Bx3.drew {W : World} {g : Nat} {a b c : Int} (h : Bx3 W g a b c) : Bx3 W.drew g a b c := h
theorem Bx3.new (w : World) (a b c : Int) (t : TypeId) : Bx3 (w.alloc (.cells #[.int .i64 a, .int .i64 b, .int .i64 c] t)) w.heap.size a b c :=
  ⟨⟨by simp [go_sem], by simp [go_sem], by simp [go_sem]⟩, by simp [go_sem], by simp [go_sem], by simp [go_sem]⟩
end Go.Proofs.YtbohefollbmhkaaGreatDoor
