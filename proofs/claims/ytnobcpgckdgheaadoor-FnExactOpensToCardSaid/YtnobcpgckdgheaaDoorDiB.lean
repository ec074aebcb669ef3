/-
  The bytes of a text as numbers: the program's (character by character) and the reference's (byte by byte) are the plain list, in memory of its own. Nothing that was there is changed.
-/
import Derived.Test.YtnobcpgckdgheaaDoorDiL
import Derived.Test.YtnobcpgckdgheaaDoorFar
import Derived.Test.YtnobcpgckdgheaaDoorShelf
import Derived.Lib.OthersKept
import Derived.Lib.RuneCountTail
import Derived.Lib.QuoteLoop
import Derived.Lib.RuneCount
import Derived.Laws.RangeAny
import Derived.Laws.Strings3
import Derived.BigCall
namespace Go.Proofs.YtnobcpgckdgheaaDoor
open Go.RowKit

def byI (s : ByteArray) (k : Nat) : Int := if h : k < s.size then ((s[k]'h).toNat : Int) else 0
def byL (s : ByteArray) : Nat → List Int
  | 0 => []
  | k + 1 => byL s k ++ [byI s k]
theorem byL_len (s : ByteArray) : ∀ k, (byL s k).length = k
  | 0 => rfl
  | k + 1 => by rw [byL, List.length_append, byL_len s k]; rfl
theorem byI_at (s : ByteArray) (k : Nat) (h : k < s.size) : byI s k = ((s[k]'h).toNat : Int) := by simp [byI, h]
theorem byI_bd (s : ByteArray) (k : Nat) : 0 ≤ byI s k ∧ byI s k < 256 := by
  unfold byI
  split
  · rename_i h
    have := (s[k]'h).toNat_lt
    omega
  · omega
theorem dec_width (s : ByteArray) (pos : Nat) (h : pos < s.size) : 1 ≤ (Utf8.decode s pos).2 ∧ pos + (Utf8.decode s pos).2 ≤ s.size := by
  refine ⟨Lib.decode_width_pos s pos h, ?_⟩
  have h1 := Lib.width_le (s.extract pos s.size) (by simp; omega)
  rw [Lib.tail_decode, Nat.add_zero] at h1
  simp at h1
  omega
theorem dec_go (s : ByteArray) (pos : Nat) (h : pos < s.size) : Lib.decodeGo (s.extract pos s.size) = Utf8.decode s pos := by
  unfold Lib.decodeGo
  rw [if_neg (by simp; omega), Lib.tail_decode, Nat.add_zero]
theorem iter_grown (w : World) (k : Nat) (s : ByteArray) (p : Nat) : w.grownBy (w.iterAt k s p) (some k) :=
  ⟨rfl, rfl, rfl, by rw [Lib.iterAt_size]; exact Nat.le_refl _, fun j _ hj => Lib.iterAt_other w k j s p (fun e => hj (by rw [e]))⟩
theorem OwnI.ofKept {w w' : World} {base : Nat} {v : Value} {l : List Int} {g : Nat} (h : OwnI w base v l) (hg : w.grownBy w' (some g)) (hne : v.ownBlock ≠ some g) : OwnI w' base v l := World.ownsRow.kept h hg (.inr hne)

set_option maxRecDepth 100000 in
set_option maxHeartbeats 4000000 in
theorem dBytes_any (s : ByteArray) (w : World) (hs : s.size ≤ 1048576) :
    Calls Tryd.prog 61 #[.string s] w fun e w' => ∃ v, e = .returned v ∧ OwnI w' w.heap.size v (byL s s.size) ∧ Kp w w' := by
  obtain ⟨j0, hj0, hz0, hs0, hb0⟩ := info_parts infoInt
  go_enter Tryd.func61, Tryd.ntmps61
  go_wp2_with fail
  go_loopw [3, 4] (fun v iv wr => ∃ k : Nat, k ≤ s.size ∧ iv = .int .i64 k ∧ Hid (OwnI wr w.heap.size v (byL s k)) ∧ Kp w wr) (fun _ iv _ => s.size - (intOf iv).toNat)
  case atStart => exact ⟨0, by omega, rfl, Lib.hid (OwnI.nil _ _), Kp.refl _⟩
  case round =>
    obtain ⟨k, hk, rfl, hO, kr⟩ := hrel
    by_cases hlt : k < s.size
    · have hlt' : (k : Int) < (s.size : Int) := by omega
      have HS := Lib.hid (show byL s (k + 1) = byL s k ++ [byI s k] from rfl)
      have hX := byI_at s k hlt
      have hb := byI_bd s k
      have hln := Lib.hid (byL_len s k)
      generalize byL s k = L at hO HS hln
      generalize byI s k = X at *
      obtain ⟨Y, hY⟩ : ∃ Y, (s[k]'hlt).toNat = Y := ⟨_, rfl⟩
      rw [hY] at hX
      have eY : IntKind.i64.wrap (Y : Int) = (Y : Int) := IntWalk.i64_in _ (by omega)
      subst hX
      have hz := kr.size
      go_wp2_with (at_builtin; refine wpList_append_own_at _ rfl (.tmp 11) (.tmp 16) 53 rfl w.heap.size 3 j0 (.int .i64 0) 1 8 Tryd.underlying53 hj0 hz0 hs0 hb0 rfl (by decide) _ L.length (cellsI L) rfl (World.ownsRow.alloc hO.out _) ⟨wr.heap.size, 0, none⟩ 1 1 [.int .i64 (Y : Int)] rfl rfl (one_cell _ _ _) (by simp [Value.oneCell']) (by have := hln.out; simp only [maxLen]; omega) (by have := hln.out; omega) (by simp; omega) ?_; intro v' w3 hown2 hgrow2 hnil2 hat2; clear hnil2 hat2; have O3 : Hid (OwnI w3 w.heap.size v' (byL s (k + 1))) := Lib.hid (by rw [HS.out]; exact OwnI.snoc hown2); have K3 : Kp w w3 := (kr.alloc _).grown hgrow2 (fun k e => (World.ownsRow.lt hO.out k e).1); clear hown2 hgrow2)
      go_roundw
      case rel => exact ⟨k + 1, by omega, by go_num, O3, K3⟩
      case measure => simp [intOf]; omega
    · obtain rfl : k = s.size := by omega
      go_wp2_with fail
      go_ret
      exact ⟨_, rfl, hO.out, kr⟩

set_option maxRecDepth 100000 in
set_option maxHeartbeats 8000000 in
theorem bytesOf_any (s : ByteArray) (w : World) (hs : s.size ≤ 1048576) (hT : Lib.Utf8Tabs 6 7 w) :
    Calls Tryd.prog 62 #[.string s] w fun e w' => ∃ v, e = .returned v ∧ OwnI w' w.heap.size v (byL s s.size) ∧ Kp w w' := by
  obtain ⟨j0, hj0, hz0, hs0, hb0⟩ := info_parts infoInt
  have HT := Lib.hid hT
  clear hT
  have hmk := mkInts0 s.size hs w
  have own0 : Hid (OwnI ((w.alloc (.cells (madeCells #[.int .i64 0] s.size) 3)).alloc (.stringIter s 0)) w.heap.size (.slice (some ⟨w.heap.size, 0, none⟩) 0 s.size) (byL s 0)) := Lib.hid ((ownI_made0 w w.heap.size s.size (Nat.le_refl _) hs).keep ((Kp.refl _).alloc _))
  have K0 : Kp w ((w.alloc (.cells (madeCells #[.int .i64 0] s.size) 3)).alloc (.stringIter s 0)) := ((Kp.refl _).alloc _).alloc _
  have I0 : ((w.alloc (.cells (madeCells #[.int .i64 0] s.size) 3)).alloc (.stringIter s 0)).heap[w.heap.size + 1]? = some (.stringIter s 0) := by
    have := World.iter_heap (w.alloc (.cells (madeCells #[.int .i64 0] s.size) 3)) s 0
    simpa [World.iter] using this
  go_enter Tryd.func62, Tryd.ntmps62
  go_wp2_with fail
  go_loopw [3] (fun v wr => ∃ pos : Nat, pos ≤ s.size ∧ Hid (OwnI wr w.heap.size v (byL s pos)) ∧ Hid (v.ownBlock ≠ some (w.heap.size + 1)) ∧ wr.heap[w.heap.size + 1]? = some (.stringIter s pos) ∧ Kp w wr) (fun _ wr => s.size - wr.iterPos (w.heap.size + 1))
  case atStart => exact ⟨0, by omega, own0, Lib.hid (by simp [Value.ownBlock]), I0, K0⟩
  case round =>
    clear own0 K0 I0 hmk
    obtain ⟨pos, hpos, hO, hne, hit, kr⟩ := hrel
    have hsz : w.heap.size + 1 < wr.heap.size := (Array.getElem?_eq_some_iff.1 hit).1
    by_cases hp : pos < s.size
    · have hnx : ∀ ty, (Instr.next (.pointer (some ⟨w.heap.size + 1, 0, none⟩)) true ty).run Tryd.prog wr = _ := fun ty => Lib.run_next_any_at wr (w.heap.size + 1) s pos ty hit hp
      have hwd := dec_width s pos hp
      by_cases ha : (s[pos]'hp).toNat < 128
      · have hdec := decode_ascii s pos hp ha
        have hX := byI_at s pos hp
        have HS := Lib.hid (show byL s (pos + 1) = byL s pos ++ [byI s pos] from rfl)
        have hln := Lib.hid (byL_len s pos)
        simp only [hdec] at hnx
        generalize (s[pos]'hp).toNat = Y at *
        generalize byI s pos = X at *
        generalize byL s pos = L at *
        subst hX
        have ha' : (Y : Int) < 128 := by omega
        have eY : IntKind.i64.wrap (Y : Int) = (Y : Int) := IntWalk.i64_in _ (by omega)
        have hO1 := Lib.hid (hO.out.ofKept (iter_grown wr (w.heap.size + 1) s (pos + 1)) hne.out)
        have hit1 := Lib.iterAt_heap wr (w.heap.size + 1) s pos (pos + 1) hit
        have kr1 : Kp w (wr.iterAt (w.heap.size + 1) s (pos + 1)) := Lib.below_iterAt kr (by omega) s (pos + 1)
        have hz1 : w.heap.size + 1 < (wr.iterAt (w.heap.size + 1) s (pos + 1)).heap.size := by rw [Lib.iterAt_size]; exact hsz
        go_upto_region 5 with fail
        clear hnx hO hwd hdec
        generalize wr.iterAt (w.heap.size + 1) s (pos + 1) = W1 at *
        go_wp2_with (at_builtin; refine wpList_append_own_at _ rfl (.tmp 20) (.tmp 23) 53 rfl w.heap.size 3 j0 (.int .i64 0) 1 8 Tryd.underlying53 hj0 hz0 hs0 hb0 rfl (by decide) _ L.length (cellsI L) rfl (World.ownsRow.alloc hO1.out _) ⟨W1.heap.size, 0, none⟩ 1 1 [.int .i64 (Y : Int)] rfl rfl (one_cell _ _ _) (by simp [Value.oneCell']) (by have := hln.out; simp only [maxLen]; omega) (by have := hln.out; omega) (by simp; omega) ?_; intro v' w3 hown2 hgrow2 hnil2 hat2; clear hnil2; have O3 : Hid (OwnI w3 w.heap.size v' (byL s (pos + 1))) := Lib.hid (by rw [HS.out]; exact OwnI.snoc hown2); have K3 : Kp w w3 := (kr1.alloc _).grown hgrow2 (fun k e => (World.ownsRow.lt hO1.out k e).1); have HG3 := Lib.hid hgrow2; have HA3 := Lib.hid hat2; clear hown2 hgrow2 hat2)
        have hne3 : Hid (v'.ownBlock ≠ some (w.heap.size + 1)) := Lib.hid (fun e => by
          rcases HA3.out with h | h
          · exact hne.out (h.symm.trans e)
          · rw [h] at e
            simp at e
            omega)
        have hit3 : w3.heap[w.heap.size + 1]? = some (.stringIter s (pos + 1)) := (HG3.out.block (w.heap.size + 1) (by simp; omega) (fun e => hne.out e.symm)).trans ((heap_alloc_old W1 _ (by omega)).trans hit1)
        go_roundw
        case rel => exact ⟨pos + 1, by omega, O3, hne3, hit3, K3⟩
        case measure =>
          simp only [World.iterPos, hit3, hit]
          omega
      · have hhi := decode_high s pos hp (by omega)
        have hgo := dec_go s pos hp
        have hle := decode_le s pos
        have C := Lib.hid (fun w hT => Tryd.utf8_DecodeRuneInString (s.extract pos s.size) w hT)
        rw [hgo] at C
        clear hgo
        generalize (Utf8.decode s pos).1 = R at *
        generalize (Utf8.decode s pos).2 = K at *
        have hge : 128 ≤ (R : Int) := by omega
        have hO1 := Lib.hid (hO.out.ofKept (iter_grown wr (w.heap.size + 1) s (pos + K)) hne.out)
        have hit1 := Lib.iterAt_heap wr (w.heap.size + 1) s pos (pos + K) hit
        have kr1 : Kp w (wr.iterAt (w.heap.size + 1) s (pos + K)) := Lib.below_iterAt kr (by omega) s (pos + K)
        have hz1 : w.heap.size + 1 < (wr.iterAt (w.heap.size + 1) s (pos + K)).heap.size := by rw [Lib.iterAt_size]; exact hsz
        have hps : (pos : Int) ≤ (s.size : Int) := by omega
        go_upto_region 7 with fail
        clear hnx hO hhi
        generalize wr.iterAt (w.heap.size + 1) s (pos + K) = W1 at *
        go_wp2_with fail
        refine (C.out _ (by first | exact Lib.Utf8Tabs_below HT.out kr1 | exact Utf8Tabs_below HT.out kr1)).mono ?_
        rintro e2 w2 ⟨rfl, k2⟩
        have hO2 := Lib.hid (hO1.out.keep k2)
        have hit2 : w2.heap[w.heap.size + 1]? = some (.stringIter s (pos + K)) := (k2.block (w.heap.size + 1) (by omega)).trans hit1
        have kr2 := kr1.trans k2
        clear hO1 hit1 kr1 k2
        go_wp2_with fail
        go_loopw [3, 33] (fun v iv wz => ∃ j : Nat, j ≤ K ∧ iv = .int .i64 j ∧ Hid (OwnI wz w.heap.size v (byL s (pos + j))) ∧ Hid (v.ownBlock ≠ some (w.heap.size + 1)) ∧ wz.heap[w.heap.size + 1]? = some (.stringIter s (pos + K)) ∧ Kp w wz) (fun _ iv _ => K - (intOf iv).toNat)
        case atStart => exact ⟨0, by omega, rfl, hO2, hne, hit2, kr2⟩
        case round =>
          clear hO2 hit2 kr2 hne
          obtain ⟨j, hj, rfl, hO, hne, hit2, kr2⟩ := hrel
          have hsz2 : w.heap.size + 1 < wr.heap.size := (Array.getElem?_eq_some_iff.1 hit2).1
          by_cases hlt : j < K
          · have hlt' : (j : Int) < K := by omega
            obtain ⟨J, hJ⟩ : ∃ J, J = pos + j := ⟨_, rfl⟩
            have eJ : IntKind.i64.wrap ((pos : Int) + (j : Int)) = (J : Int) := by rw [IntWalk.i64_in _ (by omega)]; omega
            have hJs : J < s.size := by omega
            have hJs' : (J : Int) < (s.size : Int) := by omega
            have hX := byI_at s J hJs
            have HS : Hid (byL s (pos + (j + 1)) = byL s J ++ [byI s J]) := Lib.hid (by rw [hJ]; rfl)
            rw [← hJ] at hO
            have hln := Lib.hid (byL_len s J)
            have hb := byI_bd s J
            obtain ⟨Y, hY⟩ : ∃ Y, (s[J]'hJs).toNat = Y := ⟨_, rfl⟩
            rw [hY] at hX
            generalize byI s J = X at *
            generalize byL s J = L at *
            subst hX
            have eY : IntKind.i64.wrap (Y : Int) = (Y : Int) := IntWalk.i64_in _ (by omega)
            have hz := kr2.size
            clear hJ
            go_wp2_with (at_builtin; refine wpList_append_own_at _ rfl (.tmp 36) (.tmp 43) 53 rfl w.heap.size 3 j0 (.int .i64 0) 1 8 Tryd.underlying53 hj0 hz0 hs0 hb0 rfl (by decide) _ L.length (cellsI L) rfl (World.ownsRow.alloc hO.out _) ⟨wr.heap.size, 0, none⟩ 1 1 [.int .i64 (Y : Int)] rfl rfl (one_cell _ _ _) (by simp [Value.oneCell']) (by have := hln.out; simp only [maxLen]; omega) (by have := hln.out; omega) (by simp; omega) ?_; intro v' w3 hown2 hgrow2 hnil2 hat2; clear hnil2; have O3 : Hid (OwnI w3 w.heap.size v' (byL s (pos + (j + 1)))) := Lib.hid (by rw [HS.out]; exact OwnI.snoc hown2); have K3 : Kp w w3 := (kr2.alloc _).grown hgrow2 (fun k e => (World.ownsRow.lt hO.out k e).1); have HG3 := Lib.hid hgrow2; have HA3 := Lib.hid hat2; clear hown2 hgrow2 hat2)
            have hne3 : Hid (v'.ownBlock ≠ some (w.heap.size + 1)) := Lib.hid (fun e => by
              rcases HA3.out with h | h
              · exact hne.out (h.symm.trans e)
              · rw [h] at e
                simp at e
                omega)
            have hit3 : w3.heap[w.heap.size + 1]? = some (.stringIter s (pos + K)) := (HG3.out.block (w.heap.size + 1) (by simp; omega) (fun e => hne.out e.symm)).trans ((heap_alloc_old wr _ (by omega)).trans hit2)
            go_roundw
            case rel => exact ⟨j + 1, by omega, by go_num, O3, hne3, hit3, K3⟩
            case measure => simp [intOf]; omega
          · obtain rfl : j = K := by omega
            go_wp2_with fail
            go_roundw
            case rel => exact ⟨pos + j, by omega, hO, hne, hit2, kr2⟩
            case measure =>
              simp only [World.iterPos, hit2, hit]
              omega
    · have hnx : ∀ ty, (Instr.next (.pointer (some ⟨w.heap.size + 1, 0, none⟩)) true ty).run Tryd.prog wr = _ := fun ty => Lib.run_next_end_at wr (w.heap.size + 1) s pos ty hit hp
      obtain rfl : pos = s.size := by omega
      go_wp2_with fail
      go_ret
      exact ⟨_, rfl, hO.out, kr⟩

end Go.Proofs.YtnobcpgckdgheaaDoor
