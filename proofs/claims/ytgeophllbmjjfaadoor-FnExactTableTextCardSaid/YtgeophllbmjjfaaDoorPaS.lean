/-
  The reference's readers of texts: splitting at a byte, small numbers, digits. Nothing that was there is changed.
-/
import Derived.Test.YtgeophllbmjjfaaDoorPaM
import Derived.Test.YtgeophllbmjjfaaDoorSpB
import Derived.Test.YtgeophllbmjjfaaDoorRowC
import Derived.Maps.AppendAt
import Derived.Deep.Cut
import Derived.Laws.Strings3
namespace Go.Proofs.YtgeophllbmjjfaaDoor
open Go.RowKit

def tx (l : List UInt8) : ByteArray := ⟨l.toArray⟩
theorem tx_of (s : ByteArray) : tx s.data.toList = s := by
  apply ByteArray.ext
  simp [tx]
/-- The slice v owns the texts l, in a block from base on. -/
def OwnS (w : World) (base : Nat) (v : Value) (l : List ByteArray) : Prop := w.ownsRow base 9 1 v l.length (l.map Value.string)
theorem OwnS.keep {w w' : World} {base : Nat} {v : Value} {l : List ByteArray} (h : OwnS w base v l) (hk : Kp w w') : OwnS w' base v l := ownsRow_keep h hk
theorem OwnS.nil (w : World) (base : Nat) : OwnS w base (.slice none 0 0) [] := World.ownsRow_nil w base _ 1
theorem OwnS.base {w : World} {base b : Nat} {v : Value} {l : List ByteArray} (h : OwnS w base v l) (hb : b ≤ base) : OwnS w b v l := ownsRow_base h hb
theorem OwnS.snoc {w : World} {base : Nat} {v : Value} {l : List ByteArray} {x : ByteArray} (h : w.ownsRow base 9 1 v (l.length + 1) (l.map Value.string ++ [.string x])) : OwnS w base v (l ++ [x]) := by
  unfold OwnS
  rw [List.map_append, List.length_append]
  exact h
/-- The slice v reads as the texts l. -/
def RdS (w : World) (v : Value) (l : List ByteArray) : Prop :=
  ∃ A c, v = .slice A l.length c ∧ (0 < l.length → ∃ g off, A = some ⟨g, off, none⟩ ∧ ∀ i x, l[i]? = some x → w.cell? ⟨g, off + i, none⟩ = some (.string x))
theorem RdS.keep {w w' : World} {v : Value} {l : List ByteArray} (h : RdS w v l) (hk : Kp w w') : RdS w' v l := by
  obtain ⟨A, c, rfl, h⟩ := h
  refine ⟨A, c, rfl, fun h0 => ?_⟩
  obtain ⟨g, off, rfl, hc⟩ := h h0
  exact ⟨g, off, rfl, fun i x hx => hk.cell (hc i x hx)⟩
theorem OwnS.rd {w : World} {base : Nat} {v : Value} {l : List ByteArray} (h : OwnS w base v l) : RdS w v l := by
  rcases h.2 with ⟨rfl, hn⟩ | ⟨g, cap, cur, rfl, hb, hg, hc, hm, hs, ht⟩
  · exact ⟨none, 0, by rw [hn], fun h0 => by omega⟩
  · refine ⟨_, _, rfl, fun _ => ⟨g, 0, rfl, fun i x hx => ?_⟩⟩
    have hi : i < l.length := (List.getElem?_eq_some_iff.1 hx).1
    rw [Nat.zero_add]
    exact (World.ownsRow.cellAt h i (by omega)).trans (by simp [hx])
theorem infoStrP : (Tryd.prog.info? 9).map (fun i => (i.zero, i.size, i.bytes)) = some (some (.string ⟨#[]⟩), 1, 16) := by kernel_rfl
theorem one_strP (w : World) (x : Value) (t : TypeId) : ∀ (j : Nat) u, [x][j]? = some u → (w.alloc (.cells #[x] t)).cell? ((⟨w.heap.size, 0, none⟩ : Addr).add j) = some u := by
  intro j u hj
  match j, hj with
  | 0, hj => simp at hj; subst hj; simp [Addr.add]
theorem at_byte (s : ByteArray) (k : Nat) (h : k < s.size) : s.data.toList[k]? = some (s[k]'h) := by
  rw [List.getElem?_eq_getElem (by simpa using h)]
  rfl
theorem len_byte (s : ByteArray) : s.data.toList.length = s.size := by rw [Array.length_toList]; rfl
theorem ext_tx (s : ByteArray) (f k : Nat) : s.extract f k = tx ((s.data.toList.drop f).take (k - f)) := by
  apply ByteArray.ext
  rw [ByteArray.data_extract]
  apply Array.ext'
  rw [Array.toList_extract]
  rfl
theorem cur_more {L : List UInt8} {f k : Nat} {b : UInt8} (hf : f ≤ k) (hb : L[k]? = some b) : (L.drop f).take (k + 1 - f) = (L.drop f).take (k - f) ++ [b] := by
  rw [show k + 1 - f = (k - f) + 1 by omega, List.take_add_one]
  rw [List.getElem?_drop, show f + (k - f) = k by omega, hb]
  rfl
theorem drop_byte {L : List UInt8} {k : Nat} {b : UInt8} (hb : L[k]? = some b) : L.drop k = b :: L.drop (k + 1) := by
  obtain ⟨h, rfl⟩ := List.getElem?_eq_some_iff.1 hb
  exact List.drop_eq_getElem_cons h
theorem splA_at {L cur : List UInt8} {k : Nat} {b : UInt8} (c : UInt8) (hb : L[k]? = some b) : splA c cur (L.drop k) = if b = c then cur :: splA c [] (L.drop (k + 1)) else splA c (cur ++ [b]) (L.drop (k + 1)) := by
  rw [drop_byte hb]
  rfl

set_option maxRecDepth 100000 in
set_option maxHeartbeats 4000000 in
theorem l1Split_any (s : ByteArray) (w : World) (hs : s.size ≤ 1048576) :
    Calls Tryd.prog 51 #[.string s, .int .u8 32] w fun e w' => ∃ v, e = .returned v ∧ OwnS w' w.heap.size v ((spl 32 s.data.toList).map tx) ∧ Kp w w' := by
  obtain ⟨j0, hj0, hz0, hs0, hb0⟩ := info_parts infoStrP
  have HL := Lib.hid (len_byte s)
  obtain ⟨n, hn⟩ : ∃ n, n = s.size := ⟨_, rfl⟩
  obtain ⟨R, hR⟩ : ∃ R, R = (spl 32 s.data.toList).map tx := ⟨_, rfl⟩
  rw [← hR]
  have HR := Lib.hid hR
  clear hR
  go_enter Tryd.func51, Tryd.ntmps51
  go_wp2_with fail
  go_loopw [5, 6, 7] (fun v fv iv wr => ∃ (k f : Nat) (W : List ByteArray), k ≤ s.size ∧ f ≤ k ∧ W.length ≤ k ∧ iv = .int .i64 k ∧ fv = .int .i64 f ∧ Hid (OwnS wr w.heap.size v W) ∧ Hid (W ++ (splA 32 ((s.data.toList.drop f).take (k - f)) (s.data.toList.drop k)).map tx = R) ∧ Kp w wr) (fun _ _ iv _ => s.size - (intOf iv).toNat)
  case atStart => exact ⟨0, 0, [], by omega, by omega, by simp, rfl, rfl, Lib.hid (OwnS.nil _ _), Lib.hid (by rw [HR.out]; simp [spl]), Kp.refl w⟩
  case round =>
    obtain ⟨k, f, W, hk, hf, hW, rfl, rfl, hO, hE, kr⟩ := hrel
    by_cases hlt : k < s.size
    · have hlt' : (k : Int) < (s.size : Int) := by omega
      have hX := at_byte s k hlt
      have HP := Lib.hid (splA_at (cur := (s.data.toList.drop f).take (k - f)) 32 hX)
      have HC := Lib.hid (cur_more hf hX)
      have hb := (s[k]'hlt).toNat_lt
      obtain ⟨Y, hY⟩ : ∃ Y, (s[k]'hlt).toNat = Y := ⟨_, rfl⟩
      have hz := kr.size
      by_cases h32 : s[k]'hlt = 32
      · have hY2 : Y = 32 := by rw [← hY, h32]; rfl
        rw [hY2] at hY
        have HX := Lib.hid (ext_tx s f k)
        have hkf : (f : Int) ≤ (k : Int) := by omega
        have hE2 : Hid (W ++ [s.extract f k] ++ (splA 32 ((s.data.toList.drop (k + 1)).take (k + 1 - (k + 1))) (s.data.toList.drop (k + 1))).map tx = R) := Lib.hid (by
          rw [← hE.out, HP.out, if_pos h32, HX.out]
          simp)
        obtain ⟨x, hx⟩ : ∃ x, s.extract f k = x := ⟨_, rfl⟩
        rw [hx] at hE2
        clear hX hY2 h32
        go_wp2_with (at_builtin; refine wpList_append_own_at _ rfl (.tmp 19) (.tmp 24) 45 rfl w.heap.size 9 j0 (.string ⟨#[]⟩) 1 16 Tryd.underlying45 hj0 hz0 hs0 hb0 rfl (by decide) _ W.length (W.map Value.string) rfl (World.ownsRow.alloc hO.out _) ⟨wr.heap.size, 0, none⟩ 1 1 [.string x] rfl rfl (one_strP _ _ _) (by simp [Value.oneCell']) (by simp only [maxLen]; omega) (by omega) (by simp; omega) ?_; intro v' w3 hown2 hgrow2 hnil2 hat2; clear hnil2 hat2; have O3 : Hid (OwnS w3 w.heap.size v' (W ++ [x])) := Lib.hid (OwnS.snoc hown2); have K3 : Kp w w3 := (kr.alloc _).grown hgrow2 (fun k e => (World.ownsRow.lt hO.out k e).1); clear hown2 hgrow2)
        go_roundw
        case rel => exact ⟨k + 1, k + 1, W ++ [x], by omega, by omega, by simp; omega, by go_num, by go_num, O3, hE2, K3⟩
        case measure => simp [intOf]; omega
      · have hY2 : ¬ Y = 32 := fun e => h32 (by
          apply UInt8.toNat_inj.1
          rw [hY, e]
          rfl)
        have hY3 : ((Y : Int) == 32) = false := by simp; omega
        have hY4 : ¬ (Y : Int) = 32 := by omega
        have hE2 : Hid (W ++ (splA 32 ((s.data.toList.drop f).take (k + 1 - f)) (s.data.toList.drop (k + 1))).map tx = R) := Lib.hid (by
          rw [← hE.out, HP.out, if_neg h32, HC.out])
        clear hX h32
        go_wp2_with fail
        go_roundw
        case rel => exact ⟨k + 1, f, W, by omega, by omega, by omega, by go_num, rfl, hO, hE2, kr⟩
        case measure => simp [intOf]; omega
    · obtain rfl : k = s.size := by omega
      have HX := Lib.hid (ext_tx s f s.size)
      have hkf : (f : Int) ≤ (s.size : Int) := by omega
      have hE2 : Hid (W ++ [s.extract f s.size] = R) := Lib.hid (by
        rw [← hE.out, HX.out, List.drop_of_length_le (l := s.data.toList) (i := s.size) (by rw [HL.out]; omega)]
        simp [splA])
      obtain ⟨x, hx⟩ : ∃ x, s.extract f s.size = x := ⟨_, rfl⟩
      rw [hx] at hE2
      have hz := kr.size
      go_wp2_with (at_builtin; refine wpList_append_own_at _ rfl (.tmp 28) (.tmp 32) 45 rfl w.heap.size 9 j0 (.string ⟨#[]⟩) 1 16 Tryd.underlying45 hj0 hz0 hs0 hb0 rfl (by decide) _ W.length (W.map Value.string) rfl (World.ownsRow.alloc hO.out _) ⟨wr.heap.size, 0, none⟩ 1 1 [.string x] rfl rfl (one_strP _ _ _) (by simp [Value.oneCell']) (by simp only [maxLen]; omega) (by omega) (by simp; omega) ?_; intro v' w3 hown2 hgrow2 hnil2 hat2; clear hnil2 hat2; have O3 : Hid (OwnS w3 w.heap.size v' (W ++ [x])) := Lib.hid (OwnS.snoc hown2); have K3 : Kp w w3 := (kr.alloc _).grown hgrow2 (fun k e => (World.ownsRow.lt hO.out k e).1); clear hown2 hgrow2)
      go_ret
      exact ⟨_, rfl, by rw [← hE2.out]; exact O3.out, K3⟩

def p10 (k : Nat) : Int := 10 ^ k
theorem p10_more (k : Nat) : p10 (k + 1) = 10 * p10 k := by rw [p10, Int.pow_succ, Int.mul_comm]; rfl
theorem p10_le {k : Nat} (h : k ≤ 6) : 1 ≤ p10 k ∧ p10 k ≤ 1000000 := by
  have : k = 0 ∨ k = 1 ∨ k = 2 ∨ k = 3 ∨ k = 4 ∨ k = 5 ∨ k = 6 := by omega
  rcases this with rfl | rfl | rfl | rfl | rfl | rfl | rfl <;> decide

set_option maxRecDepth 100000 in
set_option maxHeartbeats 4000000 in
theorem l1Read_any (s : ByteArray) (w : World) (hs : s.size ≤ 1048576) :
    Calls Tryd.prog 65 #[.string s] w fun e w' => e = .returned (.int .i64 (rdP s.data.toList)) ∧ w = w' := by
  have HL := Lib.hid (len_byte s)
  have C0 := Lib.hid (l1In_sp (s.size : Int) 1 6 w)
  obtain ⟨R, hR⟩ : ∃ R, R = rdP s.data.toList := ⟨_, rfl⟩
  rw [← hR]
  have HR := Lib.hid hR
  clear hR
  cases h0 : spB 1 6 (s.size : Int)
  · have hf : Hid (R = -1) := Lib.hid (by
      have : rdOk s.data.toList = false := by
        simp only [rdOk, HL.out]
        simp [spB] at h0
        by_cases h1 : 1 ≤ s.size
        · have : decide (s.size ≤ 6) = false := decide_eq_false (by omega)
          rw [this]
          simp
        · have : decide (1 ≤ s.size) = false := decide_eq_false h1
          rw [this]
          rfl
      rw [HR.out, rdP, if_neg (by rw [this]; simp)])
    rw [h0] at C0
    clear h0
    go_enter Tryd.func65, Tryd.ntmps65
    go_wp2_with fail
    refine C0.out.mono ?_
    rintro e1 w1 ⟨rfl, rfl⟩
    go_wp2_with fail
    go_ret
    exact ⟨ret_int hf.out.symm, rfl⟩
  · rw [h0] at C0
    have hn : (1 : Int) ≤ (s.size : Int) ∧ (s.size : Int) ≤ 6 := by simpa [spB] using h0
    clear h0
    have hs0 : 0 < s.size := by omega
    have hs0' : (0 : Int) < (s.size : Int) := by omega
    have hX := at_byte s 0 hs0
    by_cases hz : s[0]'hs0 = 48 ∧ 1 < s.size
    · have hf : Hid (R = -1) := Lib.hid (by
        have h9 : s.data.toList.head? = some 48 := by rw [List.head?_eq_getElem?, hX, hz.1]
        have : rdOk s.data.toList = false := by
          simp only [rdOk, HL.out, h9]
          simp [hz.2]
        rw [HR.out, rdP, if_neg (by rw [this]; simp)])
      have hz1 : (s[0]'hs0).toNat = 48 := by rw [hz.1]; rfl
      have hz2 : (1 : Int) < (s.size : Int) := by omega
      clear hX hz
      go_enter Tryd.func65, Tryd.ntmps65
      go_wp2_with fail
      refine C0.out.mono ?_
      rintro e1 w1 ⟨rfl, rfl⟩
      go_wp2_with fail
      go_ret
      exact ⟨ret_int hf.out.symm, rfl⟩
    · have HOK : Hid (rdOk s.data.toList = true) := Lib.hid (by
        simp only [rdOk, HL.out]
        have a1 : decide (1 ≤ s.size) = true := decide_eq_true (by omega)
        have a2 : decide (s.size ≤ 6) = true := decide_eq_true (by omega)
        rw [a1, a2, List.head?_eq_getElem?, hX]
        simp only [Bool.true_and, Bool.not_eq_true', Bool.and_eq_false_iff, decide_eq_false_iff_not]
        by_cases h1 : s[0]'hs0 = 48
        · exact .inr (fun h => hz ⟨h1, h⟩)
        · exact .inl (fun e => h1 (Option.some.inj e)))
      have hn4 : ∃ Z : Nat, (s[0]'hs0).toNat = Z ∧ (((Z : Int) == 48) = false ∨ (((Z : Int) == 48) = true ∧ ¬ (1 : Int) < (s.size : Int))) := by
        refine ⟨_, rfl, ?_⟩
        by_cases h1 : s[0]'hs0 = 48
        · exact .inr ⟨by rw [h1]; rfl, fun h => hz ⟨h1, by omega⟩⟩
        · refine .inl ?_
          have : ¬ (s[0]'hs0).toNat = 48 := fun e => h1 (UInt8.toNat_inj.1 (by rw [e]; rfl))
          simp
          omega
      obtain ⟨Z, hZ, hZ2⟩ := hn4
      clear hX hz
      have hLoop : Hid (∀ k : Nat, k < s.size → True) := Lib.hid (fun _ _ => trivial)
      clear hLoop
      rcases hZ2 with hZ2 | ⟨hZ2, hZ3⟩
      all_goals
        go_enter Tryd.func65, Tryd.ntmps65
        go_wp2_with fail
        refine C0.out.mono ?_
        rintro e1 w1 ⟨rfl, rfl⟩
        go_wp2_with fail
        go_loop [3, 4] (fun nv iv => ∃ (k : Nat) (a : Int), k ≤ s.size ∧ iv = .int .i64 k ∧ nv = .int .i64 a ∧ Hid (a = (s.data.toList.take k).foldl dvS 0) ∧ Hid (0 ≤ a ∧ a + 1 ≤ p10 k) ∧ Hid ((s.data.toList.take k).all isDg = true)) (fun _ iv => s.size - (intOf iv).toNat)
        case atStart => exact ⟨0, 0, by omega, rfl, rfl, Lib.hid rfl, Lib.hid (by decide), Lib.hid rfl⟩
        case round =>
          clear hZ hZ2
          obtain ⟨k, a, hk, rfl, rfl, hA, hB, hD⟩ := hrel
          by_cases hlt : k < s.size
          · have hlt' : (k : Int) < (s.size : Int) := by omega
            have hX := at_byte s k hlt
            have hb := (s[k]'hlt).toNat_lt
            have hk6 := p10_le (k := k) (by omega)
            have hB1 := hB.out.1
            have hB2 := hB.out.2
            have hab : 0 ≤ a ∧ a ≤ 999999 := by omega
            by_cases hdg : isDg (s[k]'hlt) = true
            · have hA2 : Hid (10 * a + (((s[k]'hlt).toNat : Int) - 48) = (s.data.toList.take (k + 1)).foldl dvS 0) := Lib.hid (by
                rw [List.take_add_one, hX, List.foldl_append, ← hA.out]
                rfl)
              have hD2 : Hid ((s.data.toList.take (k + 1)).all isDg = true) := Lib.hid (by
                rw [List.take_add_one, hX, List.all_append, hD.out]
                simp [hdg])
              have hd2 : 48 ≤ (s[k]'hlt).toNat ∧ (s[k]'hlt).toNat ≤ 57 := by simpa [isDg] using hdg
              obtain ⟨Y, hY⟩ : ∃ Y, (s[k]'hlt).toNat = Y := ⟨_, rfl⟩
              rw [hY] at hA2 hd2 hb
              have hB3 : Hid (0 ≤ 10 * a + ((Y : Int) - 48) ∧ 10 * a + ((Y : Int) - 48) + 1 ≤ p10 (k + 1)) := Lib.hid (by rw [p10_more]; omega)
              have y1 : ¬ (Y : Int) < 48 := by omega
              have y2 : ¬ 57 < (Y : Int) := by omega
              have y3 : IntKind.u8.wrap ((Y : Int) - 48) = (Y : Int) - 48 := by simp [IntKind.wrap, IntKind.bits, IntKind.signed]; omega
              have y4 : IntKind.i64.wrap ((Y : Int) - 48) = (Y : Int) - 48 := IntWalk.i64_in _ (by omega)
              have y5 : IntKind.i64.wrap (10 * a) = 10 * a := IntWalk.i64_in _ (by omega)
              have y6 : IntKind.i64.wrap (10 * a + ((Y : Int) - 48)) = 10 * a + ((Y : Int) - 48) := IntWalk.i64_in _ (by omega)
              clear hX hdg hB1 hB2 hk6
              go_wp2_with fail
              go_round
              case rel => exact ⟨k + 1, _, by omega, by go_num, rfl, hA2, hB3, hD2⟩
              case measure => simp [intOf]; omega
            · have hf : Hid (R = -1) := Lib.hid (by
                have : s.data.toList.all isDg = false := by
                  rw [List.all_eq_false]
                  exact ⟨_, List.mem_of_getElem? hX, by simpa using hdg⟩
                rw [HR.out, rdP, if_neg (by rw [this]; simp)])
              have hd2 : ¬ (48 ≤ (s[k]'hlt).toNat ∧ (s[k]'hlt).toNat ≤ 57) := by simpa [isDg] using hdg
              obtain ⟨Y, hY⟩ : ∃ Y, (s[k]'hlt).toNat = Y := ⟨_, rfl⟩
              rw [hY] at hd2 hb
              clear hX hdg hB1 hB2 hk6
              by_cases y1 : (Y : Int) < 48
              · clear hd2
                go_wp2_with fail
                go_ret
                exact ⟨ret_int hf.out.symm, rfl⟩
              · have y2 : 57 < (Y : Int) := by omega
                clear hd2
                go_wp2_with fail
                go_ret
                exact ⟨ret_int hf.out.symm, rfl⟩
          · obtain rfl : k = s.size := by omega
            have hf : Hid (a = R) := Lib.hid (by
              have h1 := hD.out
              rw [List.take_of_length_le (by rw [HL.out]; omega)] at h1
              rw [HR.out, rdP, if_pos ⟨HOK.out, h1⟩, hA.out, List.take_of_length_le (by rw [HL.out]; omega)])
            go_wp2_with fail
            go_ret
            exact ⟨ret_int hf.out, rfl⟩

end Go.Proofs.YtgeophllbmjjfaaDoor
