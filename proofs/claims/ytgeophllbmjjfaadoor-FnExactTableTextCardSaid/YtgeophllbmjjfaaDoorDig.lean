/-
  Texts as lists of bytes; a line of digits as the program writes it.
-/
import Derived.Test.YtgeophllbmjjfaaDoorBld
import Derived.Test.YtgeophllbmjjfaaDoorTxt
import Derived.Test.YtgeophllbmjjfaaDoorRdS
namespace Go.Proofs.YtgeophllbmjjfaaDoor
open Go.RowKit

/-- A list of bytes as a text. -/
def txt (l : List UInt8) : ByteArray := ⟨l.toArray⟩
theorem txt_app (a b : List UInt8) : txt a ++ txt b = txt (a ++ b) := by
  apply ByteArray.ext
  simp [txt, ByteArray.data_append]
theorem txt_size (l : List UInt8) : (txt l).size = l.length := by simp [txt, ByteArray.size]
theorem decT_txt (n : Nat) : decT n = txt (Lib.decDigits n) := rfl

/-- The digits of numbers, one number behind the other. -/
def digs (l : List Int) : List UInt8 := l.flatMap fun n => Lib.decDigits n.toNat
theorem digs_nil : digs [] = [] := rfl
theorem digs_more {l : List Int} {q : Nat} {x : Int} (h : l[q]? = some x) : digs (l.take (q + 1)) = digs (l.take q) ++ Lib.decDigits x.toNat := by
  rw [List.take_add_one, h]
  simp [digs]
theorem dec_len {n : Nat} (h : n < 100) : (Lib.decDigits n).length ≤ 2 := by
  have e : (Lib.decDigits n).length = Lib.nDigits n := by simp [Lib.decDigits_eq]
  rw [e]
  by_cases h0 : n < 10
  · rw [Lib.nDigits_small h0]; omega
  · rw [Lib.nDigits_big h0, Lib.nDigits_small (by omega)]; omega
theorem digs_len : ∀ (l : List Int), (∀ x ∈ l, 0 ≤ x ∧ x < 100) → (digs l).length ≤ 2 * l.length
  | [], _ => by simp [digs]
  | x :: l, h => by
    have h1 := digs_len l (fun y hy => h y (List.mem_cons_of_mem _ hy))
    have h2 := h x (List.mem_cons_self ..)
    have h3 := dec_len (n := x.toNat) (by omega)
    have e : digs (x :: l) = Lib.decDigits x.toNat ++ digs l := by simp [digs]
    rw [e, List.length_append, List.length_cons]
    omega

set_option maxRecDepth 100000 in
set_option maxHeartbeats 2000000 in
theorem digitsOf_any (v : Value) (l : List Int) (w : World) (h : RdI w v l) (hl : l.length ≤ 1048576) (hb : ∀ x ∈ l, 0 ≤ x ∧ x < 100) :
    Calls Tryd.prog 48 #[v] w fun e w' => e = .returned (.string (txt (digs l))) ∧ Kp w w' := by
  obtain ⟨A, c, rfl, hA⟩ := h
  have HA := Lib.hid hA
  have HB := Lib.hid hb
  have HLD := Lib.hid (digs_len l hb)
  obtain ⟨n, hn⟩ : ∃ n, l.length = n := ⟨_, rfl⟩
  rw [hn] at hl hA HLD ⊢
  have HN := Lib.hid hn
  clear hn hA hb
  have F0 := Lib.hid (Lib.fresh_isBuilder 72 5 w)
  go_enter Tryd.func48, Tryd.ntmps48
  go_wp2_with fail
  go_loopw [5, 8] (fun _ i wr => ∃ q : Nat, q ≤ n ∧ i = .int .i64 q ∧ Hid (Lib.IsBuilder 72 5 w.heap.size w.heap.size (Lib.byteCells (digs (l.take q))) wr) ∧ Kp w wr) (fun _ i _ => n - (intOf i).toNat)
  case atStart => exact ⟨0, by omega, rfl, F0, (Kp.refl _).alloc _⟩
  case round =>
    clear F0
    obtain ⟨q, hq, rfl, hB, kr⟩ := hrel
    have hw := kr.size
    by_cases hlt : q < n
    · have hlt' : (q : Int) < n := by omega
      obtain ⟨x, hx⟩ : ∃ x, l[q]? = some x := ⟨l[q]'(by have := HN.out; omega), List.getElem?_eq_getElem _⟩
      obtain ⟨g, off, rfl, hc⟩ := HA.out (by have := HN.out; omega)
      have a0 := kr.cell (hc q x hx)
      have hx1 := HB.out x (List.mem_of_getElem? hx)
      have HM := Lib.hid (digs_more hx)
      have HLQ := Lib.hid (digs_len (l.take q) (fun y hy => HB.out y (List.mem_of_mem_take hy)))
      obtain ⟨m, rfl⟩ : ∃ m : Nat, x = m := ⟨x.toNat, by omega⟩
      have hm : m < 100 := by omega
      clear hx hc hx1
      go_wp2_with fail
      refine (Tryd.strconv_Itoa_small m hm _).mono ?_
      rintro e1 w1 ⟨rfl, rfl⟩
      go_wp2_with fail
      refine (writeString_any w.heap.size w.heap.size _ _ _ hB.out (by
        have h1 := HLQ.out
        have h2 := dec_len hm
        rw [Lib.byteCells_length]
        rw [List.length_take] at h1
        simp only [ByteArray.size, List.size_toArray]
        omega) hw).mono ?_
      rintro e2 w2 ⟨⟨r, rfl⟩, hb2, kb2⟩
      have HB2 : Hid (Lib.IsBuilder 72 5 w.heap.size w.heap.size (Lib.byteCells (digs (l.take (q + 1)))) w2) := Lib.hid (by
        rw [HM.out, Lib.byteCells_append]
        exact .inr hb2)
      have KB2 : Kp w w2 := Below.trans kr kb2
      go_wp2_with fail
      go_roundw
      case rel => exact ⟨q + 1, by omega, by go_num, HB2, KB2⟩
      case measure => simp [intOf]; omega
    · obtain rfl : q = n := by omega
      have HT := Lib.hid (show l.take q = l from List.take_of_length_le (by rw [HN.out]; omega))
      rw [HT.out] at hB
      go_wp2_with fail
      refine (Tryd.Builder_String_any w.heap.size w.heap.size _ _ hB.out hw).mono ?_
      rintro e1 w1 ⟨rfl, k1⟩
      go_wp2_with fail
      go_ret
      exact ⟨rfl, Below.trans kr k1⟩
theorem digitsLine_any (v : Value) (l : List Int) (w : World) (h : RdI w v l) (hl : l.length ≤ 1048576) (hb : ∀ x ∈ l, 0 ≤ x ∧ x < 100) :
    Calls Tryd.prog 23 #[v] w fun e w' => e = .returned (.string (txt (digs l ++ [10]))) ∧ Kp w w' := by
  have C := Lib.hid (digitsOf_any v l w h hl hb)
  have hz : ¬ 9223372036854775807 < (txt (digs l)).size + (ByteArray.mk #[10]).size := by
    have := digs_len l hb
    rw [txt_size, show (ByteArray.mk #[10]).size = 1 from rfl]
    omega
  clear h hl hb
  go_enter Tryd.func23, Tryd.ntmps23
  go_wp2_with fail
  refine C.out.mono ?_
  rintro e1 w1 ⟨rfl, k1⟩
  go_wp2_with fail
  go_ret
  exact ⟨by rw [← txt_app]; rfl, k1⟩
end Go.Proofs.YtgeophllbmjjfaaDoor
