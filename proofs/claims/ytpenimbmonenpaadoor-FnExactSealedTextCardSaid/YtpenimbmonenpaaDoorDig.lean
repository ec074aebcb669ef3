/-
  Texts as lists of bytes; a line of digits as the program writes it.
-/
import Derived.Test.YtpenimbmonenpaaDoorBld
import Derived.Test.YtpenimbmonenpaaDoorTxt
import Derived.Test.YtpenimbmonenpaaDoorRdS
namespace Go.Proofs.YtpenimbmonenpaaDoor
open Go.RowKit

/-- A list of bytes as a text. -/
def txt (l : List UInt8) : ByteArray := ⟨l.toArray⟩
theorem txt_app (a b : List UInt8) : txt a ++ txt b = txt (a ++ b) := by
  apply ByteArray.ext
  simp [txt, ByteArray.data_append]
theorem txt_size (l : List UInt8) : (txt l).size = l.length := by simp [txt, ByteArray.size]
theorem decT_txt (n : Nat) : decT n = txt (Lib.decDigits n) := rfl

/-- The digits of numbers, one number behind the other. -/
def digs (l : List Int) : List UInt8 := l.flatMap fun n => Lib.decDigits n.toNat
theorem digs_nil : digs [] = [] := rfl
theorem digs_more {l : List Int} {q : Nat} {x : Int} (h : l[q]? = some x) : digs (l.take (q + 1)) = digs (l.take q) ++ Lib.decDigits x.toNat := by
  rw [List.take_add_one, h]
  simp [digs]
theorem dec_len {n : Nat} (h : n < 100) : (Lib.decDigits n).length ≤ 2 := by
  have e : (Lib.decDigits n).length = Lib.nDigits n := by simp [Lib.decDigits_eq]
  rw [e]
  by_cases h0 : n < 10
  · rw [Lib.nDigits_small h0]; omega
  · rw [Lib.nDigits_big h0, Lib.nDigits_small (by omega)]; omega
theorem digs_len : ∀ (l : List Int), (∀ x ∈ l, 0 ≤ x ∧ x < 100) → (digs l).length ≤ 2 * l.length
  | [], _ => by simp [digs]
  | x :: l, h => by
    have h1 := digs_len l (fun y hy => h y (List.mem_cons_of_mem _ hy))
    have h2 := h x (List.mem_cons_self ..)
    have h3 := dec_len (n := x.toNat) (by omega)
    have e : digs (x :: l) = Lib.decDigits x.toNat ++ digs l := by simp [digs]
    rw [e, List.length_append, List.length_cons]
    omega

end Go.Proofs.YtpenimbmonenpaaDoor
