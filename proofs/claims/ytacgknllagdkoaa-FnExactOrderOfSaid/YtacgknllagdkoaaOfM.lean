/-
  The laws' marks of an order: its path's own cells. What else there was stays.
-/
import Derived.Test.YtacgknllagdkoaaOfH
import Derived.Test.YtacgknllagdkoaaOrV
import Derived.Test.YtacgknllagdkoaaMarkN
namespace Go.Proofs.Ytacgknllagdkoaa
open Go.ChangeShapes Go.WideShapes Go.ChangeAt Go.RowKit Go.Joins Go.Deep

theorem fnd_len (u : Int) : ∀ {l : List Odr}, smO l → ((fndO u l).getD noO).p.length ≤ 1048576 := fun {l} h => by
  rcases idx_fnd u l 0 with ⟨_, h2⟩ | ⟨q, x, _, h2, h3⟩
  · rw [h2]; simp
  · rw [h3]; exact h.2 x (List.mem_of_getElem? h2)
theorem grown_cell {w w' : World} {row : Option Nat} (g : w.grownBy w' row) {b o : Nat} {v : Value} (hc : w.cell? ⟨b, o, none⟩ = some v) (hr : row ≠ some b) : w'.cell? ⟨b, o, none⟩ = some v :=
  (World.cell?_of_block (w := w) ((let ⟨_, _, _, _, gb⟩ := g; gb) b (cell_lt hc) (fun e => hr e.symm))).trans hc

set_option maxRecDepth 100000 in
set_option maxHeartbeats 4000000 in
theorem markOrder_own (zu za k0 : Int) (v : Value) (n base : Nat) (xs : List Value) (w : World) (h0 : 0 ≤ k0) (h1 : k0 ≤ 1000000000000000) (hn : n ≤ 1048576) (hown : w.ownsRow base 3 1 v n xs) :
    Calls Try.prog 11 #[ov zu v za, .int .i64 k0] w fun e w' => e = .returned (.int .i64 (k0 + n)) ∧ w'.ownsRow base 3 1 v n (marks k0 n) ∧ (w.alloc (.cells #[.int .i64 zu, v, .int .i64 za] 28)).grownBy w' v.ownBlock := by
  have C := Lib.hid (markIntS_own v n base k0 xs (w.alloc (.cells #[.int .i64 zu, v, .int .i64 za] 28)) h0 h1 hn (World.ownsRow.alloc hown _))
  clear hown
  go_enter Try.func11, Try.ntmps11
  go_wp2_with fail
  refine C.out.mono ?_
  rintro e1 w1 ⟨rfl, o1, g1⟩
  have O1 := Lib.hid o1
  have G1 := Lib.hid g1
  clear o1 g1 C
  go_wp2_with fail
  go_ret
  exact ⟨rfl, O1.out, G1.out⟩

set_option maxRecDepth 100000 in
set_option maxHeartbeats 4000000 in
theorem heldOrder_own (zu za k0 : Int) (v : Value) (n base : Nat) (w : World) (h0 : 0 ≤ k0) (h1 : k0 ≤ 1000000000000000) (hn : n ≤ 1048576) (hown : w.ownsRow base 3 1 v n (marks k0 n)) :
    Calls Try.prog 12 #[ov zu v za, .int .i64 k0] w fun e w' => e = .returned (.int .i64 (k0 + n)) ∧ Kp w w' := by
  have ka : Kp w (w.alloc (.cells #[.int .i64 zu, v, .int .i64 za] 28)) := (Kp.refl w).alloc _
  have C := Lib.hid (heldIntS_own v n base k0 (w.alloc (.cells #[.int .i64 zu, v, .int .i64 za] 28)) h0 h1 hn (World.ownsRow.alloc hown _))
  have hk : ¬ (k0 + (n : Int)) < 0 := by omega
  clear hown
  go_enter Try.func12, Try.ntmps12
  go_wp2_with fail
  refine C.out.mono ?_
  rintro e1 w1 ⟨rfl, k1⟩
  have K1 := ka.trans k1
  clear k1 ka C
  go_wp2_with fail
  go_ret
  exact ⟨rfl, K1⟩

end Go.Proofs.Ytacgknllagdkoaa
