/-
  The laws' copy of a map: the same numbers and lists, in memory of its own. Nothing that was there is changed.
-/
import Derived.Test.YtacgknllagdkoaaMapL
namespace Go.Proofs.Ytacgknllagdkoaa
open Go.RowKit

theorem toIntS_sl (v : Value) (l : List Int) (w : World) (h : RdI w v l) (hl : l.length ≤ 1048576) :
    Calls Try.prog 29 #[v] w fun e w' => ∃ A c, e = .returned (.slice A l.length c) ∧ OwnI w' w.heap.size (.slice A l.length c) l ∧ Kp w w' :=
  (toIntS_any v l w h hl).mono fun e w' ⟨v', he, ho, hk⟩ => by
    obtain ⟨A, c, rfl⟩ := ho.slice
    exact ⟨A, c, he, ho, hk⟩

end Go.Proofs.Ytacgknllagdkoaa
