/-
  Slices of odds as lists of pairs of integers: the laws' size, copy, comparison and marking.
-/
import Derived.Test.YtjpfmckoodalnaaDoorII
namespace Go.Proofs.YtjpfmckoodalnaaDoor
open Go.RowKit

/-- The slice v owns the list l of odds, in a block from base on. -/
def OwnO (w : World) (base : Nat) (v : Value) (l : List (Int × Int)) : Prop := w.ownsRow base 63 2 v l.length (cellsH l)
theorem OwnO.rd {w : World} {base : Nat} {v : Value} {l : List (Int × Int)} (h : OwnO w base v l) : RdH w v l := by
  rcases h.2 with ⟨rfl, hn⟩ | ⟨g, cap, cur, rfl, hb, hg, hc, hm, hs, ht⟩
  · exact ⟨none, 0, by rw [hn], fun h0 => by omega⟩
  · refine ⟨_, _, rfl, fun _ => ⟨g, 0, rfl, fun i x hx => ?_⟩⟩
    have hi : i < l.length := (List.getElem?_eq_some_iff.1 hx).1
    have e := cellsH_at l i x hx
    rw [Nat.zero_add]
    exact ⟨(World.ownsRow.cellAt h (i * 2) (by omega)).trans e.1, (World.ownsRow.cellAt h (i * 2 + 1) (by omega)).trans e.2⟩

theorem OwnO.base {w : World} {base b : Nat} {v : Value} {l : List (Int × Int)} (h : OwnO w base v l) (hb : b ≤ base) : OwnO w b v l := ownsRow_base h hb
theorem OwnO.keep {w w' : World} {base : Nat} {v : Value} {l : List (Int × Int)} (h : OwnO w base v l) (hk : Kp w w') : OwnO w' base v l := ownsRow_keep h hk
theorem infoOdds : (Tryd.prog.info? 63).map (fun i => (i.zero, i.size, i.bytes)) = some (some (hx 0 0), 2, 16) := by kernel_rfl
theorem OwnO.slice {w : World} {base : Nat} {v : Value} {l : List (Int × Int)} (h : OwnO w base v l) : ∃ A c, v = .slice A l.length c := by
  obtain ⟨A, c, rfl, _⟩ := h.rd
  exact ⟨A, c, rfl⟩
theorem OwnO.far {w : World} {base : Nat} {v : Value} {l : List (Int × Int)} (h : OwnO w base v l) {g j : Nat} (hne : v.ownBlock ≠ some g) (u : Value) : OwnO (w.setCell ⟨g, j, none⟩ u) base v l :=
  World.ownsRow.kept h (grown_set w g j u) (.inr hne)
theorem OwnO.not {w : World} {base : Nat} {v : Value} {l : List (Int × Int)} (h : OwnO w base v l) {g : Nat} (hg : g < base) : v.ownBlock ≠ some g := fun e => by
  have := (World.ownsRow.lt h g e).1
  omega

theorem mkOddsN (n : Nat) (hn : n ≤ 1048576) (w : World) :
    (Instr.makeSlice 23 (.int .i64 (n : Int)) (.int .i64 (n : Int))).run Tryd.prog w = .ok (.slice (some ⟨w.heap.size, 0, none⟩) n n) (w.alloc (.cells (madeCells (hx 0 0).cells (n * 2)) 63)) := by
  obtain ⟨i, hi, hz, hs, hb⟩ := info_parts infoOdds
  have hr := run_make (P := Tryd.prog) w 23 63 i (hx 0 0) Tryd.underlying23 hi hz .i64 .i64 (n : Int) (n : Int) (by omega) (Int.le_refl _) (by rw [hb]; omega) (by omega)
  rw [hs, Int.toNat_natCast] at hr
  exact hr

end Go.Proofs.YtjpfmckoodalnaaDoor
