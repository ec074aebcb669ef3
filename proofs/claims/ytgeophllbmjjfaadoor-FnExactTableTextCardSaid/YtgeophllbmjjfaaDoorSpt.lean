/-
  strings.Split at a separator of one byte: the pieces, in a new block, and nothing else.
-/
import Derived.Test.YtgeophllbmjjfaaDoorShelf
import Derived.Test.YtgeophllbmjjfaaDoorDig
import Derived.Test.YtgeophllbmjjfaaDoorSpl
import Derived.Lib.IndexBytes
namespace Go.Proofs.YtgeophllbmjjfaaDoor
open Go.RowKit Go.Shelf

theorem txt_of (s : ByteArray) : txt s.data.toList = s := by
  apply ByteArray.ext
  simp [txt]

theorem infoStr9 : (Tryd.prog.info? 9).map (fun i => (i.zero, i.size, i.bytes)) = some (some (.string ByteArray.empty), 1, 16) := by kernel_rfl

theorem countB_one (s : ByteArray) (c : UInt8) : Lib.countB s ⟨#[c]⟩ = s.data.toList.count c := by
  show Lib.count s.data.toList [c] = _
  exact Lib.count_one c _

set_option maxRecDepth 100000 in
theorem split_one (s : ByteArray) (c : UInt8) (x : List UInt8) (r : List (List UInt8)) (w : World) (hs : s.size < 4294967281) (e : s.data.toList = Lib.join (x :: r) [c]) (h : ∀ y ∈ x :: r, c ∉ y) :
    Calls Tryd.prog 54 #[.string s, .string ⟨#[c]⟩] w fun e w' =>
      e = .returned (.slice (some ⟨w.heap.size, 0, none⟩) (r.length + 1) (r.length + 1)) ∧ w' = w.alloc (.cells ((x :: r).map fun y => Value.string (txt y)).toArray 9) := by
  obtain ⟨h1, h2⟩ := splitB_join c s x r e h
  have hle : r.length ≤ s.size := by
    rw [← h1, countB_one]
    exact List.count_le_length
  have g := Any.strings_genSplit_core Tryd.lays221 infoStr9 s ⟨#[c]⟩ 0 (-1) (r.length + 1) w hs (Nat.le_refl 1) (Nat.zero_le _)
    (fun x _ _ => (Tryd.strings_Index_one x c _).mono fun e w' ⟨a, b⟩ => ⟨by rw [a, ← Lib.index_one], b⟩)
    ((Tryd.strings_Count_one s c w).mono fun e w' ⟨a, b⟩ => ⟨by rw [a, countB_one]; rfl, b⟩) (by decide) (by decide) (by rw [if_pos (by decide), h1]; omega)
  have e3 : Lib.splitB ⟨#[c]⟩ 0 (r.length + 1 - 1) s = (x :: r).map txt := by
    rw [h1] at h2
    rw [Nat.add_sub_cancel, ← h2, List.map_map]
    refine (List.map_id'' ?_ _).symm
    intro y
    exact txt_of y
  rw [e3] at g
  have e4 : ((x :: r).map txt).length = r.length + 1 := by simp
  have e5 : Lib.cellsOf ((x :: r).map txt) (r.length + 1) = ((x :: r).map fun y => Value.string (txt y)).toArray := by
    rw [← e4, Lib.cellsOf_full, List.map_map]
    rfl
  rw [e4, e5] at g
  have G := Lib.hid g
  clear g e3 e4 e5 h1 h2 e h hle
  go_enter Tryd.func54, Tryd.ntmps54
  go_wp2_with fail
  refine G.out.mono ?_
  rintro e w' ⟨rfl, hw⟩
  have HW := Lib.hid hw
  clear hw
  go_wp2_with fail
  go_ret
  exact ⟨rfl, HW.out⟩

end Go.Proofs.YtgeophllbmjjfaaDoor
