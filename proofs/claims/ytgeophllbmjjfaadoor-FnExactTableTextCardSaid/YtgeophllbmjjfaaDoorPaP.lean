/-
  Numbers to text and back, and the numbers of a line, by the program. Nothing that was there is changed. The named variables hold what the program's text lays.
-/
import Derived.Test.YtgeophllbmjjfaaDoorNuL
import Derived.WalkSmall
import Derived.Shelf.Strconv.ErrVarAll
import Derived.Test.YtgeophllbmjjfaaDoorPaS
import Derived.Test.YtgeophllbmjjfaaDoorSpt
import Derived.Test.YtgeophllbmjjfaaDoorApL
import Derived.Test.YtgeophllbmjjfaaDoorDiK
namespace Go.Proofs.YtgeophllbmjjfaaDoor
open Go.RowKit

theorem mem_join_le {c : UInt8} : ∀ {ws : List (List UInt8)} {y : List UInt8}, y ∈ ws → y.length ≤ (Lib.join ws [c]).length
  | [], _, h => by cases h
  | [x], y, h => by
    simp only [List.mem_cons, List.not_mem_nil, or_false] at h
    rw [h, Lib.join_cons]
    simp
  | x :: z :: ws, y, h => by
    rw [join_two]
    rcases List.mem_cons.1 h with rfl | h
    · simp
    · have := mem_join_le (c := c) h
      simp only [List.length_append, List.length_cons]
      omega
/-- The table of powers of ten, as its text lays it. -/
def PwAt (w : World) : Prop := Lib.TabIs Tryd.prog w "internal/strconv.uint64pow10" .u64 Lib.pow10Tab
theorem pwG : Tryd.prog.globalNamed "internal/strconv.uint64pow10" = some 4 := by kernel_rfl
theorem PwAt.keep {w w' : World} (h : PwAt w) (k : Kp w w') : PwAt w' := by
  have hc := World.var?_cell pwG h 0
  exact var?_below k pwG (cell_lt (v := .int .u64 1) (hc.trans rfl)) h
theorem esG : Tryd.prog.globalNamed "strconv.ErrSyntax" = some 6 := by kernel_rfl
theorem erG : Tryd.prog.globalNamed "strconv.ErrRange" = some 7 := by kernel_rfl
/-- The two faults of strconv are values of an interface. -/
def ErAt (w : World) : Prop := (∃ u v, w.var? Tryd.prog "strconv.ErrSyntax" = some #[.iface u v]) ∧ ∃ u v, w.var? Tryd.prog "strconv.ErrRange" = some #[.iface u v]
theorem ErAt.keep {w w' : World} (h : ErAt w) (k : Kp w w') : ErAt w' := by
  obtain ⟨⟨u, v, h1⟩, u2, v2, h2⟩ := h
  have hc := World.var?_cell esG h1 0
  have hd := World.var?_cell erG h2 0
  exact ⟨⟨u, v, var?_below k esG (cell_lt (v := .iface u v) (hc.trans rfl)) h1⟩, u2, v2, var?_below k erG (cell_lt (v := .iface u2 v2) (hd.trans rfl)) h2⟩
theorem itoaW_any (x : Int) (w : World) (h : isI64 x) (hp : PwAt w) :
    Calls Tryd.prog 21 #[.int .i64 x] w fun e w' => e = .returned (.string (txt (Lib.itoa x))) ∧ Kp w w' := by
  refine (Tryd.strconv_Itoa x h.1 h.2 w hp).mono fun e w' ⟨he, k, os, hw⟩ => ⟨he, ?_⟩
  subst hw
  refine ⟨rfl, rfl, rfl, ?_, fun j hj => ?_⟩
  · show w.heap.size ≤ (w.heap ++ os).size
    simp
  · show (w.heap ++ os)[j]? = w.heap[j]?
    exact Array.getElem?_append_left hj
theorem atoi_ok (s : ByteArray) (v : Int) (w : World) (hs : s.size ≤ 1048576) (h : Lib.atoiAll s.data.toList = .ok v) :
    Calls Tryd.prog 55 #[.string s] w fun e w' => e = .returned (.tuple #[.int .i64 v, .nilIface]) ∧ Kp w w' := by
  refine (Any.strconv_Atoi_ok Tryd.laysC172 s (by omega) v h w).mono fun e w' ⟨he, hw⟩ => ⟨he, ?_⟩
  rcases hw with rfl | ⟨t, rfl⟩
  · exact Kp.refl _
  · exact Lib.bytesWorld_below _ _ _
theorem atoi_no (s : ByteArray) (w : World) (hs : s.size ≤ 1048576) (h : ∀ v, Lib.atoiAll s.data.toList ≠ .ok v) (hE : ErAt w) :
    Calls Tryd.prog 55 #[.string s] w fun e w' => ∃ (r : Int) (p : Nat), e = .returned (.tuple #[.int .i64 r, .iface 111 (.pointer (some ⟨p, 0, none⟩))]) ∧ Kp w w' := by
  obtain ⟨⟨u, v, h1⟩, u2, v2, h2⟩ := hE
  cases e : Lib.atoiAll s.data.toList
  · exact absurd e (h _)
  · exact (Any.strconv_Atoi_syntax_var Tryd.laysC172 s (by omega) e u v w h1).mono fun e w' ⟨p, he, _, _, hk⟩ => ⟨_, p, he, hk⟩
  · exact (Any.strconv_Atoi_range_var Tryd.laysC172 s (by omega) e u2 v2 w h2).mono fun e w' ⟨p, he, _, _, hk⟩ => ⟨_, p, he, hk⟩

end Go.Proofs.YtgeophllbmjjfaaDoor
