/-
  DERIVED. GIVEN WITH THE SEED: THE PROGRAM's TIES (one call each: nine closed facts by the kernel) AND EACH ROW's TIE, after the 31st guide's Derived/Test/Toyas{Tie, Card}.lean. No idea stands in it: it is a product of the set-up. Laid BY PROGRAM, IN A SANDBOX (cutbox-door.mjs). By AI agents, Wed Nov 11 2026. No macro, syntax, notation, axiom, sorry.
-/
import Derived.Test.YtmhkjcgdjoeldaaDoorRows
import Derived.LaidByTextLater
import Derived.SevenTiedAt
import Derived.LaidSub
import Derived.LaidOnce
namespace Go.Proofs.YtmhkjcgdjoeldaaDoor
open Go
set_option maxRecDepth 100000
theorem seatTie1 : Tryd.prog.laidByTextLater [("unicode/utf8.acceptRanges", Rows.laid_unicode_utf8_acceptRanges), ("loop.example/g00886/impl.mixedSpan", Rows.laid_loop_example_g00886_impl_mixedSpan), ("loop.example/g00886/impl.labelSpan", Rows.laid_loop_example_g00886_impl_labelSpan), ("loop.example/g00886/impl.seedSpan", Rows.laid_loop_example_g00886_impl_seedSpan), ("loop.example/g00886/impl.diceSpan", Rows.laid_loop_example_g00886_impl_diceSpan), ("loop.example/g00886/impl.someDiceSpan", Rows.laid_loop_example_g00886_impl_someDiceSpan), ("loop.example/g00886/impl.diceSumSpan", Rows.laid_loop_example_g00886_impl_diceSumSpan), ("loop.example/g00886/impl.faceSpan", Rows.laid_loop_example_g00886_impl_faceSpan)] [.data, .wider, .wider, .wider, .wider, .wider, .wider, .wider] true :=
  Program.laidByTextLater_by_one 54 8 33 (by kernel_rfl) (by kernel_rfl) (by kernel_rfl) (by kernel_rfl) (by kernel_rfl) (by kernel_rfl) (fun _ _ => by kernel_rfl)
theorem pin_laid_unicode_utf8_first : Tryd.pinned.checked.prog.pinnedFits "unicode/utf8.first" = true := by kernel_rfl
theorem noOwnUnsafe : Tryd.pinned.checked.prog.headLifts.contains "ownunsafe" = false := by kernel_rfl
theorem fits1 : Tryd.pinned.checked.prog.listedFits [("unicode/utf8.acceptRanges", Rows.laid_unicode_utf8_acceptRanges), ("loop.example/g00886/impl.mixedSpan", Rows.laid_loop_example_g00886_impl_mixedSpan), ("loop.example/g00886/impl.labelSpan", Rows.laid_loop_example_g00886_impl_labelSpan), ("loop.example/g00886/impl.seedSpan", Rows.laid_loop_example_g00886_impl_seedSpan), ("loop.example/g00886/impl.diceSpan", Rows.laid_loop_example_g00886_impl_diceSpan), ("loop.example/g00886/impl.someDiceSpan", Rows.laid_loop_example_g00886_impl_someDiceSpan), ("loop.example/g00886/impl.diceSumSpan", Rows.laid_loop_example_g00886_impl_diceSumSpan), ("loop.example/g00886/impl.faceSpan", Rows.laid_loop_example_g00886_impl_faceSpan), ("unicode/utf8.first", Rows.laid_unicode_utf8_first)] = true := by
  unfold Program.listedFits
  rw [noOwnUnsafe]
  kernel_rfl
theorem tie : Tryd.prog.laidByTextLater [("unicode/utf8.acceptRanges", Rows.laid_unicode_utf8_acceptRanges), ("loop.example/g00886/impl.mixedSpan", Rows.laid_loop_example_g00886_impl_mixedSpan), ("loop.example/g00886/impl.labelSpan", Rows.laid_loop_example_g00886_impl_labelSpan), ("loop.example/g00886/impl.seedSpan", Rows.laid_loop_example_g00886_impl_seedSpan), ("loop.example/g00886/impl.diceSpan", Rows.laid_loop_example_g00886_impl_diceSpan), ("loop.example/g00886/impl.someDiceSpan", Rows.laid_loop_example_g00886_impl_someDiceSpan), ("loop.example/g00886/impl.diceSumSpan", Rows.laid_loop_example_g00886_impl_diceSumSpan), ("loop.example/g00886/impl.faceSpan", Rows.laid_loop_example_g00886_impl_faceSpan)] [.data, .wider, .wider, .wider, .wider, .wider, .wider, .wider] true :=
  Program.laidByTextLater.sub seatTie1 ["unicode/utf8.acceptRanges", "loop.example/g00886/impl.mixedSpan", "loop.example/g00886/impl.labelSpan", "loop.example/g00886/impl.seedSpan", "loop.example/g00886/impl.diceSpan", "loop.example/g00886/impl.someDiceSpan", "loop.example/g00886/impl.diceSumSpan", "loop.example/g00886/impl.faceSpan"] (by kernel_rfl) (by kernel_rfl)
theorem fnSums_row_tie : Rows.fnSumsRow.laidByTextAt .later Tryd.pinned [.data, .wider, .wider, .wider, .wider, .wider, .wider, .wider, .pinned] true :=
  OpenClaim.laidByTextAt_pinned rfl rfl tie rfl rfl rfl rfl (fun y hy _e => by
    simp only [Rows.fnSumsRow, List.zip_cons_cons, List.zip_nil_right, List.mem_cons, List.mem_nil_iff, or_false] at hy
    rcases hy with rfl | rfl | rfl | rfl | rfl | rfl | rfl | rfl | rfl
    · cases _e
    · cases _e
    · cases _e
    · cases _e
    · cases _e
    · cases _e
    · cases _e
    · cases _e
    · exact ⟨pin_laid_unicode_utf8_first, by kernel_rfl⟩) fits1
theorem fnSumsUpto_row_tie : Rows.fnSumsUptoRow.laidByTextAt .later Tryd.pinned [.data, .wider, .wider, .wider, .wider, .wider, .wider, .wider, .pinned] true :=
  OpenClaim.laidByTextAt_pinned rfl rfl tie rfl rfl rfl rfl (fun y hy _e => by
    simp only [Rows.fnSumsUptoRow, List.zip_cons_cons, List.zip_nil_right, List.mem_cons, List.mem_nil_iff, or_false] at hy
    rcases hy with rfl | rfl | rfl | rfl | rfl | rfl | rfl | rfl | rfl
    · cases _e
    · cases _e
    · cases _e
    · cases _e
    · cases _e
    · cases _e
    · cases _e
    · cases _e
    · exact ⟨pin_laid_unicode_utf8_first, by kernel_rfl⟩) fits1
end Go.Proofs.YtmhkjcgdjoeldaaDoor
