/-
  DERIVED. GIVEN WITH THE SEED: THE PROGRAM's TIES (one call each: nine closed facts by the kernel) AND EACH ROW's TIE, after the 31st guide's Derived/Test/Toyas{Tie, Card}.lean. No idea stands in it: it is a product of the set-up. Laid BY PROGRAM, IN A SANDBOX (cutbox-door.mjs). By AI agents, Wed Nov 11 2026. No macro, syntax, notation, axiom, sorry.
-/
import Derived.Test.YtcdfbcmfpeceeaaDoorRows
import Derived.LaidByTextLater
import Derived.SevenTiedAt
import Derived.LaidSub
import Derived.LaidOnce
namespace Go.Proofs.YtcdfbcmfpeceeaaDoor
open Go
set_option maxRecDepth 100000
theorem seatTie1 : Tryd.prog.laidByTextLater [("math/bits.deBruijn32tab", Rows.laid_math_bits_deBruijn32tab), ("math/bits.deBruijn64tab", Rows.laid_math_bits_deBruijn64tab), ("internal/strconv.uint64pow10", Rows.laid_internal_strconv_uint64pow10), ("unicode/utf8.acceptRanges", Rows.laid_unicode_utf8_acceptRanges), ("strconv.ErrRange", Rows.laid_strconv_ErrRange), ("strconv.ErrSyntax", Rows.laid_strconv_ErrSyntax), ("loop.example/g00886/impl.directionSteps", Rows.laid_loop_example_g00886_impl_directionSteps), ("loop.example/g00886/impl.resultScores", Rows.laid_loop_example_g00886_impl_resultScores), ("loop.example/g00886/impl.columnsSpan", Rows.laid_loop_example_g00886_impl_columnsSpan), ("loop.example/g00886/impl.oddsSpan", Rows.laid_loop_example_g00886_impl_oddsSpan), ("loop.example/g00886/impl.tableDiceSpan", Rows.laid_loop_example_g00886_impl_tableDiceSpan), ("loop.example/g00886/impl.resultSpan", Rows.laid_loop_example_g00886_impl_resultSpan), ("loop.example/g00886/impl.forceSpan", Rows.laid_loop_example_g00886_impl_forceSpan), ("loop.example/g00886/impl.columnShiftSpan", Rows.laid_loop_example_g00886_impl_columnShiftSpan)] [.data, .data, .data, .data, .sentinel, .sentinel, .wider, .data, .wider, .wider, .wider, .wider, .wider, .wider] true :=
  Program.laidByTextLater_by_one 118 8 65 (by kernel_rfl) (by kernel_rfl) (by kernel_rfl) (by kernel_rfl) (by kernel_rfl) (by kernel_rfl) (fun _ _ => by kernel_rfl)
theorem pin_laid_unicode_utf8_first : Tryd.pinned.checked.prog.pinnedFits "unicode/utf8.first" = true := by kernel_rfl
theorem noOwnUnsafe : Tryd.pinned.checked.prog.headLifts.contains "ownunsafe" = false := by kernel_rfl
theorem tie : Tryd.prog.laidByTextLater [("loop.example/g00886/impl.resultScores", Rows.laid_loop_example_g00886_impl_resultScores), ("loop.example/g00886/impl.columnsSpan", Rows.laid_loop_example_g00886_impl_columnsSpan), ("loop.example/g00886/impl.oddsSpan", Rows.laid_loop_example_g00886_impl_oddsSpan), ("loop.example/g00886/impl.tableDiceSpan", Rows.laid_loop_example_g00886_impl_tableDiceSpan), ("loop.example/g00886/impl.resultSpan", Rows.laid_loop_example_g00886_impl_resultSpan), ("loop.example/g00886/impl.columnShiftSpan", Rows.laid_loop_example_g00886_impl_columnShiftSpan)] [.data, .wider, .wider, .wider, .wider, .wider] true :=
  Program.laidByTextLater.sub seatTie1 ["loop.example/g00886/impl.resultScores", "loop.example/g00886/impl.columnsSpan", "loop.example/g00886/impl.oddsSpan", "loop.example/g00886/impl.tableDiceSpan", "loop.example/g00886/impl.resultSpan", "loop.example/g00886/impl.columnShiftSpan"] (by kernel_rfl) (by kernel_rfl)
theorem fnScores_row_tie : Rows.fnScoresRow.laidByTextAt .later Tryd.pinned [.data, .wider, .wider, .wider, .wider, .wider] true :=
  OpenClaim.laidByTextAt_later rfl rfl tie noOwnUnsafe
theorem tie2 : Tryd.prog.laidByTextLater [("loop.example/g00886/impl.directionSteps", Rows.laid_loop_example_g00886_impl_directionSteps)] [.wider] true :=
  Program.laidByTextLater.sub seatTie1 ["loop.example/g00886/impl.directionSteps"] (by kernel_rfl) (by kernel_rfl)
theorem fnExactMirrorMap_row_tie : Rows.fnExactMirrorMapRow.laidByTextAt .later Tryd.pinned [.wider] true :=
  OpenClaim.laidByTextAt_later rfl rfl tie2 noOwnUnsafe
theorem tie3 : Tryd.prog.laidByTextLater [("loop.example/g00886/impl.columnsSpan", Rows.laid_loop_example_g00886_impl_columnsSpan), ("loop.example/g00886/impl.oddsSpan", Rows.laid_loop_example_g00886_impl_oddsSpan), ("loop.example/g00886/impl.tableDiceSpan", Rows.laid_loop_example_g00886_impl_tableDiceSpan), ("loop.example/g00886/impl.resultSpan", Rows.laid_loop_example_g00886_impl_resultSpan)] [.wider, .wider, .wider, .wider] true :=
  Program.laidByTextLater.sub seatTie1 ["loop.example/g00886/impl.columnsSpan", "loop.example/g00886/impl.oddsSpan", "loop.example/g00886/impl.tableDiceSpan", "loop.example/g00886/impl.resultSpan"] (by kernel_rfl) (by kernel_rfl)
theorem fnExactIsCombatTable_row_tie : Rows.fnExactIsCombatTableRow.laidByTextAt .later Tryd.pinned [.wider, .wider, .wider, .wider] true :=
  OpenClaim.laidByTextAt_later rfl rfl tie3 noOwnUnsafe
theorem fnExactResultAt_row_tie : Rows.fnExactResultAtRow.laidByTextAt .later Tryd.pinned [.wider, .wider, .wider, .wider] true :=
  OpenClaim.laidByTextAt_later rfl rfl tie3 noOwnUnsafe
theorem fnExactCountResults_row_tie : Rows.fnExactCountResultsRow.laidByTextAt .later Tryd.pinned [.wider, .wider, .wider, .wider] true :=
  OpenClaim.laidByTextAt_later rfl rfl tie3 noOwnUnsafe
theorem tie4 : Tryd.prog.laidByTextLater [("loop.example/g00886/impl.columnsSpan", Rows.laid_loop_example_g00886_impl_columnsSpan), ("loop.example/g00886/impl.oddsSpan", Rows.laid_loop_example_g00886_impl_oddsSpan), ("loop.example/g00886/impl.tableDiceSpan", Rows.laid_loop_example_g00886_impl_tableDiceSpan), ("loop.example/g00886/impl.resultSpan", Rows.laid_loop_example_g00886_impl_resultSpan), ("loop.example/g00886/impl.forceSpan", Rows.laid_loop_example_g00886_impl_forceSpan)] [.wider, .wider, .wider, .wider, .wider] true :=
  Program.laidByTextLater.sub seatTie1 ["loop.example/g00886/impl.columnsSpan", "loop.example/g00886/impl.oddsSpan", "loop.example/g00886/impl.tableDiceSpan", "loop.example/g00886/impl.resultSpan", "loop.example/g00886/impl.forceSpan"] (by kernel_rfl) (by kernel_rfl)
theorem fnExactColumnFor_row_tie : Rows.fnExactColumnForRow.laidByTextAt .later Tryd.pinned [.wider, .wider, .wider, .wider, .wider] true :=
  OpenClaim.laidByTextAt_later rfl rfl tie4 noOwnUnsafe
theorem tie5 : Tryd.prog.laidByTextLater [("loop.example/g00886/impl.columnsSpan", Rows.laid_loop_example_g00886_impl_columnsSpan), ("loop.example/g00886/impl.oddsSpan", Rows.laid_loop_example_g00886_impl_oddsSpan), ("loop.example/g00886/impl.tableDiceSpan", Rows.laid_loop_example_g00886_impl_tableDiceSpan), ("loop.example/g00886/impl.resultSpan", Rows.laid_loop_example_g00886_impl_resultSpan), ("loop.example/g00886/impl.columnShiftSpan", Rows.laid_loop_example_g00886_impl_columnShiftSpan)] [.wider, .wider, .wider, .wider, .wider] true :=
  Program.laidByTextLater.sub seatTie1 ["loop.example/g00886/impl.columnsSpan", "loop.example/g00886/impl.oddsSpan", "loop.example/g00886/impl.tableDiceSpan", "loop.example/g00886/impl.resultSpan", "loop.example/g00886/impl.columnShiftSpan"] (by kernel_rfl) (by kernel_rfl)
theorem fnExactShiftColumn_row_tie : Rows.fnExactShiftColumnRow.laidByTextAt .later Tryd.pinned [.wider, .wider, .wider, .wider, .wider] true :=
  OpenClaim.laidByTextAt_later rfl rfl tie5 noOwnUnsafe
theorem tie6 : Tryd.prog.laidByTextLater [("loop.example/g00886/impl.resultScores", Rows.laid_loop_example_g00886_impl_resultScores), ("loop.example/g00886/impl.resultSpan", Rows.laid_loop_example_g00886_impl_resultSpan)] [.data, .wider] true :=
  Program.laidByTextLater.sub seatTie1 ["loop.example/g00886/impl.resultScores", "loop.example/g00886/impl.resultSpan"] (by kernel_rfl) (by kernel_rfl)
theorem fnExactScoreOf_row_tie : Rows.fnExactScoreOfRow.laidByTextAt .later Tryd.pinned [.data, .wider] true :=
  OpenClaim.laidByTextAt_later rfl rfl tie6 noOwnUnsafe
theorem tie7 : Tryd.prog.laidByTextLater [("loop.example/g00886/impl.resultScores", Rows.laid_loop_example_g00886_impl_resultScores), ("loop.example/g00886/impl.columnsSpan", Rows.laid_loop_example_g00886_impl_columnsSpan), ("loop.example/g00886/impl.oddsSpan", Rows.laid_loop_example_g00886_impl_oddsSpan), ("loop.example/g00886/impl.tableDiceSpan", Rows.laid_loop_example_g00886_impl_tableDiceSpan), ("loop.example/g00886/impl.resultSpan", Rows.laid_loop_example_g00886_impl_resultSpan)] [.data, .wider, .wider, .wider, .wider] true :=
  Program.laidByTextLater.sub seatTie1 ["loop.example/g00886/impl.resultScores", "loop.example/g00886/impl.columnsSpan", "loop.example/g00886/impl.oddsSpan", "loop.example/g00886/impl.tableDiceSpan", "loop.example/g00886/impl.resultSpan"] (by kernel_rfl) (by kernel_rfl)
theorem fnExactIsMonotone_row_tie : Rows.fnExactIsMonotoneRow.laidByTextAt .later Tryd.pinned [.data, .wider, .wider, .wider, .wider] true :=
  OpenClaim.laidByTextAt_later rfl rfl tie7 noOwnUnsafe
theorem fnExactMeanScore_row_tie : Rows.fnExactMeanScoreRow.laidByTextAt .later Tryd.pinned [.data, .wider, .wider, .wider, .wider] true :=
  OpenClaim.laidByTextAt_later rfl rfl tie7 noOwnUnsafe
theorem tie8 : Tryd.prog.laidByTextLater [("math/bits.deBruijn32tab", Rows.laid_math_bits_deBruijn32tab), ("math/bits.deBruijn64tab", Rows.laid_math_bits_deBruijn64tab), ("internal/strconv.uint64pow10", Rows.laid_internal_strconv_uint64pow10), ("loop.example/g00886/impl.columnsSpan", Rows.laid_loop_example_g00886_impl_columnsSpan), ("loop.example/g00886/impl.oddsSpan", Rows.laid_loop_example_g00886_impl_oddsSpan), ("loop.example/g00886/impl.tableDiceSpan", Rows.laid_loop_example_g00886_impl_tableDiceSpan), ("loop.example/g00886/impl.resultSpan", Rows.laid_loop_example_g00886_impl_resultSpan)] [.data, .data, .data, .wider, .wider, .wider, .wider] true :=
  Program.laidByTextLater.sub seatTie1 ["math/bits.deBruijn32tab", "math/bits.deBruijn64tab", "internal/strconv.uint64pow10", "loop.example/g00886/impl.columnsSpan", "loop.example/g00886/impl.oddsSpan", "loop.example/g00886/impl.tableDiceSpan", "loop.example/g00886/impl.resultSpan"] (by kernel_rfl) (by kernel_rfl)
theorem fnExactTableText_row_tie : Rows.fnExactTableTextRow.laidByTextAt .later Tryd.pinned [.data, .data, .data, .wider, .wider, .wider, .wider] true :=
  OpenClaim.laidByTextAt_later rfl rfl tie8 noOwnUnsafe
theorem fits9 : Tryd.pinned.checked.prog.listedFits [("math/bits.deBruijn32tab", Rows.laid_math_bits_deBruijn32tab), ("math/bits.deBruijn64tab", Rows.laid_math_bits_deBruijn64tab), ("internal/strconv.uint64pow10", Rows.laid_internal_strconv_uint64pow10), ("unicode/utf8.acceptRanges", Rows.laid_unicode_utf8_acceptRanges), ("strconv.ErrRange", Rows.laid_strconv_ErrRange), ("strconv.ErrSyntax", Rows.laid_strconv_ErrSyntax), ("loop.example/g00886/impl.columnsSpan", Rows.laid_loop_example_g00886_impl_columnsSpan), ("loop.example/g00886/impl.oddsSpan", Rows.laid_loop_example_g00886_impl_oddsSpan), ("loop.example/g00886/impl.tableDiceSpan", Rows.laid_loop_example_g00886_impl_tableDiceSpan), ("loop.example/g00886/impl.resultSpan", Rows.laid_loop_example_g00886_impl_resultSpan), ("unicode/utf8.first", Rows.laid_unicode_utf8_first)] = true := by
  unfold Program.listedFits
  rw [noOwnUnsafe]
  kernel_rfl
theorem tie9 : Tryd.prog.laidByTextLater [("math/bits.deBruijn32tab", Rows.laid_math_bits_deBruijn32tab), ("math/bits.deBruijn64tab", Rows.laid_math_bits_deBruijn64tab), ("internal/strconv.uint64pow10", Rows.laid_internal_strconv_uint64pow10), ("unicode/utf8.acceptRanges", Rows.laid_unicode_utf8_acceptRanges), ("strconv.ErrRange", Rows.laid_strconv_ErrRange), ("strconv.ErrSyntax", Rows.laid_strconv_ErrSyntax), ("loop.example/g00886/impl.columnsSpan", Rows.laid_loop_example_g00886_impl_columnsSpan), ("loop.example/g00886/impl.oddsSpan", Rows.laid_loop_example_g00886_impl_oddsSpan), ("loop.example/g00886/impl.tableDiceSpan", Rows.laid_loop_example_g00886_impl_tableDiceSpan), ("loop.example/g00886/impl.resultSpan", Rows.laid_loop_example_g00886_impl_resultSpan)] [.data, .data, .data, .data, .sentinel, .sentinel, .wider, .wider, .wider, .wider] true :=
  Program.laidByTextLater.sub seatTie1 ["math/bits.deBruijn32tab", "math/bits.deBruijn64tab", "internal/strconv.uint64pow10", "unicode/utf8.acceptRanges", "strconv.ErrRange", "strconv.ErrSyntax", "loop.example/g00886/impl.columnsSpan", "loop.example/g00886/impl.oddsSpan", "loop.example/g00886/impl.tableDiceSpan", "loop.example/g00886/impl.resultSpan"] (by kernel_rfl) (by kernel_rfl)
theorem fnExactParseTable_row_tie : Rows.fnExactParseTableRow.laidByTextAt .later Tryd.pinned [.data, .data, .data, .data, .sentinel, .sentinel, .wider, .wider, .wider, .wider, .pinned] true :=
  OpenClaim.laidByTextAt_pinned rfl rfl tie9 rfl rfl rfl rfl (fun y hy _e => by
    simp only [Rows.fnExactParseTableRow, List.zip_cons_cons, List.zip_nil_right, List.mem_cons, List.mem_nil_iff, or_false] at hy
    rcases hy with rfl | rfl | rfl | rfl | rfl | rfl | rfl | rfl | rfl | rfl | rfl
    · cases _e
    · cases _e
    · cases _e
    · cases _e
    · cases _e
    · cases _e
    · cases _e
    · cases _e
    · cases _e
    · cases _e
    · exact ⟨pin_laid_unicode_utf8_first, by kernel_rfl⟩) fits9
theorem fnScoresUpto_row_tie : Rows.fnScoresUptoRow.laidByTextAt .later Tryd.pinned [.data, .wider, .wider, .wider, .wider, .wider] true :=
  OpenClaim.laidByTextAt_later rfl rfl tie noOwnUnsafe
theorem fnExactMirrorMapUpto_row_tie : Rows.fnExactMirrorMapUptoRow.laidByTextAt .later Tryd.pinned [.wider] true :=
  OpenClaim.laidByTextAt_later rfl rfl tie2 noOwnUnsafe
theorem fnExactIsCombatTableUpto_row_tie : Rows.fnExactIsCombatTableUptoRow.laidByTextAt .later Tryd.pinned [.wider, .wider, .wider, .wider] true :=
  OpenClaim.laidByTextAt_later rfl rfl tie3 noOwnUnsafe
theorem fnExactColumnForUpto_row_tie : Rows.fnExactColumnForUptoRow.laidByTextAt .later Tryd.pinned [.wider, .wider, .wider, .wider, .wider] true :=
  OpenClaim.laidByTextAt_later rfl rfl tie4 noOwnUnsafe
theorem fnExactShiftColumnUpto_row_tie : Rows.fnExactShiftColumnUptoRow.laidByTextAt .later Tryd.pinned [.wider, .wider, .wider, .wider, .wider] true :=
  OpenClaim.laidByTextAt_later rfl rfl tie5 noOwnUnsafe
theorem fnExactResultAtUpto_row_tie : Rows.fnExactResultAtUptoRow.laidByTextAt .later Tryd.pinned [.wider, .wider, .wider, .wider] true :=
  OpenClaim.laidByTextAt_later rfl rfl tie3 noOwnUnsafe
theorem fnExactScoreOfUpto_row_tie : Rows.fnExactScoreOfUptoRow.laidByTextAt .later Tryd.pinned [.data, .wider] true :=
  OpenClaim.laidByTextAt_later rfl rfl tie6 noOwnUnsafe
theorem fnExactIsMonotoneUpto_row_tie : Rows.fnExactIsMonotoneUptoRow.laidByTextAt .later Tryd.pinned [.data, .wider, .wider, .wider, .wider] true :=
  OpenClaim.laidByTextAt_later rfl rfl tie7 noOwnUnsafe
theorem fnExactCountResultsUpto_row_tie : Rows.fnExactCountResultsUptoRow.laidByTextAt .later Tryd.pinned [.wider, .wider, .wider, .wider] true :=
  OpenClaim.laidByTextAt_later rfl rfl tie3 noOwnUnsafe
theorem fnExactMeanScoreUpto_row_tie : Rows.fnExactMeanScoreUptoRow.laidByTextAt .later Tryd.pinned [.data, .wider, .wider, .wider, .wider] true :=
  OpenClaim.laidByTextAt_later rfl rfl tie7 noOwnUnsafe
theorem fnExactTableTextUpto_row_tie : Rows.fnExactTableTextUptoRow.laidByTextAt .later Tryd.pinned [.data, .data, .data, .wider, .wider, .wider, .wider] true :=
  OpenClaim.laidByTextAt_later rfl rfl tie8 noOwnUnsafe
theorem fnExactParseTableUpto_row_tie : Rows.fnExactParseTableUptoRow.laidByTextAt .later Tryd.pinned [.data, .data, .data, .data, .sentinel, .sentinel, .wider, .wider, .wider, .wider, .pinned] true :=
  OpenClaim.laidByTextAt_pinned rfl rfl tie9 rfl rfl rfl rfl (fun y hy _e => by
    simp only [Rows.fnExactParseTableUptoRow, List.zip_cons_cons, List.zip_nil_right, List.mem_cons, List.mem_nil_iff, or_false] at hy
    rcases hy with rfl | rfl | rfl | rfl | rfl | rfl | rfl | rfl | rfl | rfl | rfl
    · cases _e
    · cases _e
    · cases _e
    · cases _e
    · cases _e
    · cases _e
    · cases _e
    · cases _e
    · cases _e
    · cases _e
    · exact ⟨pin_laid_unicode_utf8_first, by kernel_rfl⟩) fits9
end Go.Proofs.YtcdfbcmfpeceeaaDoor
