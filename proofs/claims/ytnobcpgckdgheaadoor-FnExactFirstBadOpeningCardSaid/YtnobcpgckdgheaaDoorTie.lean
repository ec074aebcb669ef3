/-
  DERIVED. GIVEN WITH THE SEED: THE PROGRAM's TIES (one call each: nine closed facts by the kernel) AND EACH ROW's TIE, after the 31st guide's Derived/Test/Toyas{Tie, Card}.lean. No idea stands in it: it is a product of the set-up. Laid BY PROGRAM, IN A SANDBOX (cutbox-door.mjs). By AI agents, Wed Nov 11 2026. No macro, syntax, notation, axiom, sorry.
-/
import Derived.Test.YtnobcpgckdgheaaDoorRows
import Derived.LaidByTextLater
import Derived.SevenTiedAt
import Derived.LaidSub
import Derived.LaidOnce
namespace Go.Proofs.YtnobcpgckdgheaaDoor
open Go
set_option maxRecDepth 100000
theorem seatTie1 : Tryd.prog.laidByTextLater [("unicode/utf8.acceptRanges", Rows.laid_unicode_utf8_acceptRanges), ("loop.example/g00886/impl.mixedSpan", Rows.laid_loop_example_g00886_impl_mixedSpan), ("loop.example/g00886/impl.seedSpan", Rows.laid_loop_example_g00886_impl_seedSpan), ("loop.example/g00886/impl.sealTurnSpan", Rows.laid_loop_example_g00886_impl_sealTurnSpan), ("loop.example/g00886/impl.roundSpan", Rows.laid_loop_example_g00886_impl_roundSpan), ("loop.example/g00886/impl.openedTextSpan", Rows.laid_loop_example_g00886_impl_openedTextSpan), ("loop.example/g00886/impl.sideSpan", Rows.laid_loop_example_g00886_impl_sideSpan)] [.data, .wider, .wider, .wider, .wider, .wider, .wider] true :=
  Program.laidByTextLater_by_one 49 8 33 (by kernel_rfl) (by kernel_rfl) (by kernel_rfl) (by kernel_rfl) (by kernel_rfl) (by kernel_rfl) (fun _ _ => by kernel_rfl)
theorem pin_laid_unicode_utf8_first : Tryd.pinned.checked.prog.pinnedFits "unicode/utf8.first" = true := by kernel_rfl
theorem noOwnUnsafe : Tryd.pinned.checked.prog.headLifts.contains "ownunsafe" = false := by kernel_rfl
theorem tie : Tryd.prog.laidByTextLater [("loop.example/g00886/impl.seedSpan", Rows.laid_loop_example_g00886_impl_seedSpan), ("loop.example/g00886/impl.sealTurnSpan", Rows.laid_loop_example_g00886_impl_sealTurnSpan), ("loop.example/g00886/impl.sideSpan", Rows.laid_loop_example_g00886_impl_sideSpan)] [.wider, .wider, .wider] true :=
  Program.laidByTextLater.sub seatTie1 ["loop.example/g00886/impl.seedSpan", "loop.example/g00886/impl.sealTurnSpan", "loop.example/g00886/impl.sideSpan"] (by kernel_rfl) (by kernel_rfl)
theorem fnExactIsSealed_row_tie : Rows.fnExactIsSealedRow.laidByTextAt .later Tryd.pinned [.wider, .wider, .wider] true :=
  OpenClaim.laidByTextAt_later rfl rfl tie noOwnUnsafe
theorem fits2 : Tryd.pinned.checked.prog.listedFits [("unicode/utf8.acceptRanges", Rows.laid_unicode_utf8_acceptRanges), ("loop.example/g00886/impl.seedSpan", Rows.laid_loop_example_g00886_impl_seedSpan), ("loop.example/g00886/impl.sealTurnSpan", Rows.laid_loop_example_g00886_impl_sealTurnSpan), ("loop.example/g00886/impl.openedTextSpan", Rows.laid_loop_example_g00886_impl_openedTextSpan), ("loop.example/g00886/impl.sideSpan", Rows.laid_loop_example_g00886_impl_sideSpan), ("unicode/utf8.first", Rows.laid_unicode_utf8_first)] = true := by
  unfold Program.listedFits
  rw [noOwnUnsafe]
  kernel_rfl
theorem tie2 : Tryd.prog.laidByTextLater [("unicode/utf8.acceptRanges", Rows.laid_unicode_utf8_acceptRanges), ("loop.example/g00886/impl.seedSpan", Rows.laid_loop_example_g00886_impl_seedSpan), ("loop.example/g00886/impl.sealTurnSpan", Rows.laid_loop_example_g00886_impl_sealTurnSpan), ("loop.example/g00886/impl.openedTextSpan", Rows.laid_loop_example_g00886_impl_openedTextSpan), ("loop.example/g00886/impl.sideSpan", Rows.laid_loop_example_g00886_impl_sideSpan)] [.data, .wider, .wider, .wider, .wider] true :=
  Program.laidByTextLater.sub seatTie1 ["unicode/utf8.acceptRanges", "loop.example/g00886/impl.seedSpan", "loop.example/g00886/impl.sealTurnSpan", "loop.example/g00886/impl.openedTextSpan", "loop.example/g00886/impl.sideSpan"] (by kernel_rfl) (by kernel_rfl)
theorem fnExactSealOrders_row_tie : Rows.fnExactSealOrdersRow.laidByTextAt .later Tryd.pinned [.data, .wider, .wider, .wider, .wider, .pinned] true :=
  OpenClaim.laidByTextAt_pinned rfl rfl tie2 rfl rfl rfl rfl (fun y hy _e => by
    simp only [Rows.fnExactSealOrdersRow, List.zip_cons_cons, List.zip_nil_right, List.mem_cons, List.mem_nil_iff, or_false] at hy
    rcases hy with rfl | rfl | rfl | rfl | rfl | rfl
    · cases _e
    · cases _e
    · cases _e
    · cases _e
    · cases _e
    · exact ⟨pin_laid_unicode_utf8_first, by kernel_rfl⟩) fits2
theorem fnExactOpensTo_row_tie : Rows.fnExactOpensToRow.laidByTextAt .later Tryd.pinned [.data, .wider, .wider, .wider, .wider, .pinned] true :=
  OpenClaim.laidByTextAt_pinned rfl rfl tie2 rfl rfl rfl rfl (fun y hy _e => by
    simp only [Rows.fnExactOpensToRow, List.zip_cons_cons, List.zip_nil_right, List.mem_cons, List.mem_nil_iff, or_false] at hy
    rcases hy with rfl | rfl | rfl | rfl | rfl | rfl
    · cases _e
    · cases _e
    · cases _e
    · cases _e
    · cases _e
    · exact ⟨pin_laid_unicode_utf8_first, by kernel_rfl⟩) fits2
theorem fits3 : Tryd.pinned.checked.prog.listedFits [("unicode/utf8.acceptRanges", Rows.laid_unicode_utf8_acceptRanges), ("loop.example/g00886/impl.seedSpan", Rows.laid_loop_example_g00886_impl_seedSpan), ("loop.example/g00886/impl.sealTurnSpan", Rows.laid_loop_example_g00886_impl_sealTurnSpan), ("loop.example/g00886/impl.roundSpan", Rows.laid_loop_example_g00886_impl_roundSpan), ("loop.example/g00886/impl.openedTextSpan", Rows.laid_loop_example_g00886_impl_openedTextSpan), ("loop.example/g00886/impl.sideSpan", Rows.laid_loop_example_g00886_impl_sideSpan), ("unicode/utf8.first", Rows.laid_unicode_utf8_first)] = true := by
  unfold Program.listedFits
  rw [noOwnUnsafe]
  kernel_rfl
theorem tie3 : Tryd.prog.laidByTextLater [("unicode/utf8.acceptRanges", Rows.laid_unicode_utf8_acceptRanges), ("loop.example/g00886/impl.seedSpan", Rows.laid_loop_example_g00886_impl_seedSpan), ("loop.example/g00886/impl.sealTurnSpan", Rows.laid_loop_example_g00886_impl_sealTurnSpan), ("loop.example/g00886/impl.roundSpan", Rows.laid_loop_example_g00886_impl_roundSpan), ("loop.example/g00886/impl.openedTextSpan", Rows.laid_loop_example_g00886_impl_openedTextSpan), ("loop.example/g00886/impl.sideSpan", Rows.laid_loop_example_g00886_impl_sideSpan)] [.data, .wider, .wider, .wider, .wider, .wider] true :=
  Program.laidByTextLater.sub seatTie1 ["unicode/utf8.acceptRanges", "loop.example/g00886/impl.seedSpan", "loop.example/g00886/impl.sealTurnSpan", "loop.example/g00886/impl.roundSpan", "loop.example/g00886/impl.openedTextSpan", "loop.example/g00886/impl.sideSpan"] (by kernel_rfl) (by kernel_rfl)
theorem fnExactFirstBadOpening_row_tie : Rows.fnExactFirstBadOpeningRow.laidByTextAt .later Tryd.pinned [.data, .wider, .wider, .wider, .wider, .wider, .pinned] true :=
  OpenClaim.laidByTextAt_pinned rfl rfl tie3 rfl rfl rfl rfl (fun y hy _e => by
    simp only [Rows.fnExactFirstBadOpeningRow, List.zip_cons_cons, List.zip_nil_right, List.mem_cons, List.mem_nil_iff, or_false] at hy
    rcases hy with rfl | rfl | rfl | rfl | rfl | rfl | rfl
    · cases _e
    · cases _e
    · cases _e
    · cases _e
    · cases _e
    · cases _e
    · exact ⟨pin_laid_unicode_utf8_first, by kernel_rfl⟩) fits3
theorem tie4 : Tryd.prog.laidByTextLater [("loop.example/g00886/impl.mixedSpan", Rows.laid_loop_example_g00886_impl_mixedSpan), ("loop.example/g00886/impl.seedSpan", Rows.laid_loop_example_g00886_impl_seedSpan), ("loop.example/g00886/impl.sealTurnSpan", Rows.laid_loop_example_g00886_impl_sealTurnSpan), ("loop.example/g00886/impl.roundSpan", Rows.laid_loop_example_g00886_impl_roundSpan)] [.wider, .wider, .wider, .wider] true :=
  Program.laidByTextLater.sub seatTie1 ["loop.example/g00886/impl.mixedSpan", "loop.example/g00886/impl.seedSpan", "loop.example/g00886/impl.sealTurnSpan", "loop.example/g00886/impl.roundSpan"] (by kernel_rfl) (by kernel_rfl)
theorem fnExactJointSeed_row_tie : Rows.fnExactJointSeedRow.laidByTextAt .later Tryd.pinned [.wider, .wider, .wider, .wider] true :=
  OpenClaim.laidByTextAt_later rfl rfl tie4 noOwnUnsafe
theorem tie5 : Tryd.prog.laidByTextLater [("loop.example/g00886/impl.seedSpan", Rows.laid_loop_example_g00886_impl_seedSpan), ("loop.example/g00886/impl.sealTurnSpan", Rows.laid_loop_example_g00886_impl_sealTurnSpan), ("loop.example/g00886/impl.roundSpan", Rows.laid_loop_example_g00886_impl_roundSpan), ("loop.example/g00886/impl.sideSpan", Rows.laid_loop_example_g00886_impl_sideSpan)] [.wider, .wider, .wider, .wider] true :=
  Program.laidByTextLater.sub seatTie1 ["loop.example/g00886/impl.seedSpan", "loop.example/g00886/impl.sealTurnSpan", "loop.example/g00886/impl.roundSpan", "loop.example/g00886/impl.sideSpan"] (by kernel_rfl) (by kernel_rfl)
theorem fnExactSealChain_row_tie : Rows.fnExactSealChainRow.laidByTextAt .later Tryd.pinned [.wider, .wider, .wider, .wider] true :=
  OpenClaim.laidByTextAt_later rfl rfl tie5 noOwnUnsafe
theorem fnExactFirstBadSeal_row_tie : Rows.fnExactFirstBadSealRow.laidByTextAt .later Tryd.pinned [.wider, .wider, .wider, .wider] true :=
  OpenClaim.laidByTextAt_later rfl rfl tie5 noOwnUnsafe
theorem fnExactIsSealedUpto_row_tie : Rows.fnExactIsSealedUptoRow.laidByTextAt .later Tryd.pinned [.wider, .wider, .wider] true :=
  OpenClaim.laidByTextAt_later rfl rfl tie noOwnUnsafe
theorem fnExactSealOrdersUpto_row_tie : Rows.fnExactSealOrdersUptoRow.laidByTextAt .later Tryd.pinned [.data, .wider, .wider, .wider, .wider, .pinned] true :=
  OpenClaim.laidByTextAt_pinned rfl rfl tie2 rfl rfl rfl rfl (fun y hy _e => by
    simp only [Rows.fnExactSealOrdersUptoRow, List.zip_cons_cons, List.zip_nil_right, List.mem_cons, List.mem_nil_iff, or_false] at hy
    rcases hy with rfl | rfl | rfl | rfl | rfl | rfl
    · cases _e
    · cases _e
    · cases _e
    · cases _e
    · cases _e
    · exact ⟨pin_laid_unicode_utf8_first, by kernel_rfl⟩) fits2
theorem fnExactOpensToUpto_row_tie : Rows.fnExactOpensToUptoRow.laidByTextAt .later Tryd.pinned [.data, .wider, .wider, .wider, .wider, .pinned] true :=
  OpenClaim.laidByTextAt_pinned rfl rfl tie2 rfl rfl rfl rfl (fun y hy _e => by
    simp only [Rows.fnExactOpensToUptoRow, List.zip_cons_cons, List.zip_nil_right, List.mem_cons, List.mem_nil_iff, or_false] at hy
    rcases hy with rfl | rfl | rfl | rfl | rfl | rfl
    · cases _e
    · cases _e
    · cases _e
    · cases _e
    · cases _e
    · exact ⟨pin_laid_unicode_utf8_first, by kernel_rfl⟩) fits2
theorem fnExactFirstBadOpeningUpto_row_tie : Rows.fnExactFirstBadOpeningUptoRow.laidByTextAt .later Tryd.pinned [.data, .wider, .wider, .wider, .wider, .wider, .pinned] true :=
  OpenClaim.laidByTextAt_pinned rfl rfl tie3 rfl rfl rfl rfl (fun y hy _e => by
    simp only [Rows.fnExactFirstBadOpeningUptoRow, List.zip_cons_cons, List.zip_nil_right, List.mem_cons, List.mem_nil_iff, or_false] at hy
    rcases hy with rfl | rfl | rfl | rfl | rfl | rfl | rfl
    · cases _e
    · cases _e
    · cases _e
    · cases _e
    · cases _e
    · cases _e
    · exact ⟨pin_laid_unicode_utf8_first, by kernel_rfl⟩) fits3
theorem fnExactJointSeedUpto_row_tie : Rows.fnExactJointSeedUptoRow.laidByTextAt .later Tryd.pinned [.wider, .wider, .wider, .wider] true :=
  OpenClaim.laidByTextAt_later rfl rfl tie4 noOwnUnsafe
theorem fnExactSealChainUpto_row_tie : Rows.fnExactSealChainUptoRow.laidByTextAt .later Tryd.pinned [.wider, .wider, .wider, .wider] true :=
  OpenClaim.laidByTextAt_later rfl rfl tie5 noOwnUnsafe
theorem fnExactFirstBadSealUpto_row_tie : Rows.fnExactFirstBadSealUptoRow.laidByTextAt .later Tryd.pinned [.wider, .wider, .wider, .wider] true :=
  OpenClaim.laidByTextAt_later rfl rfl tie5 noOwnUnsafe
end Go.Proofs.YtnobcpgckdgheaaDoor
