/-
  DERIVED. GIVEN WITH THE SEED: THE PROGRAM's TIES (one call each: nine closed facts by the kernel) AND EACH ROW's TIE, after the 31st guide's Derived/Test/Toyas{Tie, Card}.lean. No idea stands in it: it is a product of the set-up. Laid BY PROGRAM, IN A SANDBOX (cutbox-door.mjs). By AI agents, Wed Nov 11 2026. No macro, syntax, notation, axiom, sorry.
-/
import Derived.Test.YtoajfbkblpaejaaGreatDoorRows
import Derived.LaidByTextLater
import Derived.SevenTiedAt
import Derived.LaidSub
import Derived.LaidOnce
namespace Go.Proofs.YtoajfbkblpaejaaGreatDoor
open Go
set_option maxRecDepth 100000
theorem seatTie1 : Tryz.prog.laidByTextLater [("loop.example/s01728/impl.errBlockForm", Rows.laid_loop_example_s01728_impl_errBlockForm), ("loop.example/s01728/impl.errBlockTag", Rows.laid_loop_example_s01728_impl_errBlockTag), ("loop.example/s01728/impl.errNotClear", Rows.laid_loop_example_s01728_impl_errNotClear)] [.sentinel, .sentinel, .sentinel] true :=
  Program.laidByTextLater_by_one 66 8 2 (by kernel_rfl) (by kernel_rfl) (by kernel_rfl) (by kernel_rfl) (by kernel_rfl) (by kernel_rfl) (fun _ _ => by kernel_rfl)
theorem noOwnUnsafe : Tryz.pinned.checked.prog.headLifts.contains "ownunsafe" = false := by kernel_rfl
theorem tie : Tryz.prog.laidByTextLater [("loop.example/s01728/impl.errBlockForm", Rows.laid_loop_example_s01728_impl_errBlockForm), ("loop.example/s01728/impl.errBlockTag", Rows.laid_loop_example_s01728_impl_errBlockTag), ("loop.example/s01728/impl.errNotClear", Rows.laid_loop_example_s01728_impl_errNotClear)] [.sentinel, .sentinel, .sentinel] true :=
  Program.laidByTextLater.sub seatTie1 ["loop.example/s01728/impl.errBlockForm", "loop.example/s01728/impl.errBlockTag", "loop.example/s01728/impl.errNotClear"] (by kernel_rfl) (by kernel_rfl)
theorem fnTranslate_row_tie : Rows.fnTranslateRow.laidByTextAt .later Tryz.pinned [.sentinel, .sentinel, .sentinel] true :=
  OpenClaim.laidByTextAt_later rfl rfl tie noOwnUnsafe
theorem fnExactTranslate_row_tie : Rows.fnExactTranslateRow.laidByTextAt .later Tryz.pinned [.sentinel, .sentinel, .sentinel] true :=
  OpenClaim.laidByTextAt_later rfl rfl tie noOwnUnsafe
theorem fnTranslateUpto_row_tie : Rows.fnTranslateUptoRow.laidByTextAt .later Tryz.pinned [.sentinel, .sentinel, .sentinel] true :=
  OpenClaim.laidByTextAt_later rfl rfl tie noOwnUnsafe
theorem fnExactTranslateUpto_row_tie : Rows.fnExactTranslateUptoRow.laidByTextAt .later Tryz.pinned [.sentinel, .sentinel, .sentinel] true :=
  OpenClaim.laidByTextAt_later rfl rfl tie noOwnUnsafe
end Go.Proofs.YtoajfbkblpaejaaGreatDoor
