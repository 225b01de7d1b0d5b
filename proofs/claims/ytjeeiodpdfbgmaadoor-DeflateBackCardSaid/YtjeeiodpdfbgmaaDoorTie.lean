/-
  DERIVED. GIVEN WITH THE SEED: THE PROGRAM's TIES (one call each: nine closed facts by the kernel) AND EACH ROW's TIE, after the 31st guide's Derived/Test/Toyas{Tie, Card}.lean. No idea stands in it: it is a product of the set-up. Laid BY PROGRAM, IN A SANDBOX (cutbox-door.mjs). By AI agents, Wed Nov 11 2026. No macro, syntax, notation, axiom, sorry.
-/
import Derived.Test.YtjeeiodpdfbgmaaDoorRows
import Derived.LaidByTextLater
import Derived.SevenTiedAt
import Derived.LaidSub
import Derived.LaidOnce
namespace Go.Proofs.YtjeeiodpdfbgmaaDoor
open Go
set_option maxRecDepth 100000
theorem seatTie1 : Tryd.prog.laidByTextLater [("vitrine/inflate.smallOrder", Rows.laid_vitrine_inflate_smallOrder), ("vitrine/inflate.leastTimes", Rows.laid_vitrine_inflate_leastTimes), ("vitrine/inflate.timesBits", Rows.laid_vitrine_inflate_timesBits), ("vitrine/deflate.smallOrder", Rows.laid_vitrine_deflate_smallOrder)] [.data, .data, .data, .data] true :=
  Program.laidByTextLater_by_one 29 8 20 (by kernel_rfl) (by kernel_rfl) (by kernel_rfl) (by kernel_rfl) (by kernel_rfl) (by kernel_rfl) (fun _ _ => by kernel_rfl)
theorem noOwnUnsafe : Tryd.pinned.checked.prog.headLifts.contains "ownunsafe" = false := by kernel_rfl
theorem tie : Tryd.prog.laidByTextLater [("vitrine/deflate.smallOrder", Rows.laid_vitrine_deflate_smallOrder)] [.data] true :=
  Program.laidByTextLater.sub seatTie1 ["vitrine/deflate.smallOrder"] (by kernel_rfl) (by kernel_rfl)
theorem deflateRuns_row_tie : Rows.deflateRunsRow.laidByTextAt .later Tryd.pinned [.data] true :=
  OpenClaim.laidByTextAt_later rfl rfl tie noOwnUnsafe
theorem deflateStored_row_tie : Rows.deflateStoredRow.laidByTextAt .later Tryd.pinned [.data] true :=
  OpenClaim.laidByTextAt_later rfl rfl tie noOwnUnsafe
theorem deflateFixed_row_tie : Rows.deflateFixedRow.laidByTextAt .later Tryd.pinned [.data] true :=
  OpenClaim.laidByTextAt_later rfl rfl tie noOwnUnsafe
theorem deflateDynamic_row_tie : Rows.deflateDynamicRow.laidByTextAt .later Tryd.pinned [.data] true :=
  OpenClaim.laidByTextAt_later rfl rfl tie noOwnUnsafe
theorem deflateBest_row_tie : Rows.deflateBestRow.laidByTextAt .later Tryd.pinned [.data] true :=
  OpenClaim.laidByTextAt_later rfl rfl tie noOwnUnsafe
theorem deflateLeast_row_tie : Rows.deflateLeastRow.laidByTextAt .later Tryd.pinned [.data] true :=
  OpenClaim.laidByTextAt_later rfl rfl tie noOwnUnsafe
theorem tie2 : Tryd.prog.laidByTextLater [("vitrine/inflate.smallOrder", Rows.laid_vitrine_inflate_smallOrder), ("vitrine/inflate.leastTimes", Rows.laid_vitrine_inflate_leastTimes), ("vitrine/inflate.timesBits", Rows.laid_vitrine_inflate_timesBits), ("vitrine/deflate.smallOrder", Rows.laid_vitrine_deflate_smallOrder)] [.data, .data, .data, .data] true :=
  Program.laidByTextLater.sub seatTie1 ["vitrine/inflate.smallOrder", "vitrine/inflate.leastTimes", "vitrine/inflate.timesBits", "vitrine/deflate.smallOrder"] (by kernel_rfl) (by kernel_rfl)
theorem deflateBack_row_tie : Rows.deflateBackRow.laidByTextAt .later Tryd.pinned [.data, .data, .data, .data] true :=
  OpenClaim.laidByTextAt_later rfl rfl tie2 noOwnUnsafe
theorem deflateRunsUpto_row_tie : Rows.deflateRunsUptoRow.laidByTextAt .later Tryd.pinned [.data] true :=
  OpenClaim.laidByTextAt_later rfl rfl tie noOwnUnsafe
theorem deflateStoredUpto_row_tie : Rows.deflateStoredUptoRow.laidByTextAt .later Tryd.pinned [.data] true :=
  OpenClaim.laidByTextAt_later rfl rfl tie noOwnUnsafe
theorem deflateFixedUpto_row_tie : Rows.deflateFixedUptoRow.laidByTextAt .later Tryd.pinned [.data] true :=
  OpenClaim.laidByTextAt_later rfl rfl tie noOwnUnsafe
theorem deflateDynamicUpto_row_tie : Rows.deflateDynamicUptoRow.laidByTextAt .later Tryd.pinned [.data] true :=
  OpenClaim.laidByTextAt_later rfl rfl tie noOwnUnsafe
theorem deflateBestUpto_row_tie : Rows.deflateBestUptoRow.laidByTextAt .later Tryd.pinned [.data] true :=
  OpenClaim.laidByTextAt_later rfl rfl tie noOwnUnsafe
theorem deflateBackUpto_row_tie : Rows.deflateBackUptoRow.laidByTextAt .later Tryd.pinned [.data, .data, .data, .data] true :=
  OpenClaim.laidByTextAt_later rfl rfl tie2 noOwnUnsafe
theorem deflateLeastUpto_row_tie : Rows.deflateLeastUptoRow.laidByTextAt .later Tryd.pinned [.data] true :=
  OpenClaim.laidByTextAt_later rfl rfl tie noOwnUnsafe
end Go.Proofs.YtjeeiodpdfbgmaaDoor
