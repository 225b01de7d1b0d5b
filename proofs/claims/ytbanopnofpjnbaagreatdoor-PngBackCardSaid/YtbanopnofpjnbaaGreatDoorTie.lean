/-
  DERIVED. GIVEN WITH THE SEED: THE PROGRAM's TIES (one call each: nine closed facts by the kernel) AND EACH ROW's TIE, after the 31st guide's Derived/Test/Toyas{Tie, Card}.lean. No idea stands in it: it is a product of the set-up. Laid BY PROGRAM, IN A SANDBOX (cutbox-door.mjs). By AI agents, Wed Nov 11 2026. No macro, syntax, notation, axiom, sorry.
-/
import Derived.Test.YtbanopnofpjnbaaGreatDoorRows
import Derived.LaidByTextLater
import Derived.SevenTiedAt
import Derived.LaidSub
import Derived.LaidOnce
namespace Go.Proofs.YtbanopnofpjnbaaGreatDoor
open Go
set_option maxRecDepth 100000
theorem seatTie1 : Tryz.prog.laidByTextLater [("vitrine/inflate.smallOrder", Rows.laid_vitrine_inflate_smallOrder), ("vitrine/inflate.leastTimes", Rows.laid_vitrine_inflate_leastTimes), ("vitrine/inflate.timesBits", Rows.laid_vitrine_inflate_timesBits), ("vitrine/lace.places", Rows.laid_vitrine_lace_places), ("vitrine/deflate.smallOrder", Rows.laid_vitrine_deflate_smallOrder)] [.data, .data, .data, .data, .data] true :=
  Program.laidByTextLater_by_one 42 8 33 (by kernel_rfl) (by kernel_rfl) (by kernel_rfl) (by kernel_rfl) (by kernel_rfl) (by kernel_rfl) (fun _ _ => by kernel_rfl)
theorem noOwnUnsafe : Tryz.pinned.checked.prog.headLifts.contains "ownunsafe" = false := by kernel_rfl
theorem tie : Tryz.prog.laidByTextLater [("vitrine/inflate.smallOrder", Rows.laid_vitrine_inflate_smallOrder), ("vitrine/inflate.leastTimes", Rows.laid_vitrine_inflate_leastTimes), ("vitrine/inflate.timesBits", Rows.laid_vitrine_inflate_timesBits), ("vitrine/lace.places", Rows.laid_vitrine_lace_places), ("vitrine/deflate.smallOrder", Rows.laid_vitrine_deflate_smallOrder)] [.data, .data, .data, .data, .data] true :=
  Program.laidByTextLater.sub seatTie1 ["vitrine/inflate.smallOrder", "vitrine/inflate.leastTimes", "vitrine/inflate.timesBits", "vitrine/lace.places", "vitrine/deflate.smallOrder"] (by kernel_rfl) (by kernel_rfl)
theorem pngDecodes_row_tie : Rows.pngDecodesRow.laidByTextAt .later Tryz.pinned [.data, .data, .data, .data, .data] true :=
  OpenClaim.laidByTextAt_later rfl rfl tie noOwnUnsafe
theorem pngEncodes_row_tie : Rows.pngEncodesRow.laidByTextAt .later Tryz.pinned [.data, .data, .data, .data, .data] true :=
  OpenClaim.laidByTextAt_later rfl rfl tie noOwnUnsafe
theorem pngBack_row_tie : Rows.pngBackRow.laidByTextAt .later Tryz.pinned [.data, .data, .data, .data, .data] true :=
  OpenClaim.laidByTextAt_later rfl rfl tie noOwnUnsafe
theorem pngAgain_row_tie : Rows.pngAgainRow.laidByTextAt .later Tryz.pinned [.data, .data, .data, .data, .data] true :=
  OpenClaim.laidByTextAt_later rfl rfl tie noOwnUnsafe
theorem pngCut_row_tie : Rows.pngCutRow.laidByTextAt .later Tryz.pinned [.data, .data, .data, .data, .data] true :=
  OpenClaim.laidByTextAt_later rfl rfl tie noOwnUnsafe
theorem pngBounds_row_tie : Rows.pngBoundsRow.laidByTextAt .later Tryz.pinned [.data, .data, .data, .data, .data] true :=
  OpenClaim.laidByTextAt_later rfl rfl tie noOwnUnsafe
theorem pngDecodesUpto_row_tie : Rows.pngDecodesUptoRow.laidByTextAt .later Tryz.pinned [.data, .data, .data, .data, .data] true :=
  OpenClaim.laidByTextAt_later rfl rfl tie noOwnUnsafe
theorem pngEncodesUpto_row_tie : Rows.pngEncodesUptoRow.laidByTextAt .later Tryz.pinned [.data, .data, .data, .data, .data] true :=
  OpenClaim.laidByTextAt_later rfl rfl tie noOwnUnsafe
theorem pngBackUpto_row_tie : Rows.pngBackUptoRow.laidByTextAt .later Tryz.pinned [.data, .data, .data, .data, .data] true :=
  OpenClaim.laidByTextAt_later rfl rfl tie noOwnUnsafe
theorem pngAgainUpto_row_tie : Rows.pngAgainUptoRow.laidByTextAt .later Tryz.pinned [.data, .data, .data, .data, .data] true :=
  OpenClaim.laidByTextAt_later rfl rfl tie noOwnUnsafe
theorem pngCutUpto_row_tie : Rows.pngCutUptoRow.laidByTextAt .later Tryz.pinned [.data, .data, .data, .data, .data] true :=
  OpenClaim.laidByTextAt_later rfl rfl tie noOwnUnsafe
theorem pngBoundsUpto_row_tie : Rows.pngBoundsUptoRow.laidByTextAt .later Tryz.pinned [.data, .data, .data, .data, .data] true :=
  OpenClaim.laidByTextAt_later rfl rfl tie noOwnUnsafe
end Go.Proofs.YtbanopnofpjnbaaGreatDoor
