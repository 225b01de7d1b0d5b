/-
  DERIVED. GIVEN WITH THE SEED: THE PROGRAM's TIES (one call each: nine closed facts by the kernel) AND EACH ROW's TIE, after the 31st guide's Derived/Test/Toyas{Tie, Card}.lean. No idea stands in it: it is a product of the set-up. Laid BY PROGRAM, IN A SANDBOX (cutbox-door.mjs). By AI agents, Wed Nov 11 2026. No macro, syntax, notation, axiom, sorry.
-/
import Derived.Test.YtghegmbafbpnjaaGreatDoorRows
import Derived.LaidByTextLater
import Derived.SevenTiedAt
import Derived.LaidSub
import Derived.LaidOnce
namespace Go.Proofs.YtghegmbafbpnjaaGreatDoor
open Go
set_option maxRecDepth 100000
theorem seatTie1 : Tryz.prog.laidByTextLater [("vitrine/inflate.smallOrder", Rows.laid_vitrine_inflate_smallOrder), ("vitrine/inflate.leastTimes", Rows.laid_vitrine_inflate_leastTimes), ("vitrine/inflate.timesBits", Rows.laid_vitrine_inflate_timesBits), ("vitrine/deflate.smallOrder", Rows.laid_vitrine_deflate_smallOrder)] [.data, .data, .data, .data] true :=
  Program.laidByTextLater_by_one 29 8 20 (by kernel_rfl) (by kernel_rfl) (by kernel_rfl) (by kernel_rfl) (by kernel_rfl) (by kernel_rfl) (fun _ _ => by kernel_rfl)
theorem noOwnUnsafe : Tryz.pinned.checked.prog.headLifts.contains "ownunsafe" = false := by kernel_rfl
theorem tie : Tryz.prog.laidByTextLater [("vitrine/inflate.smallOrder", Rows.laid_vitrine_inflate_smallOrder), ("vitrine/inflate.leastTimes", Rows.laid_vitrine_inflate_leastTimes), ("vitrine/inflate.timesBits", Rows.laid_vitrine_inflate_timesBits), ("vitrine/deflate.smallOrder", Rows.laid_vitrine_deflate_smallOrder)] [.data, .data, .data, .data] true :=
  Program.laidByTextLater.sub seatTie1 ["vitrine/inflate.smallOrder", "vitrine/inflate.leastTimes", "vitrine/inflate.timesBits", "vitrine/deflate.smallOrder"] (by kernel_rfl) (by kernel_rfl)
theorem zlibWraps_row_tie : Rows.zlibWrapsRow.laidByTextAt .later Tryz.pinned [.data, .data, .data, .data] true :=
  OpenClaim.laidByTextAt_later rfl rfl tie noOwnUnsafe
theorem zlibUnwraps_row_tie : Rows.zlibUnwrapsRow.laidByTextAt .later Tryz.pinned [.data, .data, .data, .data] true :=
  OpenClaim.laidByTextAt_later rfl rfl tie noOwnUnsafe
theorem zlibWrapsUpto_row_tie : Rows.zlibWrapsUptoRow.laidByTextAt .later Tryz.pinned [.data, .data, .data, .data] true :=
  OpenClaim.laidByTextAt_later rfl rfl tie noOwnUnsafe
theorem zlibUnwrapsUpto_row_tie : Rows.zlibUnwrapsUptoRow.laidByTextAt .later Tryz.pinned [.data, .data, .data, .data] true :=
  OpenClaim.laidByTextAt_later rfl rfl tie noOwnUnsafe
end Go.Proofs.YtghegmbafbpnjaaGreatDoor
