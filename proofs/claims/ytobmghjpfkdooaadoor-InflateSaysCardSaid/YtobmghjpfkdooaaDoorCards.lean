/-
  DERIVED. GIVEN WITH THE SEED: THE CARDS: each row of YtobmghjpfkdooaaDoorRows.lean that lists a variable, with what it lists TIED to the program's text (the seventh form; the later family's looks); each row that meets fmt, with fmt's text TOLD by the authors' own Lean function (tested against real Go, not proved from fmt's source: count such statements apart). THE CARD IS WHAT COUNTS. Prove the row's statement (the work); the ties are given (YtobmghjpfkdooaaDoorTie.lean); close each card by the builder's one call (the guide's Derived/Test/ToyasCard.lean, 'card_holds'). Laid BY PROGRAM, IN A SANDBOX (cutbox-door.mjs). By AI agents, Wed Nov 11 2026. No macro, syntax, notation, axiom, sorry.
-/
import Derived.Test.YtobmghjpfkdooaaDoorRows
import GoSem.ClaimSeven
namespace Go.Proofs.YtobmghjpfkdooaaDoor
namespace Rows

/-- THE TIED CARD OF 'vitrinelaw03.InflateSays'. -/
def inflateSaysCard : Claim7 := { stood := { row := inflateSaysRow, standIns := [], harness := (true, "50d44e16d558bb01fe9243e1ed5982153b733766cc8c5c6692304de12660c92f"), looks := false }, kinds := [], alts := [], laidByText := true, laidKinds := [.data, .data, .data], laidTests := true, laidLooks := .later }
def InflateSaysCardSaid : Prop := Claim7.holds Tryd.pinned (.plain (OpenSpec.ofChange inflateSaysSpec)) inflateSaysCard

/-- THE TIED CARD OF 'vitrinelaw03.InflateFront'. -/
def inflateFrontCard : Claim7 := { stood := { row := inflateFrontRow, standIns := [], harness := (true, "50d44e16d558bb01fe9243e1ed5982153b733766cc8c5c6692304de12660c92f"), looks := false }, kinds := [], alts := [], laidByText := true, laidKinds := [.data, .data, .data], laidTests := true, laidLooks := .later }
def InflateFrontCardSaid : Prop := Claim7.holds Tryd.pinned (.plain (OpenSpec.ofChange inflateFrontSpec)) inflateFrontCard

/-- THE TIED CARD OF 'vitrinelaw03.InflateBound'. -/
def inflateBoundCard : Claim7 := { stood := { row := inflateBoundRow, standIns := [], harness := (true, "50d44e16d558bb01fe9243e1ed5982153b733766cc8c5c6692304de12660c92f"), looks := false }, kinds := [], alts := [], laidByText := true, laidKinds := [.data, .data, .data], laidTests := true, laidLooks := .later }
def InflateBoundCardSaid : Prop := Claim7.holds Tryd.pinned (.plain (OpenSpec.ofChange inflateBoundSpec)) inflateBoundCard

/-- THE SECOND FORM's CARD OF 'vitrinelaw03.InflateSays'. -/
def inflateSaysUptoCard : Claim7 := { stood := { row := inflateSaysUptoRow, standIns := [], harness := (true, "50d44e16d558bb01fe9243e1ed5982153b733766cc8c5c6692304de12660c92f"), looks := false }, kinds := [], alts := [], laidByText := true, laidKinds := [.data, .data, .data], laidTests := true, laidLooks := .later }
def InflateSaysUptoCardSaid : Prop := Claim7.holds Tryd.pinned (.plain (OpenSpec.upto inflateSaysSpec)) inflateSaysUptoCard

/-- THE SECOND FORM's CARD OF 'vitrinelaw03.InflateFront'. -/
def inflateFrontUptoCard : Claim7 := { stood := { row := inflateFrontUptoRow, standIns := [], harness := (true, "50d44e16d558bb01fe9243e1ed5982153b733766cc8c5c6692304de12660c92f"), looks := false }, kinds := [], alts := [], laidByText := true, laidKinds := [.data, .data, .data], laidTests := true, laidLooks := .later }
def InflateFrontUptoCardSaid : Prop := Claim7.holds Tryd.pinned (.plain (OpenSpec.upto inflateFrontSpec)) inflateFrontUptoCard

/-- THE SECOND FORM's CARD OF 'vitrinelaw03.InflateBound'. -/
def inflateBoundUptoCard : Claim7 := { stood := { row := inflateBoundUptoRow, standIns := [], harness := (true, "50d44e16d558bb01fe9243e1ed5982153b733766cc8c5c6692304de12660c92f"), looks := false }, kinds := [], alts := [], laidByText := true, laidKinds := [.data, .data, .data], laidTests := true, laidLooks := .later }
def InflateBoundUptoCardSaid : Prop := Claim7.holds Tryd.pinned (.plain (OpenSpec.upto inflateBoundSpec)) inflateBoundUptoCard
end Rows
end Go.Proofs.YtobmghjpfkdooaaDoor
