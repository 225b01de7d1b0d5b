/-
  DERIVED. GIVEN WITH THE SEED: THE CARDS: each row of YtghegmbafbpnjaaGreatDoorRows.lean that lists a variable, with what it lists TIED to the program's text (the seventh form; the later family's looks); each row that meets fmt, with fmt's text TOLD by the authors' own Lean function (tested against real Go, not proved from fmt's source: count such statements apart). THE CARD IS WHAT COUNTS. Prove the row's statement (the work); the ties are given (YtghegmbafbpnjaaGreatDoorTie.lean); close each card by the builder's one call (the guide's Derived/Test/ToyasCard.lean, 'card_holds'). Laid BY PROGRAM, IN A SANDBOX (cutbox-door.mjs). By AI agents, Wed Nov 11 2026. No macro, syntax, notation, axiom, sorry.
-/
import Derived.Test.YtghegmbafbpnjaaGreatDoorRows
import GoSem.ClaimSeven
namespace Go.Proofs.YtghegmbafbpnjaaGreatDoor
namespace Rows

/-- THE TIED CARD OF 'vitrinelaw06.ZlibWraps'. -/
def zlibWrapsCard : Claim7 := { stood := { row := zlibWrapsRow, standIns := [], harness := (true, "290dd5d9b746e5d39525c48f486b2a2a0466322a60769e16c96df9547f523b1c"), looks := false }, kinds := [], alts := [], laidByText := true, laidKinds := [.data, .data, .data, .data], laidTests := true, laidLooks := .later }
def ZlibWrapsCardSaid : Prop := Claim7.holds Tryz.pinned (.plain (OpenSpec.ofChange zlibWrapsSpec)) zlibWrapsCard

/-- THE TIED CARD OF 'vitrinelaw06.ZlibUnwraps'. -/
def zlibUnwrapsCard : Claim7 := { stood := { row := zlibUnwrapsRow, standIns := [], harness := (true, "290dd5d9b746e5d39525c48f486b2a2a0466322a60769e16c96df9547f523b1c"), looks := false }, kinds := [], alts := [], laidByText := true, laidKinds := [.data, .data, .data, .data], laidTests := true, laidLooks := .later }
def ZlibUnwrapsCardSaid : Prop := Claim7.holds Tryz.pinned (.plain (OpenSpec.ofChange zlibUnwrapsSpec)) zlibUnwrapsCard

/-- THE SECOND FORM's CARD OF 'vitrinelaw06.ZlibWraps'. -/
def zlibWrapsUptoCard : Claim7 := { stood := { row := zlibWrapsUptoRow, standIns := [], harness := (true, "290dd5d9b746e5d39525c48f486b2a2a0466322a60769e16c96df9547f523b1c"), looks := false }, kinds := [], alts := [], laidByText := true, laidKinds := [.data, .data, .data, .data], laidTests := true, laidLooks := .later }
def ZlibWrapsUptoCardSaid : Prop := Claim7.holds Tryz.pinned (.plain (OpenSpec.upto zlibWrapsSpec)) zlibWrapsUptoCard

/-- THE SECOND FORM's CARD OF 'vitrinelaw06.ZlibUnwraps'. -/
def zlibUnwrapsUptoCard : Claim7 := { stood := { row := zlibUnwrapsUptoRow, standIns := [], harness := (true, "290dd5d9b746e5d39525c48f486b2a2a0466322a60769e16c96df9547f523b1c"), looks := false }, kinds := [], alts := [], laidByText := true, laidKinds := [.data, .data, .data, .data], laidTests := true, laidLooks := .later }
def ZlibUnwrapsUptoCardSaid : Prop := Claim7.holds Tryz.pinned (.plain (OpenSpec.upto zlibUnwrapsSpec)) zlibUnwrapsUptoCard
end Rows
end Go.Proofs.YtghegmbafbpnjaaGreatDoor
