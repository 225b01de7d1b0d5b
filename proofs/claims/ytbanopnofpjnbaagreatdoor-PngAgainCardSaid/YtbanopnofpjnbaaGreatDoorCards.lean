/-
  DERIVED. GIVEN WITH THE SEED: THE CARDS: each row of YtbanopnofpjnbaaGreatDoorRows.lean that lists a variable, with what it lists TIED to the program's text (the seventh form; the later family's looks); each row that meets fmt, with fmt's text TOLD by the authors' own Lean function (tested against real Go, not proved from fmt's source: count such statements apart). THE CARD IS WHAT COUNTS. Prove the row's statement (the work); the ties are given (YtbanopnofpjnbaaGreatDoorTie.lean); close each card by the builder's one call (the guide's Derived/Test/ToyasCard.lean, 'card_holds'). Laid BY PROGRAM, IN A SANDBOX (cutbox-door.mjs). By AI agents, Wed Nov 11 2026. No macro, syntax, notation, axiom, sorry.
-/
import Derived.Test.YtbanopnofpjnbaaGreatDoorRows
import GoSem.ClaimSeven
namespace Go.Proofs.YtbanopnofpjnbaaGreatDoor
namespace Rows

/-- THE TIED CARD OF 'vitrinelaw13.PngDecodes'. -/
def pngDecodesCard : Claim7 := { stood := { row := pngDecodesRow, standIns := [], harness := (true, "964e3b57f5f4a52174d848a23c0ed6a76e776eb815840b90ecf0a620b2b5f6eb"), looks := false }, kinds := [], alts := [], laidByText := true, laidKinds := [.data, .data, .data, .data, .data], laidTests := true, laidLooks := .later }
def PngDecodesCardSaid : Prop := Claim7.holds Tryz.pinned (.plain (OpenSpec.ofChange pngDecodesSpec)) pngDecodesCard

/-- THE TIED CARD OF 'vitrinelaw13.PngEncodes'. -/
def pngEncodesCard : Claim7 := { stood := { row := pngEncodesRow, standIns := [], harness := (true, "964e3b57f5f4a52174d848a23c0ed6a76e776eb815840b90ecf0a620b2b5f6eb"), looks := false }, kinds := [], alts := [], laidByText := true, laidKinds := [.data, .data, .data, .data, .data], laidTests := true, laidLooks := .later }
def PngEncodesCardSaid : Prop := Claim7.holds Tryz.pinned (.plain (OpenSpec.ofChange pngEncodesSpec)) pngEncodesCard

/-- THE TIED CARD OF 'vitrinelaw13.PngBack'. -/
def pngBackCard : Claim7 := { stood := { row := pngBackRow, standIns := [], harness := (true, "964e3b57f5f4a52174d848a23c0ed6a76e776eb815840b90ecf0a620b2b5f6eb"), looks := false }, kinds := [], alts := [], laidByText := true, laidKinds := [.data, .data, .data, .data, .data], laidTests := true, laidLooks := .later }
def PngBackCardSaid : Prop := Claim7.holds Tryz.pinned (.plain (OpenSpec.ofChange pngBackSpec)) pngBackCard

/-- THE TIED CARD OF 'vitrinelaw13.PngAgain'. -/
def pngAgainCard : Claim7 := { stood := { row := pngAgainRow, standIns := [], harness := (true, "964e3b57f5f4a52174d848a23c0ed6a76e776eb815840b90ecf0a620b2b5f6eb"), looks := false }, kinds := [], alts := [], laidByText := true, laidKinds := [.data, .data, .data, .data, .data], laidTests := true, laidLooks := .later }
def PngAgainCardSaid : Prop := Claim7.holds Tryz.pinned (.plain (OpenSpec.ofChange pngAgainSpec)) pngAgainCard

/-- THE TIED CARD OF 'vitrinelaw13.PngCut'. -/
def pngCutCard : Claim7 := { stood := { row := pngCutRow, standIns := [], harness := (true, "964e3b57f5f4a52174d848a23c0ed6a76e776eb815840b90ecf0a620b2b5f6eb"), looks := false }, kinds := [], alts := [], laidByText := true, laidKinds := [.data, .data, .data, .data, .data], laidTests := true, laidLooks := .later }
def PngCutCardSaid : Prop := Claim7.holds Tryz.pinned (.plain (OpenSpec.ofChange pngCutSpec)) pngCutCard

/-- THE TIED CARD OF 'vitrinelaw13.PngBounds'. -/
def pngBoundsCard : Claim7 := { stood := { row := pngBoundsRow, standIns := [], harness := (true, "964e3b57f5f4a52174d848a23c0ed6a76e776eb815840b90ecf0a620b2b5f6eb"), looks := false }, kinds := [], alts := [], laidByText := true, laidKinds := [.data, .data, .data, .data, .data], laidTests := true, laidLooks := .later }
def PngBoundsCardSaid : Prop := Claim7.holds Tryz.pinned (.plain (OpenSpec.ofChange pngBoundsSpec)) pngBoundsCard

/-- THE SECOND FORM's CARD OF 'vitrinelaw13.PngDecodes'. -/
def pngDecodesUptoCard : Claim7 := { stood := { row := pngDecodesUptoRow, standIns := [], harness := (true, "964e3b57f5f4a52174d848a23c0ed6a76e776eb815840b90ecf0a620b2b5f6eb"), looks := false }, kinds := [], alts := [], laidByText := true, laidKinds := [.data, .data, .data, .data, .data], laidTests := true, laidLooks := .later }
def PngDecodesUptoCardSaid : Prop := Claim7.holds Tryz.pinned (.plain (OpenSpec.upto pngDecodesSpec)) pngDecodesUptoCard

/-- THE SECOND FORM's CARD OF 'vitrinelaw13.PngEncodes'. -/
def pngEncodesUptoCard : Claim7 := { stood := { row := pngEncodesUptoRow, standIns := [], harness := (true, "964e3b57f5f4a52174d848a23c0ed6a76e776eb815840b90ecf0a620b2b5f6eb"), looks := false }, kinds := [], alts := [], laidByText := true, laidKinds := [.data, .data, .data, .data, .data], laidTests := true, laidLooks := .later }
def PngEncodesUptoCardSaid : Prop := Claim7.holds Tryz.pinned (.plain (OpenSpec.upto pngEncodesSpec)) pngEncodesUptoCard

/-- THE SECOND FORM's CARD OF 'vitrinelaw13.PngBack'. -/
def pngBackUptoCard : Claim7 := { stood := { row := pngBackUptoRow, standIns := [], harness := (true, "964e3b57f5f4a52174d848a23c0ed6a76e776eb815840b90ecf0a620b2b5f6eb"), looks := false }, kinds := [], alts := [], laidByText := true, laidKinds := [.data, .data, .data, .data, .data], laidTests := true, laidLooks := .later }
def PngBackUptoCardSaid : Prop := Claim7.holds Tryz.pinned (.plain (OpenSpec.upto pngBackSpec)) pngBackUptoCard

/-- THE SECOND FORM's CARD OF 'vitrinelaw13.PngAgain'. -/
def pngAgainUptoCard : Claim7 := { stood := { row := pngAgainUptoRow, standIns := [], harness := (true, "964e3b57f5f4a52174d848a23c0ed6a76e776eb815840b90ecf0a620b2b5f6eb"), looks := false }, kinds := [], alts := [], laidByText := true, laidKinds := [.data, .data, .data, .data, .data], laidTests := true, laidLooks := .later }
def PngAgainUptoCardSaid : Prop := Claim7.holds Tryz.pinned (.plain (OpenSpec.upto pngAgainSpec)) pngAgainUptoCard

/-- THE SECOND FORM's CARD OF 'vitrinelaw13.PngCut'. -/
def pngCutUptoCard : Claim7 := { stood := { row := pngCutUptoRow, standIns := [], harness := (true, "964e3b57f5f4a52174d848a23c0ed6a76e776eb815840b90ecf0a620b2b5f6eb"), looks := false }, kinds := [], alts := [], laidByText := true, laidKinds := [.data, .data, .data, .data, .data], laidTests := true, laidLooks := .later }
def PngCutUptoCardSaid : Prop := Claim7.holds Tryz.pinned (.plain (OpenSpec.upto pngCutSpec)) pngCutUptoCard

/-- THE SECOND FORM's CARD OF 'vitrinelaw13.PngBounds'. -/
def pngBoundsUptoCard : Claim7 := { stood := { row := pngBoundsUptoRow, standIns := [], harness := (true, "964e3b57f5f4a52174d848a23c0ed6a76e776eb815840b90ecf0a620b2b5f6eb"), looks := false }, kinds := [], alts := [], laidByText := true, laidKinds := [.data, .data, .data, .data, .data], laidTests := true, laidLooks := .later }
def PngBoundsUptoCardSaid : Prop := Claim7.holds Tryz.pinned (.plain (OpenSpec.upto pngBoundsSpec)) pngBoundsUptoCard
end Rows
end Go.Proofs.YtbanopnofpjnbaaGreatDoor
