/-
  DERIVED. GIVEN WITH THE SEED: THE CARDS: each row of YtfiedoejdikcgaaDoorRows.lean that lists a variable, with what it lists TIED to the program's text (the seventh form; the later family's looks); each row that meets fmt, with fmt's text TOLD by the authors' own Lean function (tested against real Go, not proved from fmt's source: count such statements apart). THE CARD IS WHAT COUNTS. Prove the row's statement (the work); the ties are given (YtfiedoejdikcgaaDoorTie.lean); close each card by the builder's one call (the guide's Derived/Test/ToyasCard.lean, 'card_holds'). Laid BY PROGRAM, IN A SANDBOX (cutbox-door.mjs). By AI agents, Wed Nov 11 2026. No macro, syntax, notation, axiom, sorry.
-/
import Derived.Test.YtfiedoejdikcgaaDoorRows
import GoSem.ClaimSeven
namespace Go.Proofs.YtfiedoejdikcgaaDoor
namespace Rows

/-- THE TIED CARD OF 'vitrinelaw12.PixelChecks'. -/
def pixelChecksCard : Claim7 := { stood := { row := pixelChecksRow, standIns := [], harness := (true, "bab673c67e2820ef759c54a2ad13fc1a3404796a0fa2d497216ea04d45852459"), looks := false }, kinds := [], alts := [], laidByText := true, laidKinds := [.data], laidTests := true, laidLooks := .later }
def PixelChecksCardSaid : Prop := Claim7.holds Tryd.pinned (.plain (OpenSpec.ofChange pixelChecksSpec)) pixelChecksCard

/-- THE TIED CARD OF 'vitrinelaw12.PixelImages'. -/
def pixelImagesCard : Claim7 := { stood := { row := pixelImagesRow, standIns := [], harness := (true, "bab673c67e2820ef759c54a2ad13fc1a3404796a0fa2d497216ea04d45852459"), looks := false }, kinds := [], alts := [], laidByText := true, laidKinds := [.data], laidTests := true, laidLooks := .later }
def PixelImagesCardSaid : Prop := Claim7.holds Tryd.pinned (.plain (OpenSpec.ofChange pixelImagesSpec)) pixelImagesCard

/-- THE TIED CARD OF 'vitrinelaw12.PixelRows'. -/
def pixelRowsCard : Claim7 := { stood := { row := pixelRowsRow, standIns := [], harness := (true, "bab673c67e2820ef759c54a2ad13fc1a3404796a0fa2d497216ea04d45852459"), looks := false }, kinds := [], alts := [], laidByText := true, laidKinds := [.data], laidTests := true, laidLooks := .later }
def PixelRowsCardSaid : Prop := Claim7.holds Tryd.pinned (.plain (OpenSpec.ofChange pixelRowsSpec)) pixelRowsCard

/-- THE TIED CARD OF 'vitrinelaw12.PixelBack'. -/
def pixelBackCard : Claim7 := { stood := { row := pixelBackRow, standIns := [], harness := (true, "bab673c67e2820ef759c54a2ad13fc1a3404796a0fa2d497216ea04d45852459"), looks := false }, kinds := [], alts := [], laidByText := true, laidKinds := [.data], laidTests := true, laidLooks := .later }
def PixelBackCardSaid : Prop := Claim7.holds Tryd.pinned (.plain (OpenSpec.ofChange pixelBackSpec)) pixelBackCard

/-- THE TIED CARD OF 'vitrinelaw12.PixelSame'. -/
def pixelSameCard : Claim7 := { stood := { row := pixelSameRow, standIns := [], harness := (true, "bab673c67e2820ef759c54a2ad13fc1a3404796a0fa2d497216ea04d45852459"), looks := false }, kinds := [], alts := [], laidByText := true, laidKinds := [.data], laidTests := true, laidLooks := .later }
def PixelSameCardSaid : Prop := Claim7.holds Tryd.pinned (.plain (OpenSpec.ofChange pixelSameSpec)) pixelSameCard

/-- THE SECOND FORM's CARD OF 'vitrinelaw12.PixelChecks'. -/
def pixelChecksUptoCard : Claim7 := { stood := { row := pixelChecksUptoRow, standIns := [], harness := (true, "bab673c67e2820ef759c54a2ad13fc1a3404796a0fa2d497216ea04d45852459"), looks := false }, kinds := [], alts := [], laidByText := true, laidKinds := [.data], laidTests := true, laidLooks := .later }
def PixelChecksUptoCardSaid : Prop := Claim7.holds Tryd.pinned (.plain (OpenSpec.upto pixelChecksSpec)) pixelChecksUptoCard

/-- THE SECOND FORM's CARD OF 'vitrinelaw12.PixelImages'. -/
def pixelImagesUptoCard : Claim7 := { stood := { row := pixelImagesUptoRow, standIns := [], harness := (true, "bab673c67e2820ef759c54a2ad13fc1a3404796a0fa2d497216ea04d45852459"), looks := false }, kinds := [], alts := [], laidByText := true, laidKinds := [.data], laidTests := true, laidLooks := .later }
def PixelImagesUptoCardSaid : Prop := Claim7.holds Tryd.pinned (.plain (OpenSpec.upto pixelImagesSpec)) pixelImagesUptoCard

/-- THE SECOND FORM's CARD OF 'vitrinelaw12.PixelRows'. -/
def pixelRowsUptoCard : Claim7 := { stood := { row := pixelRowsUptoRow, standIns := [], harness := (true, "bab673c67e2820ef759c54a2ad13fc1a3404796a0fa2d497216ea04d45852459"), looks := false }, kinds := [], alts := [], laidByText := true, laidKinds := [.data], laidTests := true, laidLooks := .later }
def PixelRowsUptoCardSaid : Prop := Claim7.holds Tryd.pinned (.plain (OpenSpec.upto pixelRowsSpec)) pixelRowsUptoCard

/-- THE SECOND FORM's CARD OF 'vitrinelaw12.PixelBack'. -/
def pixelBackUptoCard : Claim7 := { stood := { row := pixelBackUptoRow, standIns := [], harness := (true, "bab673c67e2820ef759c54a2ad13fc1a3404796a0fa2d497216ea04d45852459"), looks := false }, kinds := [], alts := [], laidByText := true, laidKinds := [.data], laidTests := true, laidLooks := .later }
def PixelBackUptoCardSaid : Prop := Claim7.holds Tryd.pinned (.plain (OpenSpec.upto pixelBackSpec)) pixelBackUptoCard

/-- THE SECOND FORM's CARD OF 'vitrinelaw12.PixelSame'. -/
def pixelSameUptoCard : Claim7 := { stood := { row := pixelSameUptoRow, standIns := [], harness := (true, "bab673c67e2820ef759c54a2ad13fc1a3404796a0fa2d497216ea04d45852459"), looks := false }, kinds := [], alts := [], laidByText := true, laidKinds := [.data], laidTests := true, laidLooks := .later }
def PixelSameUptoCardSaid : Prop := Claim7.holds Tryd.pinned (.plain (OpenSpec.upto pixelSameSpec)) pixelSameUptoCard
end Rows
end Go.Proofs.YtfiedoejdikcgaaDoor
