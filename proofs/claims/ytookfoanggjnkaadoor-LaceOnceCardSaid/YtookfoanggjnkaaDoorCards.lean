/-
  DERIVED. GIVEN WITH THE SEED: THE CARDS: each row of YtookfoanggjnkaaDoorRows.lean that lists a variable, with what it lists TIED to the program's text (the seventh form; the later family's looks); each row that meets fmt, with fmt's text TOLD by the authors' own Lean function (tested against real Go, not proved from fmt's source: count such statements apart). THE CARD IS WHAT COUNTS. Prove the row's statement (the work); the ties are given (YtookfoanggjnkaaDoorTie.lean); close each card by the builder's one call (the guide's Derived/Test/ToyasCard.lean, 'card_holds'). Laid BY PROGRAM, IN A SANDBOX (cutbox-door.mjs). By AI agents, Wed Nov 11 2026. No macro, syntax, notation, axiom, sorry.
-/
import Derived.Test.YtookfoanggjnkaaDoorRows
import GoSem.ClaimSeven
namespace Go.Proofs.YtookfoanggjnkaaDoor
namespace Rows

/-- THE TIED CARD OF 'vitrinelaw10.LacePasses'. -/
def lacePassesCard : Claim7 := { stood := { row := lacePassesRow, standIns := [], harness := (true, "1ffe6cf5fdc31a0e172b0b75b7741eac605f65e7443656afbf59c44b97daa7d1"), looks := false }, kinds := [], alts := [], laidByText := true, laidKinds := [.data], laidTests := true, laidLooks := .later }
def LacePassesCardSaid : Prop := Claim7.holds Tryd.pinned (.plain (OpenSpec.ofChange lacePassesSpec)) lacePassesCard

/-- THE TIED CARD OF 'vitrinelaw10.LaceSizes'. -/
def laceSizesCard : Claim7 := { stood := { row := laceSizesRow, standIns := [], harness := (true, "1ffe6cf5fdc31a0e172b0b75b7741eac605f65e7443656afbf59c44b97daa7d1"), looks := false }, kinds := [], alts := [], laidByText := true, laidKinds := [.data], laidTests := true, laidLooks := .later }
def LaceSizesCardSaid : Prop := Claim7.holds Tryd.pinned (.plain (OpenSpec.ofChange laceSizesSpec)) laceSizesCard

/-- THE TIED CARD OF 'vitrinelaw10.LaceOnce'. -/
def laceOnceCard : Claim7 := { stood := { row := laceOnceRow, standIns := [], harness := (true, "1ffe6cf5fdc31a0e172b0b75b7741eac605f65e7443656afbf59c44b97daa7d1"), looks := false }, kinds := [], alts := [], laidByText := true, laidKinds := [.data], laidTests := true, laidLooks := .later }
def LaceOnceCardSaid : Prop := Claim7.holds Tryd.pinned (.plain (OpenSpec.ofChange laceOnceSpec)) laceOnceCard

/-- THE TIED CARD OF 'vitrinelaw10.LaceRows'. -/
def laceRowsCard : Claim7 := { stood := { row := laceRowsRow, standIns := [], harness := (true, "1ffe6cf5fdc31a0e172b0b75b7741eac605f65e7443656afbf59c44b97daa7d1"), looks := false }, kinds := [], alts := [], laidByText := true, laidKinds := [.data], laidTests := true, laidLooks := .later }
def LaceRowsCardSaid : Prop := Claim7.holds Tryd.pinned (.plain (OpenSpec.ofChange laceRowsSpec)) laceRowsCard

/-- THE TIED CARD OF 'vitrinelaw10.LaceRowIs'. -/
def laceRowIsCard : Claim7 := { stood := { row := laceRowIsRow, standIns := [], harness := (true, "1ffe6cf5fdc31a0e172b0b75b7741eac605f65e7443656afbf59c44b97daa7d1"), looks := false }, kinds := [], alts := [], laidByText := true, laidKinds := [.data], laidTests := true, laidLooks := .later }
def LaceRowIsCardSaid : Prop := Claim7.holds Tryd.pinned (.plain (OpenSpec.ofChange laceRowIsSpec)) laceRowIsCard

/-- THE TIED CARD OF 'vitrinelaw10.LaceSizeIs'. -/
def laceSizeIsCard : Claim7 := { stood := { row := laceSizeIsRow, standIns := [], harness := (true, "1ffe6cf5fdc31a0e172b0b75b7741eac605f65e7443656afbf59c44b97daa7d1"), looks := false }, kinds := [], alts := [], laidByText := true, laidKinds := [.data], laidTests := true, laidLooks := .later }
def LaceSizeIsCardSaid : Prop := Claim7.holds Tryd.pinned (.plain (OpenSpec.ofChange laceSizeIsSpec)) laceSizeIsCard

/-- THE TIED CARD OF 'vitrinelaw10.LacePlain'. -/
def lacePlainCard : Claim7 := { stood := { row := lacePlainRow, standIns := [], harness := (true, "1ffe6cf5fdc31a0e172b0b75b7741eac605f65e7443656afbf59c44b97daa7d1"), looks := false }, kinds := [], alts := [], laidByText := true, laidKinds := [.data], laidTests := true, laidLooks := .later }
def LacePlainCardSaid : Prop := Claim7.holds Tryd.pinned (.plain (OpenSpec.ofChange lacePlainSpec)) lacePlainCard

/-- THE SECOND FORM's CARD OF 'vitrinelaw10.LacePasses'. -/
def lacePassesUptoCard : Claim7 := { stood := { row := lacePassesUptoRow, standIns := [], harness := (true, "1ffe6cf5fdc31a0e172b0b75b7741eac605f65e7443656afbf59c44b97daa7d1"), looks := false }, kinds := [], alts := [], laidByText := true, laidKinds := [.data], laidTests := true, laidLooks := .later }
def LacePassesUptoCardSaid : Prop := Claim7.holds Tryd.pinned (.plain (OpenSpec.upto lacePassesSpec)) lacePassesUptoCard

/-- THE SECOND FORM's CARD OF 'vitrinelaw10.LaceSizes'. -/
def laceSizesUptoCard : Claim7 := { stood := { row := laceSizesUptoRow, standIns := [], harness := (true, "1ffe6cf5fdc31a0e172b0b75b7741eac605f65e7443656afbf59c44b97daa7d1"), looks := false }, kinds := [], alts := [], laidByText := true, laidKinds := [.data], laidTests := true, laidLooks := .later }
def LaceSizesUptoCardSaid : Prop := Claim7.holds Tryd.pinned (.plain (OpenSpec.upto laceSizesSpec)) laceSizesUptoCard

/-- THE SECOND FORM's CARD OF 'vitrinelaw10.LaceOnce'. -/
def laceOnceUptoCard : Claim7 := { stood := { row := laceOnceUptoRow, standIns := [], harness := (true, "1ffe6cf5fdc31a0e172b0b75b7741eac605f65e7443656afbf59c44b97daa7d1"), looks := false }, kinds := [], alts := [], laidByText := true, laidKinds := [.data], laidTests := true, laidLooks := .later }
def LaceOnceUptoCardSaid : Prop := Claim7.holds Tryd.pinned (.plain (OpenSpec.upto laceOnceSpec)) laceOnceUptoCard

/-- THE SECOND FORM's CARD OF 'vitrinelaw10.LaceRows'. -/
def laceRowsUptoCard : Claim7 := { stood := { row := laceRowsUptoRow, standIns := [], harness := (true, "1ffe6cf5fdc31a0e172b0b75b7741eac605f65e7443656afbf59c44b97daa7d1"), looks := false }, kinds := [], alts := [], laidByText := true, laidKinds := [.data], laidTests := true, laidLooks := .later }
def LaceRowsUptoCardSaid : Prop := Claim7.holds Tryd.pinned (.plain (OpenSpec.upto laceRowsSpec)) laceRowsUptoCard

/-- THE SECOND FORM's CARD OF 'vitrinelaw10.LaceRowIs'. -/
def laceRowIsUptoCard : Claim7 := { stood := { row := laceRowIsUptoRow, standIns := [], harness := (true, "1ffe6cf5fdc31a0e172b0b75b7741eac605f65e7443656afbf59c44b97daa7d1"), looks := false }, kinds := [], alts := [], laidByText := true, laidKinds := [.data], laidTests := true, laidLooks := .later }
def LaceRowIsUptoCardSaid : Prop := Claim7.holds Tryd.pinned (.plain (OpenSpec.upto laceRowIsSpec)) laceRowIsUptoCard

/-- THE SECOND FORM's CARD OF 'vitrinelaw10.LaceSizeIs'. -/
def laceSizeIsUptoCard : Claim7 := { stood := { row := laceSizeIsUptoRow, standIns := [], harness := (true, "1ffe6cf5fdc31a0e172b0b75b7741eac605f65e7443656afbf59c44b97daa7d1"), looks := false }, kinds := [], alts := [], laidByText := true, laidKinds := [.data], laidTests := true, laidLooks := .later }
def LaceSizeIsUptoCardSaid : Prop := Claim7.holds Tryd.pinned (.plain (OpenSpec.upto laceSizeIsSpec)) laceSizeIsUptoCard

/-- THE SECOND FORM's CARD OF 'vitrinelaw10.LacePlain'. -/
def lacePlainUptoCard : Claim7 := { stood := { row := lacePlainUptoRow, standIns := [], harness := (true, "1ffe6cf5fdc31a0e172b0b75b7741eac605f65e7443656afbf59c44b97daa7d1"), looks := false }, kinds := [], alts := [], laidByText := true, laidKinds := [.data], laidTests := true, laidLooks := .later }
def LacePlainUptoCardSaid : Prop := Claim7.holds Tryd.pinned (.plain (OpenSpec.upto lacePlainSpec)) lacePlainUptoCard
end Rows
end Go.Proofs.YtookfoanggjnkaaDoor
