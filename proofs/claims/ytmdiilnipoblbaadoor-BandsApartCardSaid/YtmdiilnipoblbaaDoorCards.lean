/-
  DERIVED. GIVEN WITH THE SEED: THE CARDS: each row of YtmdiilnipoblbaaDoorRows.lean that lists a variable, with what it lists TIED to the program's text (the seventh form; the later family's looks); each row that meets fmt, with fmt's text TOLD by the authors' own Lean function (tested against real Go, not proved from fmt's source: count such statements apart). THE CARD IS WHAT COUNTS. Prove the row's statement (the work); the ties are given (YtmdiilnipoblbaaDoorTie.lean); close each card by the builder's one call (the guide's Derived/Test/ToyasCard.lean, 'card_holds'). Laid BY PROGRAM, IN A SANDBOX (cutbox-door.mjs). By AI agents, Wed Nov 11 2026. No macro, syntax, notation, axiom, sorry.
-/
import Derived.Test.YtmdiilnipoblbaaDoorRows
import GoSem.ClaimSeven
namespace Go.Proofs.YtmdiilnipoblbaaDoor
namespace Rows

/-- THE TIED CARD OF 'vitrinelaw15.BandsCuts'. -/
def bandsCutsCard : Claim7 := { stood := { row := bandsCutsRow, standIns := [], harness := (true, "a5a8171257928017410bc5f913a1f8f7b3979eb754f6097160879cb663c81583"), looks := false }, kinds := [], alts := [], laidByText := true, laidKinds := [.data], laidTests := true, laidLooks := .later }
def BandsCutsCardSaid : Prop := Claim7.holds Tryd.pinned (.plain (OpenSpec.ofChange bandsCutsSpec)) bandsCutsCard

/-- THE TIED CARD OF 'vitrinelaw15.BandsNames'. -/
def bandsNamesCard : Claim7 := { stood := { row := bandsNamesRow, standIns := [], harness := (true, "a5a8171257928017410bc5f913a1f8f7b3979eb754f6097160879cb663c81583"), looks := false }, kinds := [], alts := [], laidByText := true, laidKinds := [.data], laidTests := true, laidLooks := .later }
def BandsNamesCardSaid : Prop := Claim7.holds Tryd.pinned (.plain (OpenSpec.ofChange bandsNamesSpec)) bandsNamesCard

/-- THE TIED CARD OF 'vitrinelaw15.BandsReads'. -/
def bandsReadsCard : Claim7 := { stood := { row := bandsReadsRow, standIns := [], harness := (true, "a5a8171257928017410bc5f913a1f8f7b3979eb754f6097160879cb663c81583"), looks := false }, kinds := [], alts := [], laidByText := true, laidKinds := [.data], laidTests := true, laidLooks := .later }
def BandsReadsCardSaid : Prop := Claim7.holds Tryd.pinned (.plain (OpenSpec.ofChange bandsReadsSpec)) bandsReadsCard

/-- THE TIED CARD OF 'vitrinelaw15.BandsJoins'. -/
def bandsJoinsCard : Claim7 := { stood := { row := bandsJoinsRow, standIns := [], harness := (true, "a5a8171257928017410bc5f913a1f8f7b3979eb754f6097160879cb663c81583"), looks := false }, kinds := [], alts := [], laidByText := true, laidKinds := [.data], laidTests := true, laidLooks := .later }
def BandsJoinsCardSaid : Prop := Claim7.holds Tryd.pinned (.plain (OpenSpec.ofChange bandsJoinsSpec)) bandsJoinsCard

/-- THE TIED CARD OF 'vitrinelaw15.BandsApart'. -/
def bandsApartCard : Claim7 := { stood := { row := bandsApartRow, standIns := [], harness := (true, "a5a8171257928017410bc5f913a1f8f7b3979eb754f6097160879cb663c81583"), looks := false }, kinds := [], alts := [], laidByText := true, laidKinds := [.data], laidTests := true, laidLooks := .later }
def BandsApartCardSaid : Prop := Claim7.holds Tryd.pinned (.plain (OpenSpec.ofChange bandsApartSpec)) bandsApartCard

/-- THE TIED CARD OF 'vitrinelaw15.BandsManifest'. -/
def bandsManifestCard : Claim7 := { stood := { row := bandsManifestRow, standIns := [], harness := (true, "a5a8171257928017410bc5f913a1f8f7b3979eb754f6097160879cb663c81583"), looks := false }, kinds := [], alts := [], laidByText := true, laidKinds := [.data], laidTests := true, laidLooks := .later }
def BandsManifestCardSaid : Prop := Claim7.holds Tryd.pinned (.plain (OpenSpec.ofChange bandsManifestSpec)) bandsManifestCard

/-- THE SECOND FORM's CARD OF 'vitrinelaw15.BandsCuts'. -/
def bandsCutsUptoCard : Claim7 := { stood := { row := bandsCutsUptoRow, standIns := [], harness := (true, "a5a8171257928017410bc5f913a1f8f7b3979eb754f6097160879cb663c81583"), looks := false }, kinds := [], alts := [], laidByText := true, laidKinds := [.data], laidTests := true, laidLooks := .later }
def BandsCutsUptoCardSaid : Prop := Claim7.holds Tryd.pinned (.plain (OpenSpec.upto bandsCutsSpec)) bandsCutsUptoCard

/-- THE SECOND FORM's CARD OF 'vitrinelaw15.BandsNames'. -/
def bandsNamesUptoCard : Claim7 := { stood := { row := bandsNamesUptoRow, standIns := [], harness := (true, "a5a8171257928017410bc5f913a1f8f7b3979eb754f6097160879cb663c81583"), looks := false }, kinds := [], alts := [], laidByText := true, laidKinds := [.data], laidTests := true, laidLooks := .later }
def BandsNamesUptoCardSaid : Prop := Claim7.holds Tryd.pinned (.plain (OpenSpec.upto bandsNamesSpec)) bandsNamesUptoCard

/-- THE SECOND FORM's CARD OF 'vitrinelaw15.BandsReads'. -/
def bandsReadsUptoCard : Claim7 := { stood := { row := bandsReadsUptoRow, standIns := [], harness := (true, "a5a8171257928017410bc5f913a1f8f7b3979eb754f6097160879cb663c81583"), looks := false }, kinds := [], alts := [], laidByText := true, laidKinds := [.data], laidTests := true, laidLooks := .later }
def BandsReadsUptoCardSaid : Prop := Claim7.holds Tryd.pinned (.plain (OpenSpec.upto bandsReadsSpec)) bandsReadsUptoCard

/-- THE SECOND FORM's CARD OF 'vitrinelaw15.BandsJoins'. -/
def bandsJoinsUptoCard : Claim7 := { stood := { row := bandsJoinsUptoRow, standIns := [], harness := (true, "a5a8171257928017410bc5f913a1f8f7b3979eb754f6097160879cb663c81583"), looks := false }, kinds := [], alts := [], laidByText := true, laidKinds := [.data], laidTests := true, laidLooks := .later }
def BandsJoinsUptoCardSaid : Prop := Claim7.holds Tryd.pinned (.plain (OpenSpec.upto bandsJoinsSpec)) bandsJoinsUptoCard

/-- THE SECOND FORM's CARD OF 'vitrinelaw15.BandsApart'. -/
def bandsApartUptoCard : Claim7 := { stood := { row := bandsApartUptoRow, standIns := [], harness := (true, "a5a8171257928017410bc5f913a1f8f7b3979eb754f6097160879cb663c81583"), looks := false }, kinds := [], alts := [], laidByText := true, laidKinds := [.data], laidTests := true, laidLooks := .later }
def BandsApartUptoCardSaid : Prop := Claim7.holds Tryd.pinned (.plain (OpenSpec.upto bandsApartSpec)) bandsApartUptoCard

/-- THE SECOND FORM's CARD OF 'vitrinelaw15.BandsManifest'. -/
def bandsManifestUptoCard : Claim7 := { stood := { row := bandsManifestUptoRow, standIns := [], harness := (true, "a5a8171257928017410bc5f913a1f8f7b3979eb754f6097160879cb663c81583"), looks := false }, kinds := [], alts := [], laidByText := true, laidKinds := [.data], laidTests := true, laidLooks := .later }
def BandsManifestUptoCardSaid : Prop := Claim7.holds Tryd.pinned (.plain (OpenSpec.upto bandsManifestSpec)) bandsManifestUptoCard
end Rows
end Go.Proofs.YtmdiilnipoblbaaDoor
