/-
  DERIVED. GIVEN WITH THE SEED: THE CARDS: each row of YtjeeiodpdfbgmaaDoorRows.lean that lists a variable, with what it lists TIED to the program's text (the seventh form; the later family's looks); each row that meets fmt, with fmt's text TOLD by the authors' own Lean function (tested against real Go, not proved from fmt's source: count such statements apart). THE CARD IS WHAT COUNTS. Prove the row's statement (the work); the ties are given (YtjeeiodpdfbgmaaDoorTie.lean); close each card by the builder's one call (the guide's Derived/Test/ToyasCard.lean, 'card_holds'). Laid BY PROGRAM, IN A SANDBOX (cutbox-door.mjs). By AI agents, Wed Nov 11 2026. No macro, syntax, notation, axiom, sorry.
-/
import Derived.Test.YtjeeiodpdfbgmaaDoorRows
import GoSem.ClaimSeven
namespace Go.Proofs.YtjeeiodpdfbgmaaDoor
namespace Rows

/-- THE TIED CARD OF 'vitrinelaw05.DeflateRuns'. -/
def deflateRunsCard : Claim7 := { stood := { row := deflateRunsRow, standIns := [], harness := (true, "9031251e5bc6333f153232dce8746349d2fe854b7b8080de59f7b48e0b7a28a0"), looks := false }, kinds := [], alts := [], laidByText := true, laidKinds := [.data], laidTests := true, laidLooks := .later }
def DeflateRunsCardSaid : Prop := Claim7.holds Tryd.pinned (.plain (OpenSpec.ofChange deflateRunsSpec)) deflateRunsCard

/-- THE TIED CARD OF 'vitrinelaw05.DeflateStored'. -/
def deflateStoredCard : Claim7 := { stood := { row := deflateStoredRow, standIns := [], harness := (true, "9031251e5bc6333f153232dce8746349d2fe854b7b8080de59f7b48e0b7a28a0"), looks := false }, kinds := [], alts := [], laidByText := true, laidKinds := [.data], laidTests := true, laidLooks := .later }
def DeflateStoredCardSaid : Prop := Claim7.holds Tryd.pinned (.plain (OpenSpec.ofChange deflateStoredSpec)) deflateStoredCard

/-- THE TIED CARD OF 'vitrinelaw05.DeflateFixed'. -/
def deflateFixedCard : Claim7 := { stood := { row := deflateFixedRow, standIns := [], harness := (true, "9031251e5bc6333f153232dce8746349d2fe854b7b8080de59f7b48e0b7a28a0"), looks := false }, kinds := [], alts := [], laidByText := true, laidKinds := [.data], laidTests := true, laidLooks := .later }
def DeflateFixedCardSaid : Prop := Claim7.holds Tryd.pinned (.plain (OpenSpec.ofChange deflateFixedSpec)) deflateFixedCard

/-- THE TIED CARD OF 'vitrinelaw05.DeflateDynamic'. -/
def deflateDynamicCard : Claim7 := { stood := { row := deflateDynamicRow, standIns := [], harness := (true, "9031251e5bc6333f153232dce8746349d2fe854b7b8080de59f7b48e0b7a28a0"), looks := false }, kinds := [], alts := [], laidByText := true, laidKinds := [.data], laidTests := true, laidLooks := .later }
def DeflateDynamicCardSaid : Prop := Claim7.holds Tryd.pinned (.plain (OpenSpec.ofChange deflateDynamicSpec)) deflateDynamicCard

/-- THE TIED CARD OF 'vitrinelaw05.DeflateBest'. -/
def deflateBestCard : Claim7 := { stood := { row := deflateBestRow, standIns := [], harness := (true, "9031251e5bc6333f153232dce8746349d2fe854b7b8080de59f7b48e0b7a28a0"), looks := false }, kinds := [], alts := [], laidByText := true, laidKinds := [.data], laidTests := true, laidLooks := .later }
def DeflateBestCardSaid : Prop := Claim7.holds Tryd.pinned (.plain (OpenSpec.ofChange deflateBestSpec)) deflateBestCard

/-- THE TIED CARD OF 'vitrinelaw05.DeflateBack'. -/
def deflateBackCard : Claim7 := { stood := { row := deflateBackRow, standIns := [], harness := (true, "9031251e5bc6333f153232dce8746349d2fe854b7b8080de59f7b48e0b7a28a0"), looks := false }, kinds := [], alts := [], laidByText := true, laidKinds := [.data, .data, .data, .data], laidTests := true, laidLooks := .later }
def DeflateBackCardSaid : Prop := Claim7.holds Tryd.pinned (.plain (OpenSpec.ofChange deflateBackSpec)) deflateBackCard

/-- THE TIED CARD OF 'vitrinelaw05.DeflateLeast'. -/
def deflateLeastCard : Claim7 := { stood := { row := deflateLeastRow, standIns := [], harness := (true, "9031251e5bc6333f153232dce8746349d2fe854b7b8080de59f7b48e0b7a28a0"), looks := false }, kinds := [], alts := [], laidByText := true, laidKinds := [.data], laidTests := true, laidLooks := .later }
def DeflateLeastCardSaid : Prop := Claim7.holds Tryd.pinned (.plain (OpenSpec.ofChange deflateLeastSpec)) deflateLeastCard

/-- THE SECOND FORM's CARD OF 'vitrinelaw05.DeflateRuns'. -/
def deflateRunsUptoCard : Claim7 := { stood := { row := deflateRunsUptoRow, standIns := [], harness := (true, "9031251e5bc6333f153232dce8746349d2fe854b7b8080de59f7b48e0b7a28a0"), looks := false }, kinds := [], alts := [], laidByText := true, laidKinds := [.data], laidTests := true, laidLooks := .later }
def DeflateRunsUptoCardSaid : Prop := Claim7.holds Tryd.pinned (.plain (OpenSpec.upto deflateRunsSpec)) deflateRunsUptoCard

/-- THE SECOND FORM's CARD OF 'vitrinelaw05.DeflateStored'. -/
def deflateStoredUptoCard : Claim7 := { stood := { row := deflateStoredUptoRow, standIns := [], harness := (true, "9031251e5bc6333f153232dce8746349d2fe854b7b8080de59f7b48e0b7a28a0"), looks := false }, kinds := [], alts := [], laidByText := true, laidKinds := [.data], laidTests := true, laidLooks := .later }
def DeflateStoredUptoCardSaid : Prop := Claim7.holds Tryd.pinned (.plain (OpenSpec.upto deflateStoredSpec)) deflateStoredUptoCard

/-- THE SECOND FORM's CARD OF 'vitrinelaw05.DeflateFixed'. -/
def deflateFixedUptoCard : Claim7 := { stood := { row := deflateFixedUptoRow, standIns := [], harness := (true, "9031251e5bc6333f153232dce8746349d2fe854b7b8080de59f7b48e0b7a28a0"), looks := false }, kinds := [], alts := [], laidByText := true, laidKinds := [.data], laidTests := true, laidLooks := .later }
def DeflateFixedUptoCardSaid : Prop := Claim7.holds Tryd.pinned (.plain (OpenSpec.upto deflateFixedSpec)) deflateFixedUptoCard

/-- THE SECOND FORM's CARD OF 'vitrinelaw05.DeflateDynamic'. -/
def deflateDynamicUptoCard : Claim7 := { stood := { row := deflateDynamicUptoRow, standIns := [], harness := (true, "9031251e5bc6333f153232dce8746349d2fe854b7b8080de59f7b48e0b7a28a0"), looks := false }, kinds := [], alts := [], laidByText := true, laidKinds := [.data], laidTests := true, laidLooks := .later }
def DeflateDynamicUptoCardSaid : Prop := Claim7.holds Tryd.pinned (.plain (OpenSpec.upto deflateDynamicSpec)) deflateDynamicUptoCard

/-- THE SECOND FORM's CARD OF 'vitrinelaw05.DeflateBest'. -/
def deflateBestUptoCard : Claim7 := { stood := { row := deflateBestUptoRow, standIns := [], harness := (true, "9031251e5bc6333f153232dce8746349d2fe854b7b8080de59f7b48e0b7a28a0"), looks := false }, kinds := [], alts := [], laidByText := true, laidKinds := [.data], laidTests := true, laidLooks := .later }
def DeflateBestUptoCardSaid : Prop := Claim7.holds Tryd.pinned (.plain (OpenSpec.upto deflateBestSpec)) deflateBestUptoCard

/-- THE SECOND FORM's CARD OF 'vitrinelaw05.DeflateBack'. -/
def deflateBackUptoCard : Claim7 := { stood := { row := deflateBackUptoRow, standIns := [], harness := (true, "9031251e5bc6333f153232dce8746349d2fe854b7b8080de59f7b48e0b7a28a0"), looks := false }, kinds := [], alts := [], laidByText := true, laidKinds := [.data, .data, .data, .data], laidTests := true, laidLooks := .later }
def DeflateBackUptoCardSaid : Prop := Claim7.holds Tryd.pinned (.plain (OpenSpec.upto deflateBackSpec)) deflateBackUptoCard

/-- THE SECOND FORM's CARD OF 'vitrinelaw05.DeflateLeast'. -/
def deflateLeastUptoCard : Claim7 := { stood := { row := deflateLeastUptoRow, standIns := [], harness := (true, "9031251e5bc6333f153232dce8746349d2fe854b7b8080de59f7b48e0b7a28a0"), looks := false }, kinds := [], alts := [], laidByText := true, laidKinds := [.data], laidTests := true, laidLooks := .later }
def DeflateLeastUptoCardSaid : Prop := Claim7.holds Tryd.pinned (.plain (OpenSpec.upto deflateLeastSpec)) deflateLeastUptoCard
end Rows
end Go.Proofs.YtjeeiodpdfbgmaaDoor
