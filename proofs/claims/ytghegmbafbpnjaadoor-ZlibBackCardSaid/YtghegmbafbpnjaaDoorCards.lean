/-
  DERIVED. GIVEN WITH THE SEED: THE CARDS: each row of YtghegmbafbpnjaaDoorRows.lean that lists a variable, with what it lists TIED to the program's text (the seventh form; the later family's looks); each row that meets fmt, with fmt's text TOLD by the authors' own Lean function (tested against real Go, not proved from fmt's source: count such statements apart). THE CARD IS WHAT COUNTS. Prove the row's statement (the work); the ties are given (YtghegmbafbpnjaaDoorTie.lean); close each card by the builder's one call (the guide's Derived/Test/ToyasCard.lean, 'card_holds'). Laid BY PROGRAM, IN A SANDBOX (cutbox-door.mjs). By AI agents, Wed Nov 11 2026. No macro, syntax, notation, axiom, sorry.
-/
import Derived.Test.YtghegmbafbpnjaaDoorRows
import GoSem.ClaimSeven
namespace Go.Proofs.YtghegmbafbpnjaaDoor
namespace Rows

/-- THE TIED CARD OF 'vitrinelaw06.ZlibBack'. -/
def zlibBackCard : Claim7 := { stood := { row := zlibBackRow, standIns := [], harness := (true, "4b6ec936e4e5fe66710cb7e41ef1897a2ed9d5b52f158e9558289b73cce90c1c"), looks := false }, kinds := [], alts := [], laidByText := true, laidKinds := [.data, .data, .data, .data], laidTests := true, laidLooks := .later }
def ZlibBackCardSaid : Prop := Claim7.holds Tryd.pinned (.plain (OpenSpec.ofChange zlibBackSpec)) zlibBackCard

/-- THE TIED CARD OF 'vitrinelaw06.ZlibTold'. -/
def zlibToldCard : Claim7 := { stood := { row := zlibToldRow, standIns := [], harness := (true, "4b6ec936e4e5fe66710cb7e41ef1897a2ed9d5b52f158e9558289b73cce90c1c"), looks := false }, kinds := [], alts := [], laidByText := true, laidKinds := [.data, .data, .data, .data], laidTests := true, laidLooks := .later }
def ZlibToldCardSaid : Prop := Claim7.holds Tryd.pinned (.plain (OpenSpec.ofChange zlibToldSpec)) zlibToldCard

/-- THE TIED CARD OF 'vitrinelaw06.ZlibHeads'. -/
def zlibHeadsCard : Claim7 := { stood := { row := zlibHeadsRow, standIns := [], harness := (true, "4b6ec936e4e5fe66710cb7e41ef1897a2ed9d5b52f158e9558289b73cce90c1c"), looks := false }, kinds := [], alts := [], laidByText := true, laidKinds := [.data, .data, .data, .data], laidTests := true, laidLooks := .later }
def ZlibHeadsCardSaid : Prop := Claim7.holds Tryd.pinned (.plain (OpenSpec.ofChange zlibHeadsSpec)) zlibHeadsCard

/-- THE SECOND FORM's CARD OF 'vitrinelaw06.ZlibBack'. -/
def zlibBackUptoCard : Claim7 := { stood := { row := zlibBackUptoRow, standIns := [], harness := (true, "4b6ec936e4e5fe66710cb7e41ef1897a2ed9d5b52f158e9558289b73cce90c1c"), looks := false }, kinds := [], alts := [], laidByText := true, laidKinds := [.data, .data, .data, .data], laidTests := true, laidLooks := .later }
def ZlibBackUptoCardSaid : Prop := Claim7.holds Tryd.pinned (.plain (OpenSpec.upto zlibBackSpec)) zlibBackUptoCard

/-- THE SECOND FORM's CARD OF 'vitrinelaw06.ZlibTold'. -/
def zlibToldUptoCard : Claim7 := { stood := { row := zlibToldUptoRow, standIns := [], harness := (true, "4b6ec936e4e5fe66710cb7e41ef1897a2ed9d5b52f158e9558289b73cce90c1c"), looks := false }, kinds := [], alts := [], laidByText := true, laidKinds := [.data, .data, .data, .data], laidTests := true, laidLooks := .later }
def ZlibToldUptoCardSaid : Prop := Claim7.holds Tryd.pinned (.plain (OpenSpec.upto zlibToldSpec)) zlibToldUptoCard

/-- THE SECOND FORM's CARD OF 'vitrinelaw06.ZlibHeads'. -/
def zlibHeadsUptoCard : Claim7 := { stood := { row := zlibHeadsUptoRow, standIns := [], harness := (true, "4b6ec936e4e5fe66710cb7e41ef1897a2ed9d5b52f158e9558289b73cce90c1c"), looks := false }, kinds := [], alts := [], laidByText := true, laidKinds := [.data, .data, .data, .data], laidTests := true, laidLooks := .later }
def ZlibHeadsUptoCardSaid : Prop := Claim7.holds Tryd.pinned (.plain (OpenSpec.upto zlibHeadsSpec)) zlibHeadsUptoCard
end Rows
end Go.Proofs.YtghegmbafbpnjaaDoor
