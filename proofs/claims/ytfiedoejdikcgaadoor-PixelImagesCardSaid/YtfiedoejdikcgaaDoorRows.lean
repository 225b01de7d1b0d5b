/-
  NARROWER THAN 'FOR EVERY INPUT', by the rows' own cells (each row's printed sentence says how): PixelChecks: laid · PixelImages: laid · PixelRows: laid · PixelBack: laid · PixelSame: laid.
  DERIVED. THE GIVEN ROWS OF THIS SEAT. 5 by the template 'for every input the law returns true; each argument reads behind the call as it read before'; 0 by the template 'total and deterministic' (their statements: YtfiedoejdikcgaaDoorTotals.lean).
  GIVEN WITH THE SEED: the statements are not yours to turn. If you find one false, say at which input.
  Laid BY PROGRAM, IN A SANDBOX (cutbox-rows.mjs): the forced cells as the released guide's own fill.sh prints them over the translation 1c83ae062b73cfcd… (all of the seat's roots in one cut). By AI agents, Wed Nov 11 2026. No macro, syntax, notation, axiom, sorry.
-/
import Derived.Test.YtfiedoejdikcgaaDoorChecked
import GoSem.Claim
import GoSem.ClaimJoined
import GoSem.ClaimMapViews
import Derived.JoinedTies
import Derived.KernelRfl
namespace Go.Proofs.YtfiedoejdikcgaaDoor
/- THE CELL 'sum', in the pinned program and in every row, IS THE sha256 OF THE DUMP (.gsa) THAT YtfiedoejdikcgaaDoorProg.lean LOADS. Nothing in Lean hashes anything: it is a label: what it is worth is what the hold of that sum in a sandbox is worth. -/
noncomputable def Tryd.pinned : Pinned := { name := "ytfiedoejdikcgaadoor", sum := "1c83ae062b73cfcd814ba5a0f523f813d987b7790a6305a90285c3f06ee43772", checked := Tryd.checked }
namespace Rows
def none {H : Type} : Left H := { results := [], args := [] }

/- WHAT THE LISTED PACKAGE-LEVEL VARIABLES READ AS WHEN THE CALL BEGINS. Each datum BY PROGRAM (the guide's laid-datum.mjs) off the statement by which the dump's own 'gosem.cut.vars' lays the variable. In a bare row this is a premise. The card (YtfiedoejdikcgaaDoorCards.lean) ties it to the program's text. -/
def laid_vitrine_lace_places {H : Type} : DataW H := .agg [.agg [.lit (.int .i64 0), .lit (.int .i64 0), .lit (.int .i64 1), .lit (.int .i64 1)], .agg [.lit (.int .i64 0), .lit (.int .i64 0), .lit (.int .i64 8), .lit (.int .i64 8)], .agg [.lit (.int .i64 4), .lit (.int .i64 0), .lit (.int .i64 8), .lit (.int .i64 8)], .agg [.lit (.int .i64 0), .lit (.int .i64 4), .lit (.int .i64 4), .lit (.int .i64 8)], .agg [.lit (.int .i64 2), .lit (.int .i64 0), .lit (.int .i64 4), .lit (.int .i64 4)], .agg [.lit (.int .i64 0), .lit (.int .i64 2), .lit (.int .i64 2), .lit (.int .i64 4)], .agg [.lit (.int .i64 1), .lit (.int .i64 0), .lit (.int .i64 2), .lit (.int .i64 2)], .agg [.lit (.int .i64 0), .lit (.int .i64 1), .lit (.int .i64 1), .lit (.int .i64 2)]]

/-- 'vitrinelaw12.PixelChecks': WHATEVER THE INPUT: true; the input reads as it did. -/
def pixelChecksSpec : ChangeSpec := { name := "pixelChecks", fn := fun _ => fun
  | [d] => { results := [.lit (.bool true)], args := [d] }
  | _ => none }
def pixelChecksRow : OpenClaim := { program := "ytfiedoejdikcgaadoor", sum := "1c83ae062b73cfcd814ba5a0f523f813d987b7790a6305a90285c3f06ee43772", func := "vitrine/vitrinelaw12.PixelChecks", spec := "pixelChecks", inPlace := ["internal/abi.NoEscape"], unfollowed := true, recurses := true, named := ["vitrine/lace.places"], apart := false, laid := [("vitrine/lace.places", laid_vitrine_lace_places)] }
def PixelChecksSaid : Prop := pixelChecksRow.holds Tryd.pinned (OpenSpec.ofChange pixelChecksSpec)

/-- ITS FALSE NEIGHBOUR: 'it returns false'. Refute it at one input. -/
def pixelChecksWrong : ChangeSpec := { name := "pixelChecks", fn := fun _ => fun
  | [d] => { results := [.lit (.bool false)], args := [d] }
  | _ => none }
def PixelChecksWrongFalsely : Prop := pixelChecksRow.holds Tryd.pinned (OpenSpec.ofChange pixelChecksWrong)

/-- 'vitrinelaw12.PixelImages': WHATEVER THE INPUT: true; the input reads as it did. -/
def pixelImagesSpec : ChangeSpec := { name := "pixelImages", fn := fun _ => fun
  | [d1, d2] => { results := [.lit (.bool true)], args := [d1, d2] }
  | _ => none }
def pixelImagesRow : OpenClaim := { program := "ytfiedoejdikcgaadoor", sum := "1c83ae062b73cfcd814ba5a0f523f813d987b7790a6305a90285c3f06ee43772", func := "vitrine/vitrinelaw12.PixelImages", spec := "pixelImages", inPlace := ["internal/abi.NoEscape"], unfollowed := true, recurses := true, named := ["vitrine/lace.places"], apart := false, laid := [("vitrine/lace.places", laid_vitrine_lace_places)] }
def PixelImagesSaid : Prop := pixelImagesRow.holds Tryd.pinned (OpenSpec.ofChange pixelImagesSpec)

/-- ITS FALSE NEIGHBOUR: 'it returns false'. Refute it at one input. -/
def pixelImagesWrong : ChangeSpec := { name := "pixelImages", fn := fun _ => fun
  | [d1, d2] => { results := [.lit (.bool false)], args := [d1, d2] }
  | _ => none }
def PixelImagesWrongFalsely : Prop := pixelImagesRow.holds Tryd.pinned (OpenSpec.ofChange pixelImagesWrong)

/-- 'vitrinelaw12.PixelRows': WHATEVER THE INPUT: true; the input reads as it did. -/
def pixelRowsSpec : ChangeSpec := { name := "pixelRows", fn := fun _ => fun
  | [d] => { results := [.lit (.bool true)], args := [d] }
  | _ => none }
def pixelRowsRow : OpenClaim := { program := "ytfiedoejdikcgaadoor", sum := "1c83ae062b73cfcd814ba5a0f523f813d987b7790a6305a90285c3f06ee43772", func := "vitrine/vitrinelaw12.PixelRows", spec := "pixelRows", inPlace := ["internal/abi.NoEscape"], unfollowed := true, recurses := true, named := ["vitrine/lace.places"], apart := false, laid := [("vitrine/lace.places", laid_vitrine_lace_places)] }
def PixelRowsSaid : Prop := pixelRowsRow.holds Tryd.pinned (OpenSpec.ofChange pixelRowsSpec)

/-- ITS FALSE NEIGHBOUR: 'it returns false'. Refute it at one input. -/
def pixelRowsWrong : ChangeSpec := { name := "pixelRows", fn := fun _ => fun
  | [d] => { results := [.lit (.bool false)], args := [d] }
  | _ => none }
def PixelRowsWrongFalsely : Prop := pixelRowsRow.holds Tryd.pinned (OpenSpec.ofChange pixelRowsWrong)

/-- 'vitrinelaw12.PixelBack': WHATEVER THE INPUT: true; the input reads as it did. -/
def pixelBackSpec : ChangeSpec := { name := "pixelBack", fn := fun _ => fun
  | [d] => { results := [.lit (.bool true)], args := [d] }
  | _ => none }
def pixelBackRow : OpenClaim := { program := "ytfiedoejdikcgaadoor", sum := "1c83ae062b73cfcd814ba5a0f523f813d987b7790a6305a90285c3f06ee43772", func := "vitrine/vitrinelaw12.PixelBack", spec := "pixelBack", inPlace := ["internal/abi.NoEscape"], unfollowed := true, recurses := true, named := ["vitrine/lace.places"], apart := false, laid := [("vitrine/lace.places", laid_vitrine_lace_places)] }
def PixelBackSaid : Prop := pixelBackRow.holds Tryd.pinned (OpenSpec.ofChange pixelBackSpec)

/-- ITS FALSE NEIGHBOUR: 'it returns false'. Refute it at one input. -/
def pixelBackWrong : ChangeSpec := { name := "pixelBack", fn := fun _ => fun
  | [d] => { results := [.lit (.bool false)], args := [d] }
  | _ => none }
def PixelBackWrongFalsely : Prop := pixelBackRow.holds Tryd.pinned (OpenSpec.ofChange pixelBackWrong)

/-- 'vitrinelaw12.PixelSame': WHATEVER THE INPUT: true; the input reads as it did. -/
def pixelSameSpec : ChangeSpec := { name := "pixelSame", fn := fun _ => fun
  | [d1, d2, d3] => { results := [.lit (.bool true)], args := [d1, d2, d3] }
  | _ => none }
def pixelSameRow : OpenClaim := { program := "ytfiedoejdikcgaadoor", sum := "1c83ae062b73cfcd814ba5a0f523f813d987b7790a6305a90285c3f06ee43772", func := "vitrine/vitrinelaw12.PixelSame", spec := "pixelSame", inPlace := ["internal/abi.NoEscape"], unfollowed := true, recurses := true, named := ["vitrine/lace.places"], apart := false, laid := [("vitrine/lace.places", laid_vitrine_lace_places)] }
def PixelSameSaid : Prop := pixelSameRow.holds Tryd.pinned (OpenSpec.ofChange pixelSameSpec)

/-- ITS FALSE NEIGHBOUR: 'it returns false'. Refute it at one input. -/
def pixelSameWrong : ChangeSpec := { name := "pixelSame", fn := fun _ => fun
  | [d1, d2, d3] => { results := [.lit (.bool false)], args := [d1, d2, d3] }
  | _ => none }
def PixelSameWrongFalsely : Prop := pixelSameRow.holds Tryd.pinned (OpenSpec.ofChange pixelSameWrong)

/- THE SECOND FORM. 'bulk': how many values and letters a reading holds, each counted each time it is reached (what is shared counts as often as it is met; a slice's spare places count too). A statement '..UptoSaid' is the law's where the arguments, and the package variables that the reading takes, are together of bulk at most 1048576: NARROWER than '..Said'. Prove '..Said' where nothing that the law and all that it calls make is longer than what came in: it says more and counts as full. Else prove '..UptoSaid'. A law counts once. -/
mutual
def uptoBulk {H : Type} : DataW H → Nat
  | .lit (.string bytes) => bytes.length + 1
  | .lit _ => 1
  | .nil => 1
  | .ptr d => uptoBulk d + 1
  | .slice elems spare => uptoBulkAll elems + uptoBulkAll spare + 1
  | .agg parts => uptoBulkAll parts + 1
  | .iface _ d => uptoBulk d + 1
  | .map entries => uptoBulkEntries entries + 1
  | .held _ => 1
def uptoBulkAll {H : Type} : List (DataW H) → Nat
  | [] => 0
  | d :: r => uptoBulk d + uptoBulkAll r
def uptoBulkEntries {H : Type} : List (Lit × DataW H) → Nat
  | [] => 0
  | x :: r => uptoBulkEntry x + uptoBulkEntries r
def uptoBulkEntry {H : Type} : Lit × DataW H → Nat
  | (.string bytes, d) => bytes.length + uptoBulk d + 1
  | (_, d) => uptoBulk d + 1
 end
def uptoSmall : (H : Type) → List (DataW H) → Bool := fun _ ds => decide (uptoBulkAll ds ≤ 1048576)
def OpenSpec.upto (s : _root_.Go.ChangeSpec) : _root_.Go.OpenSpec := { _root_.Go.OpenSpec.ofChange s with cond := some uptoSmall }

/-- 'vitrinelaw12.PixelChecks', WHERE WHAT IT READS IS OF BULK AT MOST 1048576: true; the input reads as it did. -/
def pixelChecksUptoRow : OpenClaim := { program := "ytfiedoejdikcgaadoor", sum := "1c83ae062b73cfcd814ba5a0f523f813d987b7790a6305a90285c3f06ee43772", func := "vitrine/vitrinelaw12.PixelChecks", spec := "pixelChecks", inPlace := ["internal/abi.NoEscape"], unfollowed := true, recurses := true, named := ["vitrine/lace.places"], apart := false, laid := [("vitrine/lace.places", laid_vitrine_lace_places)], narrowed := true }
def PixelChecksUptoSaid : Prop := pixelChecksUptoRow.holds Tryd.pinned (OpenSpec.upto pixelChecksSpec)

/-- 'vitrinelaw12.PixelImages', WHERE WHAT IT READS IS OF BULK AT MOST 1048576: true; the input reads as it did. -/
def pixelImagesUptoRow : OpenClaim := { program := "ytfiedoejdikcgaadoor", sum := "1c83ae062b73cfcd814ba5a0f523f813d987b7790a6305a90285c3f06ee43772", func := "vitrine/vitrinelaw12.PixelImages", spec := "pixelImages", inPlace := ["internal/abi.NoEscape"], unfollowed := true, recurses := true, named := ["vitrine/lace.places"], apart := false, laid := [("vitrine/lace.places", laid_vitrine_lace_places)], narrowed := true }
def PixelImagesUptoSaid : Prop := pixelImagesUptoRow.holds Tryd.pinned (OpenSpec.upto pixelImagesSpec)

/-- 'vitrinelaw12.PixelRows', WHERE WHAT IT READS IS OF BULK AT MOST 1048576: true; the input reads as it did. -/
def pixelRowsUptoRow : OpenClaim := { program := "ytfiedoejdikcgaadoor", sum := "1c83ae062b73cfcd814ba5a0f523f813d987b7790a6305a90285c3f06ee43772", func := "vitrine/vitrinelaw12.PixelRows", spec := "pixelRows", inPlace := ["internal/abi.NoEscape"], unfollowed := true, recurses := true, named := ["vitrine/lace.places"], apart := false, laid := [("vitrine/lace.places", laid_vitrine_lace_places)], narrowed := true }
def PixelRowsUptoSaid : Prop := pixelRowsUptoRow.holds Tryd.pinned (OpenSpec.upto pixelRowsSpec)

/-- 'vitrinelaw12.PixelBack', WHERE WHAT IT READS IS OF BULK AT MOST 1048576: true; the input reads as it did. -/
def pixelBackUptoRow : OpenClaim := { program := "ytfiedoejdikcgaadoor", sum := "1c83ae062b73cfcd814ba5a0f523f813d987b7790a6305a90285c3f06ee43772", func := "vitrine/vitrinelaw12.PixelBack", spec := "pixelBack", inPlace := ["internal/abi.NoEscape"], unfollowed := true, recurses := true, named := ["vitrine/lace.places"], apart := false, laid := [("vitrine/lace.places", laid_vitrine_lace_places)], narrowed := true }
def PixelBackUptoSaid : Prop := pixelBackUptoRow.holds Tryd.pinned (OpenSpec.upto pixelBackSpec)

/-- 'vitrinelaw12.PixelSame', WHERE WHAT IT READS IS OF BULK AT MOST 1048576: true; the input reads as it did. -/
def pixelSameUptoRow : OpenClaim := { program := "ytfiedoejdikcgaadoor", sum := "1c83ae062b73cfcd814ba5a0f523f813d987b7790a6305a90285c3f06ee43772", func := "vitrine/vitrinelaw12.PixelSame", spec := "pixelSame", inPlace := ["internal/abi.NoEscape"], unfollowed := true, recurses := true, named := ["vitrine/lace.places"], apart := false, laid := [("vitrine/lace.places", laid_vitrine_lace_places)], narrowed := true }
def PixelSameUptoSaid : Prop := pixelSameUptoRow.holds Tryd.pinned (OpenSpec.upto pixelSameSpec)

end Rows
end Go.Proofs.YtfiedoejdikcgaaDoor
