/-
  NARROWER THAN 'FOR EVERY INPUT', by the rows' own cells (each row's printed sentence says how): PngDecodes: laid · PngEncodes: laid · PngBack: laid · PngAgain: laid · PngCut: laid · PngBounds: laid.
  DERIVED. THE GIVEN ROWS OF THIS SEAT. 6 by the template 'for every input the law returns true; each argument reads behind the call as it read before'; 0 by the template 'total and deterministic' (their statements: YtbanopnofpjnbaaGreatDoorTotals.lean).
  GIVEN WITH THE SEED: the statements are not yours to turn. If you find one false, say at which input.
  Laid BY PROGRAM, IN A SANDBOX (cutbox-rows.mjs): the forced cells as the released guide's own fill.sh prints them over the translation 9dd6fcf2c78e436e… (all of the seat's roots in one cut). By AI agents, Wed Nov 11 2026. No macro, syntax, notation, axiom, sorry.
-/
import Derived.Test.YtbanopnofpjnbaaGreatDoorChecked
import GoSem.Claim
import GoSem.ClaimJoined
import GoSem.ClaimMapViews
import Derived.JoinedTies
import Derived.KernelRfl
namespace Go.Proofs.YtbanopnofpjnbaaGreatDoor
/- THE CELL 'sum', in the pinned program and in every row, IS THE sha256 OF THE DUMP (.gsa) THAT YtbanopnofpjnbaaGreatDoorProg.lean LOADS. Nothing in Lean hashes anything: it is a label: what it is worth is what the hold of that sum in a sandbox is worth. -/
noncomputable def Tryz.pinned : Pinned := { name := "ytbanopnofpjnbaagreatdoor", sum := "9dd6fcf2c78e436e1af9381f5bba5ddbee21771168d4dd80cbdbc537072bab83", checked := Tryz.checked }
namespace Rows
def none {H : Type} : Left H := { results := [], args := [] }

/- WHAT THE LISTED PACKAGE-LEVEL VARIABLES READ AS WHEN THE CALL BEGINS. Each datum BY PROGRAM (the guide's laid-datum.mjs) off the statement by which the dump's own 'gosem.cut.vars' lays the variable. In a bare row this is a premise. The card (YtbanopnofpjnbaaGreatDoorCards.lean) ties it to the program's text. -/
def laid_vitrine_inflate_smallOrder {H : Type} : DataW H := .agg [.lit (.int .i64 16), .lit (.int .i64 17), .lit (.int .i64 18), .lit (.int .i64 0), .lit (.int .i64 8), .lit (.int .i64 7), .lit (.int .i64 9), .lit (.int .i64 6), .lit (.int .i64 10), .lit (.int .i64 5), .lit (.int .i64 11), .lit (.int .i64 4), .lit (.int .i64 12), .lit (.int .i64 3), .lit (.int .i64 13), .lit (.int .i64 2), .lit (.int .i64 14), .lit (.int .i64 1), .lit (.int .i64 15)]
def laid_vitrine_inflate_leastTimes {H : Type} : DataW H := .agg [.lit (.int .i64 3), .lit (.int .i64 3), .lit (.int .i64 11)]
def laid_vitrine_inflate_timesBits {H : Type} : DataW H := .agg [.lit (.int .i64 2), .lit (.int .i64 3), .lit (.int .i64 7)]
def laid_vitrine_lace_places {H : Type} : DataW H := .agg [.agg [.lit (.int .i64 0), .lit (.int .i64 0), .lit (.int .i64 1), .lit (.int .i64 1)], .agg [.lit (.int .i64 0), .lit (.int .i64 0), .lit (.int .i64 8), .lit (.int .i64 8)], .agg [.lit (.int .i64 4), .lit (.int .i64 0), .lit (.int .i64 8), .lit (.int .i64 8)], .agg [.lit (.int .i64 0), .lit (.int .i64 4), .lit (.int .i64 4), .lit (.int .i64 8)], .agg [.lit (.int .i64 2), .lit (.int .i64 0), .lit (.int .i64 4), .lit (.int .i64 4)], .agg [.lit (.int .i64 0), .lit (.int .i64 2), .lit (.int .i64 2), .lit (.int .i64 4)], .agg [.lit (.int .i64 1), .lit (.int .i64 0), .lit (.int .i64 2), .lit (.int .i64 2)], .agg [.lit (.int .i64 0), .lit (.int .i64 1), .lit (.int .i64 1), .lit (.int .i64 2)]]
def laid_vitrine_deflate_smallOrder {H : Type} : DataW H := .agg [.lit (.int .i64 16), .lit (.int .i64 17), .lit (.int .i64 18), .lit (.int .i64 0), .lit (.int .i64 8), .lit (.int .i64 7), .lit (.int .i64 9), .lit (.int .i64 6), .lit (.int .i64 10), .lit (.int .i64 5), .lit (.int .i64 11), .lit (.int .i64 4), .lit (.int .i64 12), .lit (.int .i64 3), .lit (.int .i64 13), .lit (.int .i64 2), .lit (.int .i64 14), .lit (.int .i64 1), .lit (.int .i64 15)]

/-- 'vitrinelaw13.PngDecodes': WHATEVER THE INPUT: true; the input reads as it did. -/
def pngDecodesSpec : ChangeSpec := { name := "pngDecodes", fn := fun _ => fun
  | [d] => { results := [.lit (.bool true)], args := [d] }
  | _ => none }
def pngDecodesRow : OpenClaim := { program := "ytbanopnofpjnbaagreatdoor", sum := "9dd6fcf2c78e436e1af9381f5bba5ddbee21771168d4dd80cbdbc537072bab83", func := "vitrine/vitrinelaw13.PngDecodes", spec := "pngDecodes", inPlace := ["internal/abi.NoEscape"], unfollowed := true, recurses := true, named := ["vitrine/lace.places", "vitrine/inflate.smallOrder", "vitrine/inflate.timesBits", "vitrine/inflate.leastTimes", "vitrine/deflate.smallOrder"], apart := false, laid := [("vitrine/inflate.smallOrder", laid_vitrine_inflate_smallOrder), ("vitrine/inflate.leastTimes", laid_vitrine_inflate_leastTimes), ("vitrine/inflate.timesBits", laid_vitrine_inflate_timesBits), ("vitrine/lace.places", laid_vitrine_lace_places), ("vitrine/deflate.smallOrder", laid_vitrine_deflate_smallOrder)] }
def PngDecodesSaid : Prop := pngDecodesRow.holds Tryz.pinned (OpenSpec.ofChange pngDecodesSpec)

/-- ITS FALSE NEIGHBOUR: 'it returns false'. Refute it at one input. -/
def pngDecodesWrong : ChangeSpec := { name := "pngDecodes", fn := fun _ => fun
  | [d] => { results := [.lit (.bool false)], args := [d] }
  | _ => none }
def PngDecodesWrongFalsely : Prop := pngDecodesRow.holds Tryz.pinned (OpenSpec.ofChange pngDecodesWrong)

/-- 'vitrinelaw13.PngEncodes': WHATEVER THE INPUT: true; the input reads as it did. -/
def pngEncodesSpec : ChangeSpec := { name := "pngEncodes", fn := fun _ => fun
  | [d] => { results := [.lit (.bool true)], args := [d] }
  | _ => none }
def pngEncodesRow : OpenClaim := { program := "ytbanopnofpjnbaagreatdoor", sum := "9dd6fcf2c78e436e1af9381f5bba5ddbee21771168d4dd80cbdbc537072bab83", func := "vitrine/vitrinelaw13.PngEncodes", spec := "pngEncodes", inPlace := ["internal/abi.NoEscape"], unfollowed := true, recurses := true, named := ["vitrine/deflate.smallOrder", "vitrine/lace.places", "vitrine/inflate.smallOrder", "vitrine/inflate.timesBits", "vitrine/inflate.leastTimes"], apart := false, laid := [("vitrine/inflate.smallOrder", laid_vitrine_inflate_smallOrder), ("vitrine/inflate.leastTimes", laid_vitrine_inflate_leastTimes), ("vitrine/inflate.timesBits", laid_vitrine_inflate_timesBits), ("vitrine/lace.places", laid_vitrine_lace_places), ("vitrine/deflate.smallOrder", laid_vitrine_deflate_smallOrder)] }
def PngEncodesSaid : Prop := pngEncodesRow.holds Tryz.pinned (OpenSpec.ofChange pngEncodesSpec)

/-- ITS FALSE NEIGHBOUR: 'it returns false'. Refute it at one input. -/
def pngEncodesWrong : ChangeSpec := { name := "pngEncodes", fn := fun _ => fun
  | [d] => { results := [.lit (.bool false)], args := [d] }
  | _ => none }
def PngEncodesWrongFalsely : Prop := pngEncodesRow.holds Tryz.pinned (OpenSpec.ofChange pngEncodesWrong)

/-- 'vitrinelaw13.PngBack': WHATEVER THE INPUT: true; the input reads as it did. -/
def pngBackSpec : ChangeSpec := { name := "pngBack", fn := fun _ => fun
  | [d] => { results := [.lit (.bool true)], args := [d] }
  | _ => none }
def pngBackRow : OpenClaim := { program := "ytbanopnofpjnbaagreatdoor", sum := "9dd6fcf2c78e436e1af9381f5bba5ddbee21771168d4dd80cbdbc537072bab83", func := "vitrine/vitrinelaw13.PngBack", spec := "pngBack", inPlace := ["internal/abi.NoEscape"], unfollowed := true, recurses := true, named := ["vitrine/deflate.smallOrder", "vitrine/lace.places", "vitrine/inflate.smallOrder", "vitrine/inflate.timesBits", "vitrine/inflate.leastTimes"], apart := false, laid := [("vitrine/inflate.smallOrder", laid_vitrine_inflate_smallOrder), ("vitrine/inflate.leastTimes", laid_vitrine_inflate_leastTimes), ("vitrine/inflate.timesBits", laid_vitrine_inflate_timesBits), ("vitrine/lace.places", laid_vitrine_lace_places), ("vitrine/deflate.smallOrder", laid_vitrine_deflate_smallOrder)] }
def PngBackSaid : Prop := pngBackRow.holds Tryz.pinned (OpenSpec.ofChange pngBackSpec)

/-- ITS FALSE NEIGHBOUR: 'it returns false'. Refute it at one input. -/
def pngBackWrong : ChangeSpec := { name := "pngBack", fn := fun _ => fun
  | [d] => { results := [.lit (.bool false)], args := [d] }
  | _ => none }
def PngBackWrongFalsely : Prop := pngBackRow.holds Tryz.pinned (OpenSpec.ofChange pngBackWrong)

/-- 'vitrinelaw13.PngAgain': WHATEVER THE INPUT: true; the input reads as it did. -/
def pngAgainSpec : ChangeSpec := { name := "pngAgain", fn := fun _ => fun
  | [d] => { results := [.lit (.bool true)], args := [d] }
  | _ => none }
def pngAgainRow : OpenClaim := { program := "ytbanopnofpjnbaagreatdoor", sum := "9dd6fcf2c78e436e1af9381f5bba5ddbee21771168d4dd80cbdbc537072bab83", func := "vitrine/vitrinelaw13.PngAgain", spec := "pngAgain", inPlace := ["internal/abi.NoEscape"], unfollowed := true, recurses := true, named := ["vitrine/deflate.smallOrder", "vitrine/lace.places", "vitrine/inflate.smallOrder", "vitrine/inflate.timesBits", "vitrine/inflate.leastTimes"], apart := false, laid := [("vitrine/inflate.smallOrder", laid_vitrine_inflate_smallOrder), ("vitrine/inflate.leastTimes", laid_vitrine_inflate_leastTimes), ("vitrine/inflate.timesBits", laid_vitrine_inflate_timesBits), ("vitrine/lace.places", laid_vitrine_lace_places), ("vitrine/deflate.smallOrder", laid_vitrine_deflate_smallOrder)] }
def PngAgainSaid : Prop := pngAgainRow.holds Tryz.pinned (OpenSpec.ofChange pngAgainSpec)

/-- ITS FALSE NEIGHBOUR: 'it returns false'. Refute it at one input. -/
def pngAgainWrong : ChangeSpec := { name := "pngAgain", fn := fun _ => fun
  | [d] => { results := [.lit (.bool false)], args := [d] }
  | _ => none }
def PngAgainWrongFalsely : Prop := pngAgainRow.holds Tryz.pinned (OpenSpec.ofChange pngAgainWrong)

/-- 'vitrinelaw13.PngCut': WHATEVER THE INPUT: true; the input reads as it did. -/
def pngCutSpec : ChangeSpec := { name := "pngCut", fn := fun _ => fun
  | [d1, d2, d3] => { results := [.lit (.bool true)], args := [d1, d2, d3] }
  | _ => none }
def pngCutRow : OpenClaim := { program := "ytbanopnofpjnbaagreatdoor", sum := "9dd6fcf2c78e436e1af9381f5bba5ddbee21771168d4dd80cbdbc537072bab83", func := "vitrine/vitrinelaw13.PngCut", spec := "pngCut", inPlace := ["internal/abi.NoEscape"], unfollowed := true, recurses := true, named := ["vitrine/deflate.smallOrder", "vitrine/lace.places", "vitrine/inflate.smallOrder", "vitrine/inflate.timesBits", "vitrine/inflate.leastTimes"], apart := false, laid := [("vitrine/inflate.smallOrder", laid_vitrine_inflate_smallOrder), ("vitrine/inflate.leastTimes", laid_vitrine_inflate_leastTimes), ("vitrine/inflate.timesBits", laid_vitrine_inflate_timesBits), ("vitrine/lace.places", laid_vitrine_lace_places), ("vitrine/deflate.smallOrder", laid_vitrine_deflate_smallOrder)] }
def PngCutSaid : Prop := pngCutRow.holds Tryz.pinned (OpenSpec.ofChange pngCutSpec)

/-- ITS FALSE NEIGHBOUR: 'it returns false'. Refute it at one input. -/
def pngCutWrong : ChangeSpec := { name := "pngCut", fn := fun _ => fun
  | [d1, d2, d3] => { results := [.lit (.bool false)], args := [d1, d2, d3] }
  | _ => none }
def PngCutWrongFalsely : Prop := pngCutRow.holds Tryz.pinned (OpenSpec.ofChange pngCutWrong)

/-- 'vitrinelaw13.PngBounds': WHATEVER THE INPUT: true; the input reads as it did. -/
def pngBoundsSpec : ChangeSpec := { name := "pngBounds", fn := fun _ => fun
  | [d1, d2] => { results := [.lit (.bool true)], args := [d1, d2] }
  | _ => none }
def pngBoundsRow : OpenClaim := { program := "ytbanopnofpjnbaagreatdoor", sum := "9dd6fcf2c78e436e1af9381f5bba5ddbee21771168d4dd80cbdbc537072bab83", func := "vitrine/vitrinelaw13.PngBounds", spec := "pngBounds", inPlace := ["internal/abi.NoEscape"], unfollowed := true, recurses := true, named := ["vitrine/deflate.smallOrder", "vitrine/lace.places", "vitrine/inflate.smallOrder", "vitrine/inflate.timesBits", "vitrine/inflate.leastTimes"], apart := false, laid := [("vitrine/inflate.smallOrder", laid_vitrine_inflate_smallOrder), ("vitrine/inflate.leastTimes", laid_vitrine_inflate_leastTimes), ("vitrine/inflate.timesBits", laid_vitrine_inflate_timesBits), ("vitrine/lace.places", laid_vitrine_lace_places), ("vitrine/deflate.smallOrder", laid_vitrine_deflate_smallOrder)] }
def PngBoundsSaid : Prop := pngBoundsRow.holds Tryz.pinned (OpenSpec.ofChange pngBoundsSpec)

/-- ITS FALSE NEIGHBOUR: 'it returns false'. Refute it at one input. -/
def pngBoundsWrong : ChangeSpec := { name := "pngBounds", fn := fun _ => fun
  | [d1, d2] => { results := [.lit (.bool false)], args := [d1, d2] }
  | _ => none }
def PngBoundsWrongFalsely : Prop := pngBoundsRow.holds Tryz.pinned (OpenSpec.ofChange pngBoundsWrong)

/- THE SECOND FORM. 'bulk': how many values and letters a reading holds, each counted each time it is reached (what is shared counts as often as it is met; a slice's spare places count too). A statement '..UptoSaid' is the law's where the arguments, and the package variables that the reading takes, are together of bulk at most 1048576: NARROWER than '..Said'. Prove '..Said' where nothing that the law and all that it calls make is longer than what came in: it says more and counts as full. Else prove '..UptoSaid'. A law counts once. -/
mutual
def uptoBulk {H : Type} : DataW H → Nat
  | .lit (.string bytes) => bytes.length + 1
  | .lit _ => 1
  | .nil => 1
  | .ptr d => uptoBulk d + 1
  | .slice elems spare => uptoBulkAll elems + uptoBulkAll spare + 1
  | .agg parts => uptoBulkAll parts + 1
  | .iface _ d => uptoBulk d + 1
  | .map entries => uptoBulkEntries entries + 1
  | .held _ => 1
def uptoBulkAll {H : Type} : List (DataW H) → Nat
  | [] => 0
  | d :: r => uptoBulk d + uptoBulkAll r
def uptoBulkEntries {H : Type} : List (Lit × DataW H) → Nat
  | [] => 0
  | x :: r => uptoBulkEntry x + uptoBulkEntries r
def uptoBulkEntry {H : Type} : Lit × DataW H → Nat
  | (.string bytes, d) => bytes.length + uptoBulk d + 1
  | (_, d) => uptoBulk d + 1
 end
def uptoSmall : (H : Type) → List (DataW H) → Bool := fun _ ds => decide (uptoBulkAll ds ≤ 1048576)
def OpenSpec.upto (s : _root_.Go.ChangeSpec) : _root_.Go.OpenSpec := { _root_.Go.OpenSpec.ofChange s with cond := some uptoSmall }

/-- 'vitrinelaw13.PngDecodes', WHERE WHAT IT READS IS OF BULK AT MOST 1048576: true; the input reads as it did. -/
def pngDecodesUptoRow : OpenClaim := { program := "ytbanopnofpjnbaagreatdoor", sum := "9dd6fcf2c78e436e1af9381f5bba5ddbee21771168d4dd80cbdbc537072bab83", func := "vitrine/vitrinelaw13.PngDecodes", spec := "pngDecodes", inPlace := ["internal/abi.NoEscape"], unfollowed := true, recurses := true, named := ["vitrine/lace.places", "vitrine/inflate.smallOrder", "vitrine/inflate.timesBits", "vitrine/inflate.leastTimes", "vitrine/deflate.smallOrder"], apart := false, laid := [("vitrine/inflate.smallOrder", laid_vitrine_inflate_smallOrder), ("vitrine/inflate.leastTimes", laid_vitrine_inflate_leastTimes), ("vitrine/inflate.timesBits", laid_vitrine_inflate_timesBits), ("vitrine/lace.places", laid_vitrine_lace_places), ("vitrine/deflate.smallOrder", laid_vitrine_deflate_smallOrder)], narrowed := true }
def PngDecodesUptoSaid : Prop := pngDecodesUptoRow.holds Tryz.pinned (OpenSpec.upto pngDecodesSpec)

/-- 'vitrinelaw13.PngEncodes', WHERE WHAT IT READS IS OF BULK AT MOST 1048576: true; the input reads as it did. -/
def pngEncodesUptoRow : OpenClaim := { program := "ytbanopnofpjnbaagreatdoor", sum := "9dd6fcf2c78e436e1af9381f5bba5ddbee21771168d4dd80cbdbc537072bab83", func := "vitrine/vitrinelaw13.PngEncodes", spec := "pngEncodes", inPlace := ["internal/abi.NoEscape"], unfollowed := true, recurses := true, named := ["vitrine/deflate.smallOrder", "vitrine/lace.places", "vitrine/inflate.smallOrder", "vitrine/inflate.timesBits", "vitrine/inflate.leastTimes"], apart := false, laid := [("vitrine/inflate.smallOrder", laid_vitrine_inflate_smallOrder), ("vitrine/inflate.leastTimes", laid_vitrine_inflate_leastTimes), ("vitrine/inflate.timesBits", laid_vitrine_inflate_timesBits), ("vitrine/lace.places", laid_vitrine_lace_places), ("vitrine/deflate.smallOrder", laid_vitrine_deflate_smallOrder)], narrowed := true }
def PngEncodesUptoSaid : Prop := pngEncodesUptoRow.holds Tryz.pinned (OpenSpec.upto pngEncodesSpec)

/-- 'vitrinelaw13.PngBack', WHERE WHAT IT READS IS OF BULK AT MOST 1048576: true; the input reads as it did. -/
def pngBackUptoRow : OpenClaim := { program := "ytbanopnofpjnbaagreatdoor", sum := "9dd6fcf2c78e436e1af9381f5bba5ddbee21771168d4dd80cbdbc537072bab83", func := "vitrine/vitrinelaw13.PngBack", spec := "pngBack", inPlace := ["internal/abi.NoEscape"], unfollowed := true, recurses := true, named := ["vitrine/deflate.smallOrder", "vitrine/lace.places", "vitrine/inflate.smallOrder", "vitrine/inflate.timesBits", "vitrine/inflate.leastTimes"], apart := false, laid := [("vitrine/inflate.smallOrder", laid_vitrine_inflate_smallOrder), ("vitrine/inflate.leastTimes", laid_vitrine_inflate_leastTimes), ("vitrine/inflate.timesBits", laid_vitrine_inflate_timesBits), ("vitrine/lace.places", laid_vitrine_lace_places), ("vitrine/deflate.smallOrder", laid_vitrine_deflate_smallOrder)], narrowed := true }
def PngBackUptoSaid : Prop := pngBackUptoRow.holds Tryz.pinned (OpenSpec.upto pngBackSpec)

/-- 'vitrinelaw13.PngAgain', WHERE WHAT IT READS IS OF BULK AT MOST 1048576: true; the input reads as it did. -/
def pngAgainUptoRow : OpenClaim := { program := "ytbanopnofpjnbaagreatdoor", sum := "9dd6fcf2c78e436e1af9381f5bba5ddbee21771168d4dd80cbdbc537072bab83", func := "vitrine/vitrinelaw13.PngAgain", spec := "pngAgain", inPlace := ["internal/abi.NoEscape"], unfollowed := true, recurses := true, named := ["vitrine/deflate.smallOrder", "vitrine/lace.places", "vitrine/inflate.smallOrder", "vitrine/inflate.timesBits", "vitrine/inflate.leastTimes"], apart := false, laid := [("vitrine/inflate.smallOrder", laid_vitrine_inflate_smallOrder), ("vitrine/inflate.leastTimes", laid_vitrine_inflate_leastTimes), ("vitrine/inflate.timesBits", laid_vitrine_inflate_timesBits), ("vitrine/lace.places", laid_vitrine_lace_places), ("vitrine/deflate.smallOrder", laid_vitrine_deflate_smallOrder)], narrowed := true }
def PngAgainUptoSaid : Prop := pngAgainUptoRow.holds Tryz.pinned (OpenSpec.upto pngAgainSpec)

/-- 'vitrinelaw13.PngCut', WHERE WHAT IT READS IS OF BULK AT MOST 1048576: true; the input reads as it did. -/
def pngCutUptoRow : OpenClaim := { program := "ytbanopnofpjnbaagreatdoor", sum := "9dd6fcf2c78e436e1af9381f5bba5ddbee21771168d4dd80cbdbc537072bab83", func := "vitrine/vitrinelaw13.PngCut", spec := "pngCut", inPlace := ["internal/abi.NoEscape"], unfollowed := true, recurses := true, named := ["vitrine/deflate.smallOrder", "vitrine/lace.places", "vitrine/inflate.smallOrder", "vitrine/inflate.timesBits", "vitrine/inflate.leastTimes"], apart := false, laid := [("vitrine/inflate.smallOrder", laid_vitrine_inflate_smallOrder), ("vitrine/inflate.leastTimes", laid_vitrine_inflate_leastTimes), ("vitrine/inflate.timesBits", laid_vitrine_inflate_timesBits), ("vitrine/lace.places", laid_vitrine_lace_places), ("vitrine/deflate.smallOrder", laid_vitrine_deflate_smallOrder)], narrowed := true }
def PngCutUptoSaid : Prop := pngCutUptoRow.holds Tryz.pinned (OpenSpec.upto pngCutSpec)

/-- 'vitrinelaw13.PngBounds', WHERE WHAT IT READS IS OF BULK AT MOST 1048576: true; the input reads as it did. -/
def pngBoundsUptoRow : OpenClaim := { program := "ytbanopnofpjnbaagreatdoor", sum := "9dd6fcf2c78e436e1af9381f5bba5ddbee21771168d4dd80cbdbc537072bab83", func := "vitrine/vitrinelaw13.PngBounds", spec := "pngBounds", inPlace := ["internal/abi.NoEscape"], unfollowed := true, recurses := true, named := ["vitrine/deflate.smallOrder", "vitrine/lace.places", "vitrine/inflate.smallOrder", "vitrine/inflate.timesBits", "vitrine/inflate.leastTimes"], apart := false, laid := [("vitrine/inflate.smallOrder", laid_vitrine_inflate_smallOrder), ("vitrine/inflate.leastTimes", laid_vitrine_inflate_leastTimes), ("vitrine/inflate.timesBits", laid_vitrine_inflate_timesBits), ("vitrine/lace.places", laid_vitrine_lace_places), ("vitrine/deflate.smallOrder", laid_vitrine_deflate_smallOrder)], narrowed := true }
def PngBoundsUptoSaid : Prop := pngBoundsUptoRow.holds Tryz.pinned (OpenSpec.upto pngBoundsSpec)

end Rows
end Go.Proofs.YtbanopnofpjnbaaGreatDoor
