/-
  NARROWER THAN 'FOR EVERY INPUT', by the rows' own cells (each row's printed sentence says how): InflateSays: laid · InflateFront: laid · InflateBound: laid.
  DERIVED. THE GIVEN ROWS OF THIS SEAT. 3 by the template 'for every input the law returns true; each argument reads behind the call as it read before'; 0 by the template 'total and deterministic' (their statements: YtobmghjpfkdooaaDoorTotals.lean).
  GIVEN WITH THE SEED: the statements are not yours to turn. If you find one false, say at which input.
  Laid BY PROGRAM, IN A SANDBOX (cutbox-rows.mjs): the forced cells as the released guide's own fill.sh prints them over the translation 8f9dad9e61a2ffa4… (all of the seat's roots in one cut). By AI agents, Wed Nov 11 2026. No macro, syntax, notation, axiom, sorry.
-/
import Derived.Test.YtobmghjpfkdooaaDoorChecked
import GoSem.Claim
import GoSem.ClaimJoined
import GoSem.ClaimMapViews
import Derived.JoinedTies
import Derived.KernelRfl
namespace Go.Proofs.YtobmghjpfkdooaaDoor
/- THE CELL 'sum', in the pinned program and in every row, IS THE sha256 OF THE DUMP (.gsa) THAT YtobmghjpfkdooaaDoorProg.lean LOADS. Nothing in Lean hashes anything: it is a label: what it is worth is what the hold of that sum in a sandbox is worth. -/
noncomputable def Tryd.pinned : Pinned := { name := "ytobmghjpfkdooaadoor", sum := "8f9dad9e61a2ffa43ec651c64e3f21a462a787eaec4e37d946606748da83ca47", checked := Tryd.checked }
namespace Rows
def none {H : Type} : Left H := { results := [], args := [] }

/- WHAT THE LISTED PACKAGE-LEVEL VARIABLES READ AS WHEN THE CALL BEGINS. Each datum BY PROGRAM (the guide's laid-datum.mjs) off the statement by which the dump's own 'gosem.cut.vars' lays the variable. In a bare row this is a premise. The card (YtobmghjpfkdooaaDoorCards.lean) ties it to the program's text. -/
def laid_vitrine_inflate_smallOrder {H : Type} : DataW H := .agg [.lit (.int .i64 16), .lit (.int .i64 17), .lit (.int .i64 18), .lit (.int .i64 0), .lit (.int .i64 8), .lit (.int .i64 7), .lit (.int .i64 9), .lit (.int .i64 6), .lit (.int .i64 10), .lit (.int .i64 5), .lit (.int .i64 11), .lit (.int .i64 4), .lit (.int .i64 12), .lit (.int .i64 3), .lit (.int .i64 13), .lit (.int .i64 2), .lit (.int .i64 14), .lit (.int .i64 1), .lit (.int .i64 15)]
def laid_vitrine_inflate_leastTimes {H : Type} : DataW H := .agg [.lit (.int .i64 3), .lit (.int .i64 3), .lit (.int .i64 11)]
def laid_vitrine_inflate_timesBits {H : Type} : DataW H := .agg [.lit (.int .i64 2), .lit (.int .i64 3), .lit (.int .i64 7)]

/-- 'vitrinelaw03.InflateSays': WHATEVER THE INPUT: true; the input reads as it did. -/
def inflateSaysSpec : ChangeSpec := { name := "inflateSays", fn := fun _ => fun
  | [d1, d2] => { results := [.lit (.bool true)], args := [d1, d2] }
  | _ => none }
def inflateSaysRow : OpenClaim := { program := "ytobmghjpfkdooaadoor", sum := "8f9dad9e61a2ffa43ec651c64e3f21a462a787eaec4e37d946606748da83ca47", func := "vitrine/vitrinelaw03.InflateSays", spec := "inflateSays", named := ["vitrine/inflate.smallOrder", "vitrine/inflate.timesBits", "vitrine/inflate.leastTimes"], apart := false, laid := [("vitrine/inflate.smallOrder", laid_vitrine_inflate_smallOrder), ("vitrine/inflate.leastTimes", laid_vitrine_inflate_leastTimes), ("vitrine/inflate.timesBits", laid_vitrine_inflate_timesBits)] }
def InflateSaysSaid : Prop := inflateSaysRow.holds Tryd.pinned (OpenSpec.ofChange inflateSaysSpec)

/-- ITS FALSE NEIGHBOUR: 'it returns false'. Refute it at one input. -/
def inflateSaysWrong : ChangeSpec := { name := "inflateSays", fn := fun _ => fun
  | [d1, d2] => { results := [.lit (.bool false)], args := [d1, d2] }
  | _ => none }
def InflateSaysWrongFalsely : Prop := inflateSaysRow.holds Tryd.pinned (OpenSpec.ofChange inflateSaysWrong)

/-- 'vitrinelaw03.InflateFront': WHATEVER THE INPUT: true; the input reads as it did. -/
def inflateFrontSpec : ChangeSpec := { name := "inflateFront", fn := fun _ => fun
  | [d1, d2, d3] => { results := [.lit (.bool true)], args := [d1, d2, d3] }
  | _ => none }
def inflateFrontRow : OpenClaim := { program := "ytobmghjpfkdooaadoor", sum := "8f9dad9e61a2ffa43ec651c64e3f21a462a787eaec4e37d946606748da83ca47", func := "vitrine/vitrinelaw03.InflateFront", spec := "inflateFront", named := ["vitrine/inflate.smallOrder", "vitrine/inflate.timesBits", "vitrine/inflate.leastTimes"], apart := false, laid := [("vitrine/inflate.smallOrder", laid_vitrine_inflate_smallOrder), ("vitrine/inflate.leastTimes", laid_vitrine_inflate_leastTimes), ("vitrine/inflate.timesBits", laid_vitrine_inflate_timesBits)] }
def InflateFrontSaid : Prop := inflateFrontRow.holds Tryd.pinned (OpenSpec.ofChange inflateFrontSpec)

/-- ITS FALSE NEIGHBOUR: 'it returns false'. Refute it at one input. -/
def inflateFrontWrong : ChangeSpec := { name := "inflateFront", fn := fun _ => fun
  | [d1, d2, d3] => { results := [.lit (.bool false)], args := [d1, d2, d3] }
  | _ => none }
def InflateFrontWrongFalsely : Prop := inflateFrontRow.holds Tryd.pinned (OpenSpec.ofChange inflateFrontWrong)

/-- 'vitrinelaw03.InflateBound': WHATEVER THE INPUT: true; the input reads as it did. -/
def inflateBoundSpec : ChangeSpec := { name := "inflateBound", fn := fun _ => fun
  | [d1, d2] => { results := [.lit (.bool true)], args := [d1, d2] }
  | _ => none }
def inflateBoundRow : OpenClaim := { program := "ytobmghjpfkdooaadoor", sum := "8f9dad9e61a2ffa43ec651c64e3f21a462a787eaec4e37d946606748da83ca47", func := "vitrine/vitrinelaw03.InflateBound", spec := "inflateBound", named := ["vitrine/inflate.smallOrder", "vitrine/inflate.timesBits", "vitrine/inflate.leastTimes"], apart := false, laid := [("vitrine/inflate.smallOrder", laid_vitrine_inflate_smallOrder), ("vitrine/inflate.leastTimes", laid_vitrine_inflate_leastTimes), ("vitrine/inflate.timesBits", laid_vitrine_inflate_timesBits)] }
def InflateBoundSaid : Prop := inflateBoundRow.holds Tryd.pinned (OpenSpec.ofChange inflateBoundSpec)

/-- ITS FALSE NEIGHBOUR: 'it returns false'. Refute it at one input. -/
def inflateBoundWrong : ChangeSpec := { name := "inflateBound", fn := fun _ => fun
  | [d1, d2] => { results := [.lit (.bool false)], args := [d1, d2] }
  | _ => none }
def InflateBoundWrongFalsely : Prop := inflateBoundRow.holds Tryd.pinned (OpenSpec.ofChange inflateBoundWrong)

/- THE SECOND FORM. 'bulk': how many values and letters a reading holds, each counted each time it is reached (what is shared counts as often as it is met; a slice's spare places count too). A statement '..UptoSaid' is the law's where the arguments, and the package variables that the reading takes, are together of bulk at most 1048576: NARROWER than '..Said'. Prove '..Said' where nothing that the law and all that it calls make is longer than what came in: it says more and counts as full. Else prove '..UptoSaid'. A law counts once. -/
mutual
def uptoBulk {H : Type} : DataW H → Nat
  | .lit (.string bytes) => bytes.length + 1
  | .lit _ => 1
  | .nil => 1
  | .ptr d => uptoBulk d + 1
  | .slice elems spare => uptoBulkAll elems + uptoBulkAll spare + 1
  | .agg parts => uptoBulkAll parts + 1
  | .iface _ d => uptoBulk d + 1
  | .map entries => uptoBulkEntries entries + 1
  | .held _ => 1
def uptoBulkAll {H : Type} : List (DataW H) → Nat
  | [] => 0
  | d :: r => uptoBulk d + uptoBulkAll r
def uptoBulkEntries {H : Type} : List (Lit × DataW H) → Nat
  | [] => 0
  | x :: r => uptoBulkEntry x + uptoBulkEntries r
def uptoBulkEntry {H : Type} : Lit × DataW H → Nat
  | (.string bytes, d) => bytes.length + uptoBulk d + 1
  | (_, d) => uptoBulk d + 1
 end
def uptoSmall : (H : Type) → List (DataW H) → Bool := fun _ ds => decide (uptoBulkAll ds ≤ 1048576)
def OpenSpec.upto (s : _root_.Go.ChangeSpec) : _root_.Go.OpenSpec := { _root_.Go.OpenSpec.ofChange s with cond := some uptoSmall }

/-- 'vitrinelaw03.InflateSays', WHERE WHAT IT READS IS OF BULK AT MOST 1048576: true; the input reads as it did. -/
def inflateSaysUptoRow : OpenClaim := { program := "ytobmghjpfkdooaadoor", sum := "8f9dad9e61a2ffa43ec651c64e3f21a462a787eaec4e37d946606748da83ca47", func := "vitrine/vitrinelaw03.InflateSays", spec := "inflateSays", named := ["vitrine/inflate.smallOrder", "vitrine/inflate.timesBits", "vitrine/inflate.leastTimes"], apart := false, laid := [("vitrine/inflate.smallOrder", laid_vitrine_inflate_smallOrder), ("vitrine/inflate.leastTimes", laid_vitrine_inflate_leastTimes), ("vitrine/inflate.timesBits", laid_vitrine_inflate_timesBits)], narrowed := true }
def InflateSaysUptoSaid : Prop := inflateSaysUptoRow.holds Tryd.pinned (OpenSpec.upto inflateSaysSpec)

/-- 'vitrinelaw03.InflateFront', WHERE WHAT IT READS IS OF BULK AT MOST 1048576: true; the input reads as it did. -/
def inflateFrontUptoRow : OpenClaim := { program := "ytobmghjpfkdooaadoor", sum := "8f9dad9e61a2ffa43ec651c64e3f21a462a787eaec4e37d946606748da83ca47", func := "vitrine/vitrinelaw03.InflateFront", spec := "inflateFront", named := ["vitrine/inflate.smallOrder", "vitrine/inflate.timesBits", "vitrine/inflate.leastTimes"], apart := false, laid := [("vitrine/inflate.smallOrder", laid_vitrine_inflate_smallOrder), ("vitrine/inflate.leastTimes", laid_vitrine_inflate_leastTimes), ("vitrine/inflate.timesBits", laid_vitrine_inflate_timesBits)], narrowed := true }
def InflateFrontUptoSaid : Prop := inflateFrontUptoRow.holds Tryd.pinned (OpenSpec.upto inflateFrontSpec)

/-- 'vitrinelaw03.InflateBound', WHERE WHAT IT READS IS OF BULK AT MOST 1048576: true; the input reads as it did. -/
def inflateBoundUptoRow : OpenClaim := { program := "ytobmghjpfkdooaadoor", sum := "8f9dad9e61a2ffa43ec651c64e3f21a462a787eaec4e37d946606748da83ca47", func := "vitrine/vitrinelaw03.InflateBound", spec := "inflateBound", named := ["vitrine/inflate.smallOrder", "vitrine/inflate.timesBits", "vitrine/inflate.leastTimes"], apart := false, laid := [("vitrine/inflate.smallOrder", laid_vitrine_inflate_smallOrder), ("vitrine/inflate.leastTimes", laid_vitrine_inflate_leastTimes), ("vitrine/inflate.timesBits", laid_vitrine_inflate_timesBits)], narrowed := true }
def InflateBoundUptoSaid : Prop := inflateBoundUptoRow.holds Tryd.pinned (OpenSpec.upto inflateBoundSpec)

end Rows
end Go.Proofs.YtobmghjpfkdooaaDoor
