/-
  NARROWER THAN 'FOR EVERY INPUT', by the rows' own cells (each row's printed sentence says how): LacePasses: laid · LaceSizes: laid · LaceOnce: laid · LaceRows: laid · LaceRowIs: laid · LaceSizeIs: laid · LacePlain: laid.
  DERIVED. THE GIVEN ROWS OF THIS SEAT. 7 by the template 'for every input the law returns true; each argument reads behind the call as it read before'; 0 by the template 'total and deterministic' (their statements: YtookfoanggjnkaaDoorTotals.lean).
  GIVEN WITH THE SEED: the statements are not yours to turn. If you find one false, say at which input.
  Laid BY PROGRAM, IN A SANDBOX (cutbox-rows.mjs): the forced cells as the released guide's own fill.sh prints them over the translation 520efa4feaec2185… (all of the seat's roots in one cut). By AI agents, Wed Nov 11 2026. No macro, syntax, notation, axiom, sorry.
-/
import Derived.Test.YtookfoanggjnkaaDoorChecked
import GoSem.Claim
import GoSem.ClaimJoined
import GoSem.ClaimMapViews
import Derived.JoinedTies
import Derived.KernelRfl
namespace Go.Proofs.YtookfoanggjnkaaDoor
/- THE CELL 'sum', in the pinned program and in every row, IS THE sha256 OF THE DUMP (.gsa) THAT YtookfoanggjnkaaDoorProg.lean LOADS. Nothing in Lean hashes anything: it is a label: what it is worth is what the hold of that sum in a sandbox is worth. -/
noncomputable def Tryd.pinned : Pinned := { name := "ytookfoanggjnkaadoor", sum := "520efa4feaec2185696dcd8def7ad1c3f2e1c47262651086dfb6053b9a1b40cd", checked := Tryd.checked }
namespace Rows
def none {H : Type} : Left H := { results := [], args := [] }

/- WHAT THE LISTED PACKAGE-LEVEL VARIABLES READ AS WHEN THE CALL BEGINS. Each datum BY PROGRAM (the guide's laid-datum.mjs) off the statement by which the dump's own 'gosem.cut.vars' lays the variable. In a bare row this is a premise. The card (YtookfoanggjnkaaDoorCards.lean) ties it to the program's text. -/
def laid_vitrine_lace_places {H : Type} : DataW H := .agg [.agg [.lit (.int .i64 0), .lit (.int .i64 0), .lit (.int .i64 1), .lit (.int .i64 1)], .agg [.lit (.int .i64 0), .lit (.int .i64 0), .lit (.int .i64 8), .lit (.int .i64 8)], .agg [.lit (.int .i64 4), .lit (.int .i64 0), .lit (.int .i64 8), .lit (.int .i64 8)], .agg [.lit (.int .i64 0), .lit (.int .i64 4), .lit (.int .i64 4), .lit (.int .i64 8)], .agg [.lit (.int .i64 2), .lit (.int .i64 0), .lit (.int .i64 4), .lit (.int .i64 4)], .agg [.lit (.int .i64 0), .lit (.int .i64 2), .lit (.int .i64 2), .lit (.int .i64 4)], .agg [.lit (.int .i64 1), .lit (.int .i64 0), .lit (.int .i64 2), .lit (.int .i64 2)], .agg [.lit (.int .i64 0), .lit (.int .i64 1), .lit (.int .i64 1), .lit (.int .i64 2)]]

/-- 'vitrinelaw10.LacePasses': WHATEVER THE INPUT: true; the input reads as it did. -/
def lacePassesSpec : ChangeSpec := { name := "lacePasses", fn := fun _ => fun
  | [d] => { results := [.lit (.bool true)], args := [d] }
  | _ => none }
def lacePassesRow : OpenClaim := { program := "ytookfoanggjnkaadoor", sum := "520efa4feaec2185696dcd8def7ad1c3f2e1c47262651086dfb6053b9a1b40cd", func := "vitrine/vitrinelaw10.LacePasses", spec := "lacePasses", unfollowed := true, recurses := true, named := ["vitrine/lace.places"], plainKeys := false, apart := false, laid := [("vitrine/lace.places", laid_vitrine_lace_places)] }
def LacePassesSaid : Prop := lacePassesRow.holds Tryd.pinned (OpenSpec.ofChange lacePassesSpec)

/-- ITS FALSE NEIGHBOUR: 'it returns false'. Refute it at one input. -/
def lacePassesWrong : ChangeSpec := { name := "lacePasses", fn := fun _ => fun
  | [d] => { results := [.lit (.bool false)], args := [d] }
  | _ => none }
def LacePassesWrongFalsely : Prop := lacePassesRow.holds Tryd.pinned (OpenSpec.ofChange lacePassesWrong)

/-- 'vitrinelaw10.LaceSizes': WHATEVER THE INPUT: true; the input reads as it did. -/
def laceSizesSpec : ChangeSpec := { name := "laceSizes", fn := fun _ => fun
  | [d1, d2] => { results := [.lit (.bool true)], args := [d1, d2] }
  | _ => none }
def laceSizesRow : OpenClaim := { program := "ytookfoanggjnkaadoor", sum := "520efa4feaec2185696dcd8def7ad1c3f2e1c47262651086dfb6053b9a1b40cd", func := "vitrine/vitrinelaw10.LaceSizes", spec := "laceSizes", unfollowed := true, recurses := true, named := ["vitrine/lace.places"], plainKeys := false, apart := false, laid := [("vitrine/lace.places", laid_vitrine_lace_places)] }
def LaceSizesSaid : Prop := laceSizesRow.holds Tryd.pinned (OpenSpec.ofChange laceSizesSpec)

/-- ITS FALSE NEIGHBOUR: 'it returns false'. Refute it at one input. -/
def laceSizesWrong : ChangeSpec := { name := "laceSizes", fn := fun _ => fun
  | [d1, d2] => { results := [.lit (.bool false)], args := [d1, d2] }
  | _ => none }
def LaceSizesWrongFalsely : Prop := laceSizesRow.holds Tryd.pinned (OpenSpec.ofChange laceSizesWrong)

/-- 'vitrinelaw10.LaceOnce': WHATEVER THE INPUT: true; the input reads as it did. -/
def laceOnceSpec : ChangeSpec := { name := "laceOnce", fn := fun _ => fun
  | [d] => { results := [.lit (.bool true)], args := [d] }
  | _ => none }
def laceOnceRow : OpenClaim := { program := "ytookfoanggjnkaadoor", sum := "520efa4feaec2185696dcd8def7ad1c3f2e1c47262651086dfb6053b9a1b40cd", func := "vitrine/vitrinelaw10.LaceOnce", spec := "laceOnce", unfollowed := true, recurses := true, named := ["vitrine/lace.places"], plainKeys := false, apart := false, laid := [("vitrine/lace.places", laid_vitrine_lace_places)] }
def LaceOnceSaid : Prop := laceOnceRow.holds Tryd.pinned (OpenSpec.ofChange laceOnceSpec)

/-- ITS FALSE NEIGHBOUR: 'it returns false'. Refute it at one input. -/
def laceOnceWrong : ChangeSpec := { name := "laceOnce", fn := fun _ => fun
  | [d] => { results := [.lit (.bool false)], args := [d] }
  | _ => none }
def LaceOnceWrongFalsely : Prop := laceOnceRow.holds Tryd.pinned (OpenSpec.ofChange laceOnceWrong)

/-- 'vitrinelaw10.LaceRows': WHATEVER THE INPUT: true; the input reads as it did. -/
def laceRowsSpec : ChangeSpec := { name := "laceRows", fn := fun _ => fun
  | [d1, d2] => { results := [.lit (.bool true)], args := [d1, d2] }
  | _ => none }
def laceRowsRow : OpenClaim := { program := "ytookfoanggjnkaadoor", sum := "520efa4feaec2185696dcd8def7ad1c3f2e1c47262651086dfb6053b9a1b40cd", func := "vitrine/vitrinelaw10.LaceRows", spec := "laceRows", unfollowed := true, recurses := true, named := ["vitrine/lace.places"], plainKeys := false, apart := false, laid := [("vitrine/lace.places", laid_vitrine_lace_places)] }
def LaceRowsSaid : Prop := laceRowsRow.holds Tryd.pinned (OpenSpec.ofChange laceRowsSpec)

/-- ITS FALSE NEIGHBOUR: 'it returns false'. Refute it at one input. -/
def laceRowsWrong : ChangeSpec := { name := "laceRows", fn := fun _ => fun
  | [d1, d2] => { results := [.lit (.bool false)], args := [d1, d2] }
  | _ => none }
def LaceRowsWrongFalsely : Prop := laceRowsRow.holds Tryd.pinned (OpenSpec.ofChange laceRowsWrong)

/-- 'vitrinelaw10.LaceRowIs': WHATEVER THE INPUT: true; the input reads as it did. -/
def laceRowIsSpec : ChangeSpec := { name := "laceRowIs", fn := fun _ => fun
  | [d1, d2] => { results := [.lit (.bool true)], args := [d1, d2] }
  | _ => none }
def laceRowIsRow : OpenClaim := { program := "ytookfoanggjnkaadoor", sum := "520efa4feaec2185696dcd8def7ad1c3f2e1c47262651086dfb6053b9a1b40cd", func := "vitrine/vitrinelaw10.LaceRowIs", spec := "laceRowIs", unfollowed := true, recurses := true, named := ["vitrine/lace.places"], plainKeys := false, apart := false, laid := [("vitrine/lace.places", laid_vitrine_lace_places)] }
def LaceRowIsSaid : Prop := laceRowIsRow.holds Tryd.pinned (OpenSpec.ofChange laceRowIsSpec)

/-- ITS FALSE NEIGHBOUR: 'it returns false'. Refute it at one input. -/
def laceRowIsWrong : ChangeSpec := { name := "laceRowIs", fn := fun _ => fun
  | [d1, d2] => { results := [.lit (.bool false)], args := [d1, d2] }
  | _ => none }
def LaceRowIsWrongFalsely : Prop := laceRowIsRow.holds Tryd.pinned (OpenSpec.ofChange laceRowIsWrong)

/-- 'vitrinelaw10.LaceSizeIs': WHATEVER THE INPUT: true; the input reads as it did. -/
def laceSizeIsSpec : ChangeSpec := { name := "laceSizeIs", fn := fun _ => fun
  | [d] => { results := [.lit (.bool true)], args := [d] }
  | _ => none }
def laceSizeIsRow : OpenClaim := { program := "ytookfoanggjnkaadoor", sum := "520efa4feaec2185696dcd8def7ad1c3f2e1c47262651086dfb6053b9a1b40cd", func := "vitrine/vitrinelaw10.LaceSizeIs", spec := "laceSizeIs", unfollowed := true, recurses := true, named := ["vitrine/lace.places"], plainKeys := false, apart := false, laid := [("vitrine/lace.places", laid_vitrine_lace_places)] }
def LaceSizeIsSaid : Prop := laceSizeIsRow.holds Tryd.pinned (OpenSpec.ofChange laceSizeIsSpec)

/-- ITS FALSE NEIGHBOUR: 'it returns false'. Refute it at one input. -/
def laceSizeIsWrong : ChangeSpec := { name := "laceSizeIs", fn := fun _ => fun
  | [d] => { results := [.lit (.bool false)], args := [d] }
  | _ => none }
def LaceSizeIsWrongFalsely : Prop := laceSizeIsRow.holds Tryd.pinned (OpenSpec.ofChange laceSizeIsWrong)

/-- 'vitrinelaw10.LacePlain': WHATEVER THE INPUT: true; the input reads as it did. -/
def lacePlainSpec : ChangeSpec := { name := "lacePlain", fn := fun _ => fun
  | [d] => { results := [.lit (.bool true)], args := [d] }
  | _ => none }
def lacePlainRow : OpenClaim := { program := "ytookfoanggjnkaadoor", sum := "520efa4feaec2185696dcd8def7ad1c3f2e1c47262651086dfb6053b9a1b40cd", func := "vitrine/vitrinelaw10.LacePlain", spec := "lacePlain", unfollowed := true, recurses := true, named := ["vitrine/lace.places"], plainKeys := false, apart := false, laid := [("vitrine/lace.places", laid_vitrine_lace_places)] }
def LacePlainSaid : Prop := lacePlainRow.holds Tryd.pinned (OpenSpec.ofChange lacePlainSpec)

/-- ITS FALSE NEIGHBOUR: 'it returns false'. Refute it at one input. -/
def lacePlainWrong : ChangeSpec := { name := "lacePlain", fn := fun _ => fun
  | [d] => { results := [.lit (.bool false)], args := [d] }
  | _ => none }
def LacePlainWrongFalsely : Prop := lacePlainRow.holds Tryd.pinned (OpenSpec.ofChange lacePlainWrong)

/- THE SECOND FORM. 'bulk': how many values and letters a reading holds, each counted each time it is reached (what is shared counts as often as it is met; a slice's spare places count too). A statement '..UptoSaid' is the law's where the arguments, and the package variables that the reading takes, are together of bulk at most 1048576: NARROWER than '..Said'. Prove '..Said' where nothing that the law and all that it calls make is longer than what came in: it says more and counts as full. Else prove '..UptoSaid'. A law counts once. -/
mutual
def uptoBulk {H : Type} : DataW H → Nat
  | .lit (.string bytes) => bytes.length + 1
  | .lit _ => 1
  | .nil => 1
  | .ptr d => uptoBulk d + 1
  | .slice elems spare => uptoBulkAll elems + uptoBulkAll spare + 1
  | .agg parts => uptoBulkAll parts + 1
  | .iface _ d => uptoBulk d + 1
  | .map entries => uptoBulkEntries entries + 1
  | .held _ => 1
def uptoBulkAll {H : Type} : List (DataW H) → Nat
  | [] => 0
  | d :: r => uptoBulk d + uptoBulkAll r
def uptoBulkEntries {H : Type} : List (Lit × DataW H) → Nat
  | [] => 0
  | x :: r => uptoBulkEntry x + uptoBulkEntries r
def uptoBulkEntry {H : Type} : Lit × DataW H → Nat
  | (.string bytes, d) => bytes.length + uptoBulk d + 1
  | (_, d) => uptoBulk d + 1
 end
def uptoSmall : (H : Type) → List (DataW H) → Bool := fun _ ds => decide (uptoBulkAll ds ≤ 1048576)
def OpenSpec.upto (s : _root_.Go.ChangeSpec) : _root_.Go.OpenSpec := { _root_.Go.OpenSpec.ofChange s with cond := some uptoSmall }

/-- 'vitrinelaw10.LacePasses', WHERE WHAT IT READS IS OF BULK AT MOST 1048576: true; the input reads as it did. -/
def lacePassesUptoRow : OpenClaim := { program := "ytookfoanggjnkaadoor", sum := "520efa4feaec2185696dcd8def7ad1c3f2e1c47262651086dfb6053b9a1b40cd", func := "vitrine/vitrinelaw10.LacePasses", spec := "lacePasses", unfollowed := true, recurses := true, named := ["vitrine/lace.places"], plainKeys := false, apart := false, laid := [("vitrine/lace.places", laid_vitrine_lace_places)], narrowed := true }
def LacePassesUptoSaid : Prop := lacePassesUptoRow.holds Tryd.pinned (OpenSpec.upto lacePassesSpec)

/-- 'vitrinelaw10.LaceSizes', WHERE WHAT IT READS IS OF BULK AT MOST 1048576: true; the input reads as it did. -/
def laceSizesUptoRow : OpenClaim := { program := "ytookfoanggjnkaadoor", sum := "520efa4feaec2185696dcd8def7ad1c3f2e1c47262651086dfb6053b9a1b40cd", func := "vitrine/vitrinelaw10.LaceSizes", spec := "laceSizes", unfollowed := true, recurses := true, named := ["vitrine/lace.places"], plainKeys := false, apart := false, laid := [("vitrine/lace.places", laid_vitrine_lace_places)], narrowed := true }
def LaceSizesUptoSaid : Prop := laceSizesUptoRow.holds Tryd.pinned (OpenSpec.upto laceSizesSpec)

/-- 'vitrinelaw10.LaceOnce', WHERE WHAT IT READS IS OF BULK AT MOST 1048576: true; the input reads as it did. -/
def laceOnceUptoRow : OpenClaim := { program := "ytookfoanggjnkaadoor", sum := "520efa4feaec2185696dcd8def7ad1c3f2e1c47262651086dfb6053b9a1b40cd", func := "vitrine/vitrinelaw10.LaceOnce", spec := "laceOnce", unfollowed := true, recurses := true, named := ["vitrine/lace.places"], plainKeys := false, apart := false, laid := [("vitrine/lace.places", laid_vitrine_lace_places)], narrowed := true }
def LaceOnceUptoSaid : Prop := laceOnceUptoRow.holds Tryd.pinned (OpenSpec.upto laceOnceSpec)

/-- 'vitrinelaw10.LaceRows', WHERE WHAT IT READS IS OF BULK AT MOST 1048576: true; the input reads as it did. -/
def laceRowsUptoRow : OpenClaim := { program := "ytookfoanggjnkaadoor", sum := "520efa4feaec2185696dcd8def7ad1c3f2e1c47262651086dfb6053b9a1b40cd", func := "vitrine/vitrinelaw10.LaceRows", spec := "laceRows", unfollowed := true, recurses := true, named := ["vitrine/lace.places"], plainKeys := false, apart := false, laid := [("vitrine/lace.places", laid_vitrine_lace_places)], narrowed := true }
def LaceRowsUptoSaid : Prop := laceRowsUptoRow.holds Tryd.pinned (OpenSpec.upto laceRowsSpec)

/-- 'vitrinelaw10.LaceRowIs', WHERE WHAT IT READS IS OF BULK AT MOST 1048576: true; the input reads as it did. -/
def laceRowIsUptoRow : OpenClaim := { program := "ytookfoanggjnkaadoor", sum := "520efa4feaec2185696dcd8def7ad1c3f2e1c47262651086dfb6053b9a1b40cd", func := "vitrine/vitrinelaw10.LaceRowIs", spec := "laceRowIs", unfollowed := true, recurses := true, named := ["vitrine/lace.places"], plainKeys := false, apart := false, laid := [("vitrine/lace.places", laid_vitrine_lace_places)], narrowed := true }
def LaceRowIsUptoSaid : Prop := laceRowIsUptoRow.holds Tryd.pinned (OpenSpec.upto laceRowIsSpec)

/-- 'vitrinelaw10.LaceSizeIs', WHERE WHAT IT READS IS OF BULK AT MOST 1048576: true; the input reads as it did. -/
def laceSizeIsUptoRow : OpenClaim := { program := "ytookfoanggjnkaadoor", sum := "520efa4feaec2185696dcd8def7ad1c3f2e1c47262651086dfb6053b9a1b40cd", func := "vitrine/vitrinelaw10.LaceSizeIs", spec := "laceSizeIs", unfollowed := true, recurses := true, named := ["vitrine/lace.places"], plainKeys := false, apart := false, laid := [("vitrine/lace.places", laid_vitrine_lace_places)], narrowed := true }
def LaceSizeIsUptoSaid : Prop := laceSizeIsUptoRow.holds Tryd.pinned (OpenSpec.upto laceSizeIsSpec)

/-- 'vitrinelaw10.LacePlain', WHERE WHAT IT READS IS OF BULK AT MOST 1048576: true; the input reads as it did. -/
def lacePlainUptoRow : OpenClaim := { program := "ytookfoanggjnkaadoor", sum := "520efa4feaec2185696dcd8def7ad1c3f2e1c47262651086dfb6053b9a1b40cd", func := "vitrine/vitrinelaw10.LacePlain", spec := "lacePlain", unfollowed := true, recurses := true, named := ["vitrine/lace.places"], plainKeys := false, apart := false, laid := [("vitrine/lace.places", laid_vitrine_lace_places)], narrowed := true }
def LacePlainUptoSaid : Prop := lacePlainUptoRow.holds Tryd.pinned (OpenSpec.upto lacePlainSpec)

end Rows
end Go.Proofs.YtookfoanggjnkaaDoor
