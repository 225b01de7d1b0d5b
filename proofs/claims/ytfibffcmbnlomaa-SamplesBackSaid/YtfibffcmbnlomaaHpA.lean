/- The program's samples of a colour, and which heads may be. -/
import Derived.Test.YtfibffcmbnlomaaHdA
import Derived.Deep.DeepCutAuto
import Derived.Deep.CutRange
import Derived.Deep.CutBlock
set_option maxRecDepth 100000
set_option linter.unusedVariables false
namespace Go.Proofs.Ytfibffcmbnlomaa
set_option maxRecDepth 100000
open Go Go.RowKit
theorem psamples_any (w : World) (c : Int) : Calls Try.prog 26 #[.int .i64 c] w fun e w' => e = .returned (.int .i64 (samplesI c)) ∧ w = w' := by
  obtain ⟨r, hr⟩ : ∃ r, r = samplesI c := ⟨_, rfl⟩
  rw [← hr]
  have HR := Lib.hid hr
  clear hr
  go_enter Try.func26, Try.ntmps26
  go_wp2
  all_goals
    go_ret
    refine ⟨?_, rfl⟩
    rw [HR.out]
    unfold samplesI
    clear HR
    simp at *
    try simp [*]
theorem take_in {l : List Int} {i : Nat} {x : Int} (h : i < l.length) (h1 : ¬ x ∈ l.take i) (h2 : ¬ x = l[i]) : ¬ x ∈ l.take (i + 1) := by
  rw [List.take_add_one, List.getElem?_eq_getElem h]
  simp only [Option.toList_some, List.mem_append, List.mem_singleton]
  rintro (h | h)
  · exact h1 h
  · exact h2 h
end Go.Proofs.Ytfibffcmbnlomaa
