/- The document's samples of a colour, and which heads may be. -/
import Derived.Test.YtfibffcmbnlomaaHeM
import Derived.Test.YtfibffcmbnlomaaZlD
import Derived.Deep.DeepCutAuto
import Derived.Deep.CutRange
import Derived.Deep.CutBlock
set_option maxRecDepth 100000
set_option linter.unusedVariables false
namespace Go.Proofs.Ytfibffcmbnlomaa
set_option maxRecDepth 100000
open Go Go.RowKit
/-- How many samples a pixel of a colour has, of whatever number. -/
def samplesI (c : Int) : Int := if c = 0 ∨ c = 3 then 1 else if c = 4 then 2 else if c = 2 then 3 else if c = 6 then 4 else 0
theorem esamples_any (w : World) (c : Int) : Calls Try.prog 31 #[.int .i64 c] w fun e w' => e = .returned (.int .i64 (samplesI c)) ∧ w = w' := by
  obtain ⟨r, hr⟩ : ∃ r, r = samplesI c := ⟨_, rfl⟩
  rw [← hr]
  have HR := Lib.hid hr
  clear hr
  go_enter Try.func31, Try.ntmps31
  go_wp2
  all_goals
    go_ret
    refine ⟨?_, rfl⟩
    rw [HR.out]
    unfold samplesI
    clear HR
    simp at *
    try simp [*]
end Go.Proofs.Ytfibffcmbnlomaa
