/- The walks of the statements on Check and Codes. -/
import Derived.Test.YtmafcmfafcjokaaAwakeH
namespace Go.Proofs.Ytmafcmfafcjokaa
open Go Go.RowKit

theorem huffChecks_walk {A : Option Addr} {len cap : Nat} {l : List Int} {w : World} (hl : Ints w A len l) (hb : len * 8 ≤ 140737488351232) (_hnil : A = none → cap = 0) (_hf : Fits l) :
    Calls Try.prog 3 #[.slice A len cap] w fun e w' => e = .returned (.bool true) ∧ Below w.heap.size w w' := by
  have hm : len ≤ maxLen := by unfold maxLen; omega
  go_enter Try.func3, Try.ntmps3
  go_wp2_with (first | (go_at_call 12; refine (check_any hl hm).mono ?_; rintro e w' ⟨rfl, rfl⟩) | (go_at_call 13; refine (ref_check hl hm).mono ?_; rintro e w' ⟨rfl, rfl⟩) | (go_at_call 14; refine (awake_any _).mono ?_; rintro e w' ⟨rfl, hB⟩))
  go_ret
  exact ⟨rfl, hB.belowNew⟩
end Go.Proofs.Ytmafcmfafcjokaa
