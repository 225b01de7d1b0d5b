/- The walk of the statement on symbols that are laid. -/
import Derived.Test.YtmafcmfafcjokaaRMake
import Derived.BigRegion
import Derived.Deep.RegionWith
namespace Go.Proofs.Ytmafcmfafcjokaa
open Go Go.RowKit

theorem chk_range {l : List Int} (h : chk l = 0) : ∀ x ∈ l, 0 ≤ x ∧ x ≤ 15 := by
  obtain ⟨h1, h2, h3, h4⟩ := chk_zero h
  unfold okLens at h2
  intro x hx
  have := List.all_eq_true.1 h2 x hx
  unfold okLen at this
  simpa using this

end Go.Proofs.Ytmafcmfafcjokaa
