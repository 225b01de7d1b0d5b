/- The walks of the statements on tables that there are, and on nil tables, readers and writers. -/
import Derived.Test.YtobmghjpfkdooaaDoorTable
namespace Go.Proofs.YtobmghjpfkdooaaDoor
set_option maxRecDepth 100000
open Go Go.RowKit

theorem next_nil (r : Value) (w : World) (hr : ∃ a, r = .pointer a) : Calls Tryd.prog 18 #[.pointer none, r] w fun e w' => e = .returned (.tuple #[.int .i64 0, .int .i64 2]) ∧ w = w' := by
  obtain ⟨a, rfl⟩ := hr
  go_enter Tryd.func18, Tryd.ntmps18
  go_wp2
  go_ret2
  exact ⟨rfl, rfl⟩
theorem next_nil2 (b : Nat) (w : World) : Calls Tryd.prog 18 #[.pointer (some ⟨b, 0, none⟩), .pointer none] w fun e w' => e = .returned (.tuple #[.int .i64 0, .int .i64 2]) ∧ w = w' := by
  go_enter Tryd.func18, Tryd.ntmps18
  go_wp2
  go_ret2
  exact ⟨rfl, rfl⟩
end Go.Proofs.YtobmghjpfkdooaaDoor
