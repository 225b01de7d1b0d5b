/- The walks of the statements on tables that there are, and on nil tables, readers and writers. -/
import Derived.Test.YtmafcmfafcjokaaTable
namespace Go.Proofs.Ytmafcmfafcjokaa
open Go Go.RowKit

theorem next_nil (r : Value) (w : World) (hr : ∃ a, r = .pointer a) : Calls Try.prog 21 #[.pointer none, r] w fun e w' => e = .returned (.tuple #[.int .i64 0, .int .i64 2]) ∧ w = w' := by
  obtain ⟨a, rfl⟩ := hr
  go_enter Try.func21, Try.ntmps21
  go_wp2
  go_ret2
  exact ⟨rfl, rfl⟩
theorem next_nil2 (b : Nat) (w : World) : Calls Try.prog 21 #[.pointer (some ⟨b, 0, none⟩), .pointer none] w fun e w' => e = .returned (.tuple #[.int .i64 0, .int .i64 2]) ∧ w = w' := by
  go_enter Try.func21, Try.ntmps21
  go_wp2
  go_ret2
  exact ⟨rfl, rfl⟩
theorem lay_nil (r : Value) (n : Int) (w : World) (hr : ∃ a, r = .pointer a) : Calls Try.prog 26 #[.pointer none, r, .int .i64 n] w fun e w' => e = .returned (.int .i64 2) ∧ w = w' := by
  obtain ⟨a, rfl⟩ := hr
  go_enter Try.func26, Try.ntmps26
  go_wp2
  go_ret
  exact ⟨rfl, rfl⟩
theorem lay_nil2 (b : Nat) (n : Int) (w : World) : Calls Try.prog 26 #[.pointer (some ⟨b, 0, none⟩), .pointer none, .int .i64 n] w fun e w' => e = .returned (.int .i64 2) ∧ w = w' := by
  go_enter Try.func26, Try.ntmps26
  go_wp2
  go_ret
  exact ⟨rfl, rfl⟩

end Go.Proofs.Ytmafcmfafcjokaa
