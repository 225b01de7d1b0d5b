/- Which values are tokens: the program's two tests and the document's one. -/
import Derived.Test.YtbdackcfedcmkaaLzA
set_option maxRecDepth 100000
namespace Go.Proofs.Ytbdackcfedcmkaa
set_option maxRecDepth 100000
open Go Go.RowKit

/-- Is it a literal? -/
def litTk (t : T3) : Bool := decide (t.1 = 0 ∧ t.2.1 = 0 ∧ 0 ≤ t.2.2 ∧ t.2.2 ≤ 255)
def matTk (t : T3) : Bool := decide (t.2.2 = 0 ∧ 3 ≤ t.1 ∧ t.1 ≤ 258 ∧ 1 ≤ t.2.1 ∧ t.2.1 ≤ 32768)
theorem right_or (t : T3) : rightTk t = (litTk t || matTk t) := by
  unfold rightTk litTk matTk
  by_cases h : t.1 = 0
  · simp [h]
  · simp [h]
theorem lit_any (w : World) (t : T3) : Calls Try.prog 15 #[tkVal t] w fun e w' => e = .returned (.bool (litTk t)) ∧ But [] w w' := by
  obtain ⟨n, d, b⟩ := t
  unfold tkVal litTk
  have he := tok_eql
  have hb := (But.refl [] w).alloc (.cells #[.int .i64 b, .int .i64 n, .int .i64 d] 34)
  by_cases h0 : n = 0 ∧ d = 0
  · obtain ⟨rfl, rfl⟩ := h0
    go_enter Try.func15, Try.ntmps15
    go_wp2
    all_goals go_ret
    all_goals exact ⟨by congr 2; simp; try omega, hb⟩
  · have h0' : decide (b = b ∧ n = 0 ∧ d = 0) = false := by simpa using h0
    have h1 : decide (n = 0 ∧ d = 0 ∧ 0 ≤ b ∧ b ≤ 255) = false := by simp; omega
    go_enter Try.func15, Try.ntmps15
    go_wp2
    all_goals go_ret
    all_goals exact ⟨by congr 2 <;> simp, hb⟩
theorem mat_any (w : World) (t : T3) : Calls Try.prog 16 #[tkVal t] w fun e w' => e = .returned (.bool (matTk t)) ∧ But [] w w' := by
  obtain ⟨n, d, b⟩ := t
  unfold tkVal matTk
  have he := tok_eql
  have hb := (But.refl [] w).alloc (.cells #[.int .i64 b, .int .i64 n, .int .i64 d] 34)
  by_cases h0 : b = 0
  · obtain rfl := h0
    go_enter Try.func16, Try.ntmps16
    go_wp2
    all_goals go_ret
    all_goals exact ⟨by congr 2; simp [*]; try omega, hb⟩
  · have h0' : decide (b = 0 ∧ n = n ∧ d = d) = false := by simpa using h0
    have h1 : decide (b = 0 ∧ 3 ≤ n ∧ n ≤ 258 ∧ 1 ≤ d ∧ d ≤ 32768) = false := by simp; omega
    go_enter Try.func16, Try.ntmps16
    go_wp2
    all_goals go_ret
    all_goals exact ⟨by congr 2 <;> simp, hb⟩
theorem right_any (w : World) (t : T3) : Calls Try.prog 13 #[tkVal t] w fun e w' => e = .returned (.bool (rightTk t)) ∧ But [] w w' := by
  obtain ⟨n, d, b⟩ := t
  unfold tkVal rightTk
  have hb : Hid (∀ o, But [] w (w.alloc o)) := Lib.hid fun o => (But.refl [] w).alloc o
  by_cases h0 : n = 0
  · obtain rfl := h0
    have e : decide (d = 0 ∧ 0 ≤ b ∧ b ≤ 255) = (decide (d = 0) && (decide (0 ≤ b) && decide (b ≤ 255))) := by simp
    show Calls _ _ _ _ fun e w' => e = .returned (.bool (if (0 : Int) = 0 then decide (d = 0 ∧ 0 ≤ b ∧ b ≤ 255) else _)) ∧ _
    rw [if_pos rfl, e]
    clear e
    go_enter Try.func13, Try.ntmps13
    go_wp2
    all_goals go_ret
    all_goals exact ⟨by simp [*] <;> (intros; omega), hb.out _⟩
  · have e : decide (b = 0 ∧ 3 ≤ n ∧ n ≤ 258 ∧ 1 ≤ d ∧ d ≤ 32768) = (decide (b = 0) && (decide (3 ≤ n) && (decide (n ≤ 258) && (decide (1 ≤ d) && decide (d ≤ 32768))))) := by simp
    show Calls _ _ _ _ fun e w' => e = .returned (.bool (if n = 0 then _ else decide (b = 0 ∧ 3 ≤ n ∧ n ≤ 258 ∧ 1 ≤ d ∧ d ≤ 32768))) ∧ _
    rw [if_neg h0, e]
    clear e
    have h1 : (n == 0) = false := by simpa using h0
    go_enter Try.func13, Try.ntmps13
    go_wp2
    all_goals go_ret
    all_goals exact ⟨by simp [*] <;> (intros; omega), hb.out _⟩
end Go.Proofs.Ytbdackcfedcmkaa
