/- The document's chunks of a file: the walk. -/
import Derived.Test.YtedffeimcccobaaCkB
import Derived.Deep.AppendLies
import Derived.Deep.RegionLaw
import Derived.RegionTactic
set_option maxRecDepth 100000
set_option linter.unusedVariables false
namespace Go.Proofs.Ytedffeimcccobaa
set_option maxRecDepth 100000
open Go Go.RowKit
/-- One chunk of what is left. -/
theorem splK_next {s : List UInt8} (h : s ≠ []) (out : List Ck) : splK s.length s out =
    if s.length < 8 then ([], 3) else
    if 2147483647 < ofL (s.take 4) ∨ rightT ((s.drop 4).take 4) = false then ([], 21) else
    if s.length < 12 + ofL (s.take 4) then ([], 3) else
    if ofL ((s.drop (8 + ofL (s.take 4))).take 4) ≠ crcSum ((s.drop 4).take (4 + ofL (s.take 4))) then ([], 22) else
    splK (s.drop (12 + ofL (s.take 4))).length (s.drop (12 + ofL (s.take 4))) (out ++ [((s.drop 4).take 4, (s.drop 8).take (ofL (s.take 4)))]) := by
  have h0 : s.length ≠ 0 := fun e => h (List.length_eq_zero_iff.1 e)
  obtain ⟨f, hf⟩ : ∃ f, s.length = f + 1 := ⟨s.length - 1, by omega⟩
  have hm := splK_more f (s.drop (12 + ofL (s.take 4))).length (s.drop (12 + ofL (s.take 4))) (out ++ [((s.drop 4).take 4, (s.drop 8).take (ofL (s.take 4)))]) (by rw [List.length_drop]; omega) (Nat.le_refl _)
  rw [← hm]
  have e : splK s.length s out = splK (f + 1) s out := by rw [hf]
  rw [e]
  conv => lhs; unfold splK
  rw [if_neg h0]
def strSz : Value → Nat
  | .string s => s.size
  | _ => 0
theorem cut_mid (s : List UInt8) {i j : Nat} (h : i ≤ j) (W : World) (hj : j ≤ s.length) : (Instr.slice 9 (.string (strL s)) (some (.int .i64 (i : Int))) (some (.int .i64 (j : Int))) none).run Try.prog W = .ok (.string (strL ((s.drop i).take (j - i)))) W := by
  rw [run_slice_string W 9 (strL s) .i64 .i64 (i : Int) (j : Int) Try.underlying9 (by omega) (by omega) (by rw [strL_size]; omega), Int.toNat_natCast, Int.toNat_natCast, ext_list, strL_list, List.drop_take]
theorem cut_from (s : List UInt8) {i : Nat} (W : World) (hi : i ≤ s.length) : (Instr.slice 9 (.string (strL s)) (some (.int .i64 (i : Int))) none none).run Try.prog W = .ok (.string (strL (s.drop i))) W := by
  rw [run_slice_string_from_if W 9 (strL s) .i64 (i : Int) Try.underlying9, if_pos (by rw [strL_size]; omega), Int.toNat_natCast, ext_list, strL_list, List.take_of_length_le (by rw [strL_size]; exact Nat.le_refl _)]
theorem cut_to (s : List UInt8) {j : Nat} (W : World) (hj : j ≤ s.length) : (Instr.slice 9 (.string (strL s)) none (some (.int .i64 (j : Int))) none).run Try.prog W = .ok (.string (strL (s.take j))) W := by
  rw [run_slice_string_to_if W 9 (strL s) .i64 (j : Int) Try.underlying9, if_pos (by rw [strL_size]; omega), Int.toNat_natCast, ext_list, strL_list, List.drop_zero]
theorem signL_str : (⟨#[137, 80, 78, 71, 13, 10, 26, 10]⟩ : ByteArray) = strL signL := rfl
theorem take8_ne {s : List UInt8} (h : s.length < 8) : s.take 8 ≠ signL := fun e => by
  have := congrArg List.length e
  rw [List.length_take] at this
  have h8 : signL.length = 8 := rfl
  omega
attribute [local irreducible] strL signL ofL crcSum rightT splK
end Go.Proofs.Ytedffeimcccobaa
