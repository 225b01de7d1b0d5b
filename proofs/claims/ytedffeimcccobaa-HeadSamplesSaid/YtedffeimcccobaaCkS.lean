/- The program's first chunk of a text. -/
import Derived.Test.YtedffeimcccobaaCkR
import Derived.Test.YtedffeimcccobaaCkC
import Derived.Test.YtedffeimcccobaaBuA
set_option maxRecDepth 100000
set_option linter.unusedVariables false
namespace Go.Proofs.Ytedffeimcccobaa
set_option maxRecDepth 100000
open Go Go.RowKit
/-- The chunk that bytes begin with, what is behind it, or what is wrong with it first. -/
def firstT (s : List UInt8) : Ck × List UInt8 × Int :=
  if s.length < 8 then (([], []), [], 3) else
  if 2147483647 < ofL (s.take 4) ∨ rightT ((s.drop 4).take 4) = false then (([], []), [], 21) else
  if s.length < 12 + ofL (s.take 4) then (([], []), [], 3) else
  if (s.drop (8 + ofL (s.take 4))).take 4 ≠ fourL (crcSum ((s.drop 4).take (4 + ofL (s.take 4)))) then (([], []), [], 22) else
  (((s.drop 4).take 4, (s.drop 8).take (ofL (s.take 4))), s.drop (12 + ofL (s.take 4)), 0)
theorem splK_first {s : List UInt8} (h : s ≠ []) (out : List Ck) : splK s.length s out =
    if (firstT s).2.2 ≠ 0 then ([], (firstT s).2.2) else splK (firstT s).2.1.length (firstT s).2.1 (out ++ [(firstT s).1]) := by
  rw [splK_next h]
  by_cases h1 : s.length < 8
  · have hf : firstT s = (([], []), [], 3) := by unfold firstT; rw [if_pos h1]
    rw [if_pos h1, hf, if_pos (by decide)]
  by_cases h2 : 2147483647 < ofL (s.take 4) ∨ rightT ((s.drop 4).take 4) = false
  · have hf : firstT s = (([], []), [], 21) := by unfold firstT; rw [if_neg h1, if_pos h2]
    rw [if_neg h1, if_pos h2, hf, if_pos (by decide)]
  by_cases h3 : s.length < 12 + ofL (s.take 4)
  · have hf : firstT s = (([], []), [], 3) := by unfold firstT; rw [if_neg h1, if_neg h2, if_pos h3]
    rw [if_neg h1, if_neg h2, if_pos h3, hf, if_pos (by decide)]
  have hq : ((s.drop (8 + ofL (s.take 4))).take 4).length = 4 := by rw [List.length_take, List.length_drop]; omega
  by_cases h4 : ofL ((s.drop (8 + ofL (s.take 4))).take 4) = crcSum ((s.drop 4).take (4 + ofL (s.take 4)))
  · have h5 : (s.drop (8 + ofL (s.take 4))).take 4 = fourL (crcSum ((s.drop 4).take (4 + ofL (s.take 4)))) := by rw [← h4, four_ofL hq]
    have hf : firstT s = (((s.drop 4).take 4, (s.drop 8).take (ofL (s.take 4))), s.drop (12 + ofL (s.take 4)), 0) := by unfold firstT; rw [if_neg h1, if_neg h2, if_neg h3, if_neg (fun hh => hh h5)]
    rw [if_neg h1, if_neg h2, if_neg h3, if_neg (fun hh => hh h4), hf, if_neg (fun hh => hh rfl)]
  · have h5 : ¬ (s.drop (8 + ofL (s.take 4))).take 4 = fourL (crcSum ((s.drop 4).take (4 + ofL (s.take 4)))) := fun e => h4 (by rw [e, ofL_four (crcSum_lt _)])
    have hf : firstT s = (([], []), [], 22) := by unfold firstT; rw [if_neg h1, if_neg h2, if_neg h3, if_pos h5]
    rw [if_neg h1, if_neg h2, if_neg h3, if_pos h4, hf, if_pos (by decide)]
theorem firstT_short {s : List UInt8} (h : s ≠ []) : (firstT s).2.1.length < s.length := by
  have hp : 0 < s.length := List.length_pos_iff.2 h
  unfold firstT
  split
  · exact hp
  split
  · exact hp
  split
  · exact hp
  split
  · exact hp
  · rw [List.length_drop]; omega
theorem But.ofBelowC {w w1 w2 : World} (h : But [] w w1) (k : Below w.heap.size w1 w2) : But [] w w2 :=
  ⟨k.os.trans h.os, k.tape.trans h.tape, k.output.trans h.output, Nat.le_trans h.size k.size, fun i hi _ => (k.block i hi).trans (h.block i hi (by simp))⟩
theorem But.ofBelow1 {w w1 : World} (k : Below w.heap.size w w1) : But [] w w1 := (But.refl [] w).ofBelowC k
theorem pclone_any (w : World) {s : ByteArray} (hs : s.size ≤ 281474976710656) :
    Calls Try.prog 40 #[.string s] w fun e w' => e = .returned (.string s) ∧ But [] w w' := by
  have H := Lib.hid (stringslite_Clone s w hs)
  go_enter Try.func40, Try.ntmps40
  go_wp2_with fail
  refine H.out.mono ?_
  rintro e w1 ⟨rfl, hB⟩
  have HB := Lib.hid (But.ofBelow1 hB)
  clear hB
  go_wp2
  go_ret
  exact ⟨rfl, HB.out⟩
def GotF (w : World) (r : Ck × List UInt8 × Int) (e : Ending) (w' : World) : Prop := e = .returned (.tuple #[ckVal r.1, .string (strL r.2.1), .int .i64 r.2.2]) ∧ But [] w w'
theorem strL_nil : strL [] = ⟨#[]⟩ := rfl
theorem strL_nil' : strL [] = ByteArray.empty := rfl
attribute [local irreducible] strL ofL crcSum rightT fourL
end Go.Proofs.Ytedffeimcccobaa
