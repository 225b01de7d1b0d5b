/- Both writers side by side. -/
import Derived.Test.YtmafcmfafcjokaaAwake
namespace Go.Proofs.Ytmafcmfafcjokaa
open Go Go.RowKit

/-- The program's writer in block b1 and the document's in block b2, side by side; all of theirs lies above what was there at first. -/
def Pair (w0 wr : World) (b1 b2 X N Y M : Nat) : Prop :=
  ∃ og1 og2, WS wr w0.heap.size b1 og1 X N ∧ FW wr w0.heap.size b2 og2 Y M ∧ (∀ g, og1 = some g → w0.heap.size ≤ g ∧ og2 ≠ some g) ∧ (∀ g, og2 = some g → w0.heap.size ≤ g) ∧
    But [] w0 wr ∧ w0.heap.size ≤ b1 ∧ w0.heap.size ≤ b2 ∧ b1 ≠ b2
theorem WS.ownNe {w : World} {lo b X N : Nat} {og : Option Nat} (h : WS w lo b og X N) {b2 : Nat} {t : TypeId} {cs : Array Value} (hi : Is w b2 t cs) (ht : 5 ≠ t) : og ≠ some b2 := by
  obtain ⟨v, L, part, _, hown, rfl, _⟩ := h
  exact own_ne hown hi ht
theorem FW.ownNe {w : World} {lo b X N : Nat} {og : Option Nat} (h : FW w lo b og X N) {b2 : Nat} {t : TypeId} {cs : Array Value} (hi : Is w b2 t cs) (ht : 5 ≠ t) : og ≠ some b2 := by
  obtain ⟨v, L, _, hown, rfl, _⟩ := h
  exact own_ne hown hi ht
theorem WS.is {w : World} {lo b X N : Nat} {og : Option Nat} (h : WS w lo b og X N) : ∃ cs, Is w b 75 cs := by
  obtain ⟨v, L, part, hi, _⟩ := h; exact ⟨_, hi⟩
theorem FW.is {w : World} {lo b X N : Nat} {og : Option Nat} (h : FW w lo b og X N) : ∃ cs, Is w b 53 cs := by
  obtain ⟨v, L, hi, _⟩ := h; exact ⟨_, hi⟩

theorem Pair.step1 {w0 wr w' : World} {b1 b2 X N Y M X' N' : Nat} {og1 og2 og1' : Option Nat} (hW : WS wr w0.heap.size b1 og1 X N) (hF : FW wr w0.heap.size b2 og2 Y M)
    (h1 : ∀ g, og1 = some g → w0.heap.size ≤ g ∧ og2 ≠ some g) (h2 : ∀ g, og2 = some g → w0.heap.size ≤ g) (hB : But [] w0 wr) (hb1 : w0.heap.size ≤ b1) (hb2 : w0.heap.size ≤ b2) (hb : b1 ≠ b2)
    (hW' : WS w' w0.heap.size b1 og1' X' N') (hf : ∀ g, og1' = some g → og1 = some g ∨ wr.heap.size ≤ g) (hB' : But (b1 :: og1.toList) wr w') : Pair w0 w' b1 b2 X' N' Y M := by
  obtain ⟨c1, i1⟩ := hW.is
  obtain ⟨c2, i2⟩ := hF.is
  have n1 := hW.ownNe i2 (by decide)
  have n2 := hF.ownNe i1 (by decide)
  have hlt := hF.lt.2
  refine ⟨og1', og2, hW', hF.but hB' ?_ ?_, ?_, h2, hB.fresh hB' ?_, hb1, hb2, hb⟩
  · simp only [List.mem_cons, Option.mem_toList]
    rintro (e | e)
    · exact hb e.symm
    · exact n1 e
  · intro g e
    simp only [List.mem_cons, Option.mem_toList]
    rintro (e2 | e2)
    · subst e2; exact n2 e
    · exact (h1 g e2).2 e
  · intro g e
    rcases hf g e with h | h
    · exact h1 g h
    · refine ⟨Nat.le_trans hB.size h, fun e2 => ?_⟩
      have := (hlt g e2).1
      omega
  · intro k hk
    simp only [List.mem_cons, Option.mem_toList] at hk
    rcases hk with e | e
    · omega
    · exact (h1 k e).1
theorem Pair.step2 {w0 wr w' : World} {b1 b2 X N Y M Y' M' : Nat} {og1 og2 og2' : Option Nat} (hW : WS wr w0.heap.size b1 og1 X N) (hF : FW wr w0.heap.size b2 og2 Y M)
    (h1 : ∀ g, og1 = some g → w0.heap.size ≤ g ∧ og2 ≠ some g) (h2 : ∀ g, og2 = some g → w0.heap.size ≤ g) (hB : But [] w0 wr) (hb1 : w0.heap.size ≤ b1) (hb2 : w0.heap.size ≤ b2) (hb : b1 ≠ b2)
    (hF' : FW w' w0.heap.size b2 og2' Y' M') (hf : ∀ g, og2' = some g → og2 = some g ∨ wr.heap.size ≤ g) (hB' : But (b2 :: og2.toList) wr w') : Pair w0 w' b1 b2 X N Y' M' := by
  obtain ⟨c1, i1⟩ := hW.is
  obtain ⟨c2, i2⟩ := hF.is
  have n1 := hW.ownNe i2 (by decide)
  have n2 := hF.ownNe i1 (by decide)
  have hlt := hW.lt.2
  refine ⟨og1, og2', hW.but hB' ?_ ?_, hF', ?_, ?_, hB.fresh hB' ?_, hb1, hb2, hb⟩
  · simp only [List.mem_cons, Option.mem_toList]
    rintro (e | e)
    · exact hb e
    · exact n2 e
  · intro g e
    simp only [List.mem_cons, Option.mem_toList]
    rintro (e2 | e2)
    · subst e2; exact n1 e
    · exact (h1 g e).2 e2
  · intro g e
    refine ⟨(h1 g e).1, fun e2 => ?_⟩
    rcases hf g e2 with h | h
    · exact (h1 g e).2 h
    · have := (hlt g e).1
      omega
  · intro g e
    rcases hf g e with h | h
    · exact h2 g h
    · exact Nat.le_trans hB.size h
  · intro k hk
    simp only [List.mem_cons, Option.mem_toList] at hk
    rcases hk with e | e
    · omega
    · exact h2 k e

section
variable {w0 wr : World} {b1 b2 X N Y M : Nat}
theorem Pair.bits1 (h : Pair w0 wr b1 b2 X N Y M) (hN : N ≤ 140737488355328) (v n : Int) :
    Calls Try.prog 37 #[.pointer (some ⟨b1, 0, none⟩), .int .i64 v, .int .i64 n] wr fun e w' => e = .returned (.tuple #[]) ∧ Pair w0 w' b1 b2 (layX X N v n) (layN N n) Y M := by
  obtain ⟨og1, og2, hW, hF, h1, h2, hB, hb1, hb2, hb⟩ := h
  refine (hW.bits hB.size hN v n).mono ?_
  rintro e w' ⟨rfl, og', hW', hf, hB'⟩
  exact ⟨rfl, Pair.step1 hW hF h1 h2 hB hb1 hb2 hb hW' hf hB'⟩
theorem Pair.bits2 (h : Pair w0 wr b1 b2 X N Y M) (hM : M ≤ 140737488355328) (v n : Int) :
    Calls Try.prog 38 #[.pointer (some ⟨b2, 0, none⟩), .int .i64 v, .int .i64 n] wr fun e w' => e = .returned (.tuple #[]) ∧ Pair w0 w' b1 b2 X N (layX Y M v n) (layN M n) := by
  obtain ⟨og1, og2, hW, hF, h1, h2, hB, hb1, hb2, hb⟩ := h
  refine (hF.bits hB.size hM v n).mono ?_
  rintro e w' ⟨rfl, og', hF', hf, hB'⟩
  exact ⟨rfl, Pair.step2 hW hF h1 h2 hB hb1 hb2 hb hF' hf hB'⟩
theorem Pair.keep (h : Pair w0 wr b1 b2 X N Y M) {w' : World} (hB' : But [] wr w') : Pair w0 w' b1 b2 X N Y M := by
  obtain ⟨og1, og2, hW, hF, h1, h2, hB, hb1, hb2, hb⟩ := h
  exact ⟨og1, og2, hW.but hB' (by simp) (by simp), hF.but hB' (by simp) (by simp), h1, h2, hB.trans hB', hb1, hb2, hb⟩
theorem Pair.text1 (h : Pair w0 wr b1 b2 X N Y M) (hN : N ≤ 140737488355328) :
    Calls Try.prog 28 #[.pointer (some ⟨b1, 0, none⟩)] wr fun e w' => e = .returned (.string (textOf X N)) ∧ Pair w0 w' b1 b2 X N Y M := by
  have h' := h
  obtain ⟨og1, og2, hW, _⟩ := h
  refine (hW.text hN).mono ?_
  rintro e w' ⟨rfl, hB'⟩
  exact ⟨rfl, h'.keep hB'⟩
theorem Pair.text2 (h : Pair w0 wr b1 b2 X N Y M) :
    Calls Try.prog 29 #[.pointer (some ⟨b2, 0, none⟩)] wr fun e w' => e = .returned (.string (textOf Y M)) ∧ wr = w' := by
  obtain ⟨og1, og2, _, hF, _⟩ := h
  exact hF.text
theorem Pair.old (h : Pair w0 wr b1 b2 X N Y M) : But [] w0 wr := by
  obtain ⟨og1, og2, hW, hF, h1, h2, hB, _⟩ := h; exact hB
end
theorem layN_le (N : Nat) (n : Int) : layN N n ≤ N + 407 := by unfold layN; split <;> omega
end Go.Proofs.Ytmafcmfafcjokaa
