/- The library's builder of strings on lists of bytes: what a call of the program's own has of it. -/
import Derived.Test.YtedffeimcccobaaBuA
import Derived.Test.YtedffeimcccobaaCkA
set_option maxRecDepth 100000
set_option linter.unusedVariables false
namespace Go.Proofs.Ytedffeimcccobaa
set_option maxRecDepth 100000
open Go Go.RowKit
/-- A builder of the call's own, that holds these bytes. -/
def Bld (w : World) (base b : Nat) (l : List UInt8) : Prop := Lib.IsBuilder 54 5 base b (Lib.byteCells l) w
theorem cells_ofB (l : List UInt8) : Lib.strCells (strL l) = Lib.byteCells l := by
  unfold Lib.strCells Lib.byteCells
  rw [show (strL l).data.toList = l from strL_list l]
theorem byteCells_ap (a b : List UInt8) : Lib.byteCells (a ++ b) = Lib.byteCells a ++ Lib.byteCells b := by
  unfold Lib.byteCells; rw [List.map_append]
theorem bldAt_but {w w' : World} {base b : Nat} {p : Value} {bs : List Value} (h : Lib.BuilderAt 54 5 base b p bs w) (hw : But [] w w') : Lib.BuilderAt 54 5 base b p bs w' := by
  have hlt := h.lt
  obtain ⟨hB, v, hb, hown, hne⟩ := h
  refine ⟨hB, v, (hw.block b hlt (by simp)).trans hb, ?_, hne⟩
  refine ⟨hown.1, ?_⟩
  rcases hown.2 with h2 | ⟨g, cap, cur, hv, hg, hh, r⟩
  · exact .inl h2
  · refine .inr ⟨g, cap, cur, hv, hg, ?_, r⟩
    have hlt : g < w.heap.size := (hown.lt g (by rw [hv]; rfl)).2
    rw [hw.block g hlt (by simp)]
    exact hh
theorem Bld.but {w w' : World} {base b : Nat} {l : List UInt8} (h : Bld w base b l) (hw : But [] w w') : Bld w' base b l := by
  rcases h with h | h
  · exact .inl (bldAt_but h hw)
  · exact .inr (bldAt_but h hw)
theorem Bld.lt {w : World} {base b : Nat} {l : List UInt8} (h : Bld w base b l) : base ≤ b ∧ b < w.heap.size := by
  rcases h with h | h
  · exact ⟨h.1, h.lt⟩
  · exact ⟨h.1, h.lt⟩
theorem Bld.fresh (w : World) {base : Nat} (hb : base ≤ w.heap.size) : Bld (w.alloc (.cells #[.pointer none, .slice none 0 0] 54)) base w.heap.size [] :=
  Or.inl ⟨hb, .slice none 0 0, heap_alloc_new w _, World.ownsRow_nil _ _ _ _, by simp [Value.ownBlock]⟩
theorem bld_put {w0 w : World} {b : Nat} {l : List UInt8} (s : List UInt8) (h : Bld w w0.heap.size b l) (hB : But [] w0 w) (hlen : l.length + s.length ≤ 140737488355328) :
    Calls Try.prog 43 #[.pointer (some ⟨b, 0, none⟩), .string (strL s)] w fun e w' => e = .returned (.tuple #[.int .i64 (s.length : Nat), .nilIface]) ∧ Bld w' w0.heap.size b (l ++ s) ∧ But [] w0 w' := by
  refine (bld_write w0.heap.size b (Lib.byteCells l) (strL s) w h (by rw [strL_size, Lib.byteCells_length]; exact hlen) hB.size).mono ?_
  rintro e w1 ⟨rfl, h1, h2⟩
  rw [strL_size]
  refine ⟨rfl, ?_, ?_⟩
  · unfold Bld
    rw [byteCells_ap, ← cells_ofB s]
    exact .inr h1
  · exact ⟨h2.os.trans hB.os, h2.tape.trans hB.tape, h2.output.trans hB.output, Nat.le_trans hB.size h2.size, fun i hi _ => (h2.block i hi).trans (hB.block i hi (by simp))⟩
theorem bld_text {w0 w : World} {b : Nat} {l : List UInt8} (h : Bld w w0.heap.size b l) (hB : But [] w0 w) :
    Calls Try.prog 28 #[.pointer (some ⟨b, 0, none⟩)] w fun e w' => e = .returned (.string (strL l)) ∧ But [] w0 w' := by
  refine (Builder_String_any w0.heap.size b l w h hB.size).mono ?_
  rintro e w1 ⟨rfl, h2⟩
  exact ⟨rfl, h2.os.trans hB.os, h2.tape.trans hB.tape, h2.output.trans hB.output, Nat.le_trans hB.size h2.size, fun i hi _ => (h2.block i hi).trans (hB.block i hi (by simp))⟩
end Go.Proofs.Ytedffeimcccobaa
