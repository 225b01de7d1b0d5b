/- The document's chunks of a file. -/
import Derived.Test.YtedffeimcccobaaCkA
import Derived.Test.YtedffeimcccobaaZlD
import Derived.BigRegion
import Derived.Deep.RegionWith
set_option maxRecDepth 100000
set_option linter.unusedVariables false
namespace Go.Proofs.Ytedffeimcccobaa
set_option maxRecDepth 100000
open Go Go.RowKit
theorem OwnC.pushed {w wr w' : World} {v v' : Value} {L : List Ck} {x : Ck} {cs : Array Value} {t : TypeId} (hB : But [] w wr) (hO : OwnC wr w.heap.size v L)
    (h1 : w'.ownsRow w.heap.size 30 2 v' (L.length + 1) (ckCells L ++ [.string (strL x.1), .string (strL x.2)])) (hg : (wr.alloc (.cells cs t)).grownBy w' v.ownBlock) :
    OwnC w' w.heap.size v' (L ++ [x]) ∧ But [] w w' := by
  refine ⟨?_, (hB.alloc _).grown hg (fun g e => .inr (hO.lt g e).1)⟩
  unfold OwnC
  rw [List.length_append, ckCells_append]
  simpa [ckCells] using h1
theorem OwnC.pushedD {w wr w' : World} {v v' : Value} {L : List Ck} {x : Ck} {cs : Array Value} {t : TypeId} (hB : But [] w wr) (hO : OwnC wr w.heap.size v L)
    (h1 : w'.ownsRow w.heap.size 30 2 v' (L.length + 1) (ckCells L ++ [.string (strL x.1), .string (strL x.2)])) (hg : ((wr.alloc (.cells cs t)).drew).grownBy w' v.ownBlock) :
    OwnC w' w.heap.size v' (L ++ [x]) ∧ But [] w w' := by
  refine ⟨?_, ((hB.alloc _).drew).grown hg (fun g e => .inr (hO.lt g e).1)⟩
  unfold OwnC
  rw [List.length_append, ckCells_append]
  simpa [ckCells] using h1
/-- Chunks and an error, the chunks in a slice of the call's own. -/
def GotC (w : World) (r : List Ck × Int) (e : Ending) (w' : World) : Prop := ∃ v, e = .returned (.tuple #[v, .int .i64 r.2]) ∧ OwnC w' w.heap.size v r.1 ∧ But [] w w'
theorem letter_not {t : List UInt8} {k : Nat} (hk : k < t.length) (h : letterB t[k] = false) : rightT t = false := by
  unfold rightT
  rw [Bool.and_eq_false_iff]
  right
  rw [List.all_eq_false]
  exact ⟨t[k], List.getElem_mem hk, by rw [h]; decide⟩
theorem letter_next {t : List UInt8} {k : Nat} (hk : k < t.length) (h : letterB t[k] = true) (ha : (t.take k).all letterB = true) : (t.take (k + 1)).all letterB = true := by
  rw [List.take_succ_eq_append_getElem hk, List.all_append, ha]
  simp [h]
theorem right_whole {t : List UInt8} (h4 : t.length = 4) (ha : (t.take 4).all letterB = true) : rightT t = true := by
  unfold rightT
  rw [List.take_of_length_le (by omega)] at ha
  rw [ha, h4]; rfl
theorem right_long {t : List UInt8} (h4 : ¬ t.length = 4) : rightT t = false := by
  unfold rightT
  rw [decide_eq_false h4]; rfl
theorem byteC_run {s : ByteArray} {k : Nat} (hk : k < s.size) (w : World) : (Instr.index 9 (.string s) (.int .i64 (k : Int))).run Try.prog w = .ok (.int .u8 ((s.data.toList[k]'(by simpa using hk)).toNat : Nat)) w := by
  rw [run_index_string w 9 s .i64 _ Try.underlying9, dif_pos (by omega)]
  simp
  rfl
end Go.Proofs.Ytedffeimcccobaa
