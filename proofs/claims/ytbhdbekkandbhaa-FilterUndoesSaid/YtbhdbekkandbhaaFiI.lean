/- Rows of bytes in memory that are written in place. -/
import Derived.Test.YtbhdbekkandbhaaFiH
import Derived.Test.YtbhdbekkandbhaaRegN
import Derived.Laws.MakeOwn
set_option maxRecDepth 100000
set_option linter.unusedVariables false
namespace Go.Proofs.Ytbhdbekkandbhaa
set_option maxRecDepth 100000
open Go Go.RowKit
/-- A block reads as these bytes, and they may be written. -/
def RowF (w : World) (g : Nat) (l : List UInt8) : Prop := ∃ (cs : Array Value) (fr : Nat × Nat), w.heap[g]? = some (.cells cs 5 fr) ∧
  ∀ i, i < l.length → cs[i]? = some (.int .u8 ((l.getD i 0).toNat : Nat)) ∧ (decide (fr.1 ≤ i) && decide (i < fr.2)) = false
section
variable {w w' : World} {g : Nat} {l : List UInt8}
theorem RowF.lt (h : RowF w g l) : g < w.heap.size := by
  obtain ⟨cs, fr, h1, _⟩ := h
  exact (Array.getElem?_eq_some_iff.1 h1).1
theorem RowF.cell (h : RowF w g l) {i : Nat} (hi : i < l.length) : w.cell? ⟨g, i, none⟩ = some (.int .u8 ((l.getD i 0).toNat : Nat)) := by
  obtain ⟨cs, fr, h1, h2⟩ := h
  have := (h2 i hi).1
  simp [World.cell?, h1, this]
theorem RowF.free (h : RowF w g l) {i : Nat} (hi : i < l.length) : w.frozen? ⟨g, i, none⟩ = false := by
  obtain ⟨cs, fr, h1, h2⟩ := h
  have := (h2 i hi).2
  simp only [World.frozen?, h1]
  exact this
theorem RowF.but (h : RowF w g l) (k : But [] w w') : RowF w' g l := by
  have hl := h.lt
  obtain ⟨cs, fr, h1, h2⟩ := h
  exact ⟨cs, fr, (k.block g hl (by simp)).trans h1, h2⟩
theorem RowF.keep (h : RowF w g l) {g2 : Nat} (k : But [g2] w w') (hne : g ≠ g2) : RowF w' g l := by
  have hl := h.lt
  obtain ⟨cs, fr, h1, h2⟩ := h
  exact ⟨cs, fr, (k.block g hl (by simpa using hne)).trans h1, h2⟩
theorem RowF.put (h : RowF w g l) (i : Nat) (x : UInt8) (hi : i < l.length) : RowF (w.setCell ⟨g, i, none⟩ (.int .u8 (x.toNat : Nat))) g (l.set i x) := by
  obtain ⟨cs, fr, h1, h2⟩ := h
  refine ⟨cs.setIfInBounds i (.int .u8 (x.toNat : Nat)), fr, by simp [World.setCell, Array.getElem?_modify, h1], fun j hj => ?_⟩
  rw [List.length_set] at hj
  obtain ⟨c1, c2⟩ := h2 j hj
  refine ⟨?_, c2⟩
  by_cases e : i = j
  · subst e
    have hs : i < cs.size := (Array.getElem?_eq_some_iff.1 c1).1
    rw [Array.getElem?_setIfInBounds_self, if_pos hs]
    congr 3
    rw [getD_lt (by rw [List.length_set]; exact hi), List.getElem_set_self]
  · rw [Array.getElem?_setIfInBounds_ne e, c1]
    congr 3
    rw [List.getD_eq_getElem?_getD, List.getD_eq_getElem?_getD, List.getElem?_set_ne e]
theorem RowF.far (h : RowF w g l) {p : Addr} (hp : g ≠ p.block) (u : Value) : RowF (w.setCell p u) g l := by
  obtain ⟨cs, fr, h1, h2⟩ := h
  exact ⟨cs, fr, (Below.heap_setCell w p u g hp).trans h1, h2⟩
theorem RowF.text (h : RowF w g l) (cap : Nat) : (convert 31 9 (.slice (some ⟨g, 0, none⟩) l.length cap)).run Try.prog w = .ok (.string (strL l)) w :=
  conv_atF fun j hj => by rw [h.cell hj, getD_lt hj]
end
/-- A string's bytes, laid anew. -/
def rowOf (w : World) (s : ByteArray) : World := w.drew.alloc (.cells (bytesRow s (grownCap w s.size 0 5)) 5 ((bytesRow s (grownCap w s.size 0 5)).size, (bytesRow s (grownCap w s.size 0 5)).size + 1))
theorem run_rowOf (w : World) (s : ByteArray) : (convert 9 31 (.string s)).run Try.prog w = .ok (.slice (some ⟨w.heap.size, 0, none⟩) s.size (grownCap w s.size 0 5)) (rowOf w s) :=
  run_bytes_of_string w 9 31 5 s Try.underlying9 Try.underlying31 Try.underlying5
theorem rowOf_but (w : World) (s : ByteArray) : But [] w (rowOf w s) := ((But.refl [] w).drew).alloc _
theorem rowOf_row (w : World) (s : ByteArray) : RowF (rowOf w s) w.heap.size s.data.toList := by
  refine ⟨_, _, heap_alloc_new w.drew _, fun i hi => ?_⟩
  rw [Array.length_toList] at hi
  have hi2 : i < s.size := hi
  have hsz : i < (s.data.map (fun b => Value.int .u8 b.toNat)).size := by rw [Array.size_map]; exact hi
  have hb : i < (bytesRow s (grownCap w s.size 0 5)).size := by unfold bytesRow; rw [Array.size_append]; omega
  refine ⟨?_, by simp; omega⟩
  unfold bytesRow
  rw [Array.getElem?_append_left hsz, getD_byte s hi2]
  simp
  exact ⟨_, Array.getElem?_eq_getElem hi, rfl⟩
theorem grownCap_le' (w : World) (n : Nat) (e : TypeId) : n ≤ grownCap w n 0 e := grownCap_ge w n 0 e
/-- Noughts, laid anew. -/
def noughtsF (w : World) (n : Nat) : World := w.alloc (.cells (madeCells (Value.int .u8 0).cells n) 5)
theorem run_noughts (w : World) {n : Nat} (hn : n ≤ 140737488355328) : (Instr.makeSlice 31 (.int .i64 (n : Int)) (.int .i64 (n : Int))).run Try.prog w = .ok (.slice (some ⟨w.heap.size, 0, none⟩) n n) (noughtsF w n) := by
  obtain ⟨i0, hi0, hz0, hz1, hz2⟩ := info_parts info_u8F
  have h := run_make (P := Try.prog) w 31 5 i0 (.int .u8 0) Try.underlying31 hi0 hz0 .i64 .i64 (n : Int) (n : Int) (by omega) (by omega) (by rw [hz2]; omega) (by omega)
  rw [hz1] at h
  simpa [noughtsF] using h
theorem noughtsF_but (w : World) (n : Nat) : But [] w (noughtsF w n) := (But.refl [] w).alloc _
theorem noughtsF_row (w : World) (n : Nat) : RowF (noughtsF w n) w.heap.size (List.replicate n 0) := by
  refine ⟨_, _, heap_alloc_new w _, fun i hi => ?_⟩
  rw [List.length_replicate] at hi
  refine ⟨?_, by simp⟩
  rw [getD_zeros]
  have e : (Value.int .u8 0).cells = #[.int .u8 0] := rfl
  unfold madeCells
  rw [e]
  simp [hi, Nat.mod_one]
/-- What is read of an array's value. -/
theorem pre_index {a b c : Nat} {kind : Nat} (hk : kind ≤ 4) (ha : a < 256) (hb : b < 256) (w : World) : (Instr.index 34 (preV a b c) (.int .i64 (kind : Int))).run Try.prog w = .ok (.int .u8 (predF (kind : Int) a b c : Nat)) w := by
  unfold preV
  match kind, hk with
  | 0, _ => rw [show predF ((0 : Nat) : Int) a b c = 0 from predF_none (by decide) (by decide) (by decide) (by decide) a b c]; rfl
  | 1, _ => rw [show predF ((1 : Nat) : Int) a b c = a from predF_1 a b c]; rfl
  | 2, _ => rw [show predF ((2 : Nat) : Int) a b c = b from predF_2 a b c]; rfl
  | 3, _ => rw [show predF ((3 : Nat) : Int) a b c = (a + b) / 2 from predF_3 a b c]; rfl
  | 4, _ => rfl
end Go.Proofs.Ytbhdbekkandbhaa
