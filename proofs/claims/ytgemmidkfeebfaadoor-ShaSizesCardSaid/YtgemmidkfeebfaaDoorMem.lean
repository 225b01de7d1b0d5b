/- Words for memory: a block that is known whole, a slice of bytes that reads as a list, and what a call leaves as it was. -/
import Derived.Below
import Derived.Laws.OwnMore
import Derived.Deep.Draws
import Derived.Laws.Rows
namespace Go.Proofs.YtgemmidkfeebfaaDoor
set_option maxRecDepth 100000
open Go Go.RowKit

/-- Block b is just these cells; none is frozen. -/
def Is (w : World) (b : Nat) (t : TypeId) (cs : Array Value) : Prop := w.heap[b]? = some (.cells cs t (0, 0))
/-- Whatever is no block of S is as it was. -/
structure But (S : List Nat) (w w' : World) : Prop where
  os : w'.os = w.os
  tape : w'.tape = w.tape
  output : w'.output = w.output
  size : w.heap.size ≤ w'.heap.size
  block : ∀ k, k < w.heap.size → k ∉ S → w'.heap[k]? = w.heap[k]?
/-- A slice's address and length: it reads as these bytes. -/
def ByteRow (w : World) (A : Option Addr) (n : Nat) (l : List UInt8) : Prop :=
  l.length = n ∧ (0 < n → ∃ g o, A = some ⟨g, o, none⟩ ∧ ∀ (i : Nat) (h : i < l.length), w.cell? ⟨g, o + i, none⟩ = some (.int .u8 l[i].toNat))
/-- No cell of the slice lies in block b. -/
def Off (A : Option Addr) (b : Nat) : Prop := ∀ a, A = some a → a.block ≠ b

section
variable {w w' w'' : World} {b : Nat} {t : TypeId} {cs : Array Value} {S T : List Nat}
theorem Is.lt (h : Is w b t cs) : b < w.heap.size := (Array.getElem?_eq_some_iff.1 h).1
theorem Is.cell (h : Is w b t cs) (i : Nat) : w.cell? ⟨b, i, none⟩ = cs[i]? := by unfold Is at h; simp [World.cell?, h]
theorem Is.free (h : Is w b t cs) (i : Nat) : w.frozen? ⟨b, i, none⟩ = false := by unfold Is at h; simp [World.frozen?, h]
theorem Is.fresh (w : World) (t : TypeId) (cs : Array Value) : Is (w.alloc (.cells cs t)) w.heap.size t cs := by unfold Is World.alloc; simp
theorem Is.drew (h : Is w b t cs) : Is w.drew b t cs := h
theorem Is.drewN (h : Is w b t cs) (n : Nat) : Is (w.drewN n) b t cs := h
theorem Is.alloc (h : Is w b t cs) (o : Obj) : Is (w.alloc o) b t cs := (Below.heap_alloc w o b h.lt).trans h
theorem Is.put (h : Is w b t cs) (i : Nat) (u : Value) : Is (w.setCell ⟨b, i, none⟩ u) b t (cs.setIfInBounds i u) := by
  unfold Is at h ⊢; simp [World.setCell, Array.getElem?_modify, h]
theorem Is.far (h : Is w b t cs) {p : Addr} (hp : b ≠ p.block) (u : Value) : Is (w.setCell p u) b t cs := (Below.heap_setCell w p u b hp).trans h
theorem Is.but (h : Is w b t cs) (hw : But S w w') (hb : b ∉ S) : Is w' b t cs := (hw.block b h.lt hb).trans h
theorem Is.below (h : Is w b t cs) {B : Nat} (hw : Below B w w') (hb : b < B) : Is w' b t cs := (hw.block b hb).trans h
theorem Is.grown (h : Is w b t cs) {row : Option Nat} (hw : w.grownBy w' row) (hb : some b ≠ row) : Is w' b t cs := (hw.block b h.lt hb).trans h
theorem Is.ne (h : Is w b t cs) {b' : Nat} {t' : TypeId} {cs' : Array Value} (h' : Is w b' t' cs') (hne : t ≠ t') : b ≠ b' := by
  rintro rfl
  exact hne (Obj.cells.inj (Option.some.inj (h.symm.trans h'))).2.1

theorem But.refl (S : List Nat) (w : World) : But S w w := ⟨rfl, rfl, rfl, Nat.le_refl _, fun _ _ _ => rfl⟩
theorem But.trans (h : But S w w') (k : But S w' w'') : But S w w'' :=
  ⟨k.os.trans h.os, k.tape.trans h.tape, k.output.trans h.output, Nat.le_trans h.size k.size, fun i hi hS => (k.block i (Nat.lt_of_lt_of_le hi h.size) hS).trans (h.block i hi hS)⟩
theorem But.more (h : But S w w') (hS : ∀ k ∈ S, k ∈ T) : But T w w' := ⟨h.os, h.tape, h.output, h.size, fun k hk hT => h.block k hk (fun e => hT (hS k e))⟩
theorem But.drew (h : But S w w') : But S w w'.drew := ⟨h.os, h.tape, h.output, h.size, h.block⟩
theorem But.drewN (h : But S w w') (n : Nat) : But S w (w'.drewN n) := ⟨h.os, h.tape, h.output, h.size, h.block⟩
theorem But.alloc (h : But S w w') (o : Obj) : But S w (w'.alloc o) :=
  h.trans ⟨rfl, rfl, rfl, by simp, fun k hk _ => Below.heap_alloc _ _ _ hk⟩
theorem But.setCell (h : But S w w') {p : Addr} (hp : p.block ∈ S ∨ w.heap.size ≤ p.block) (u : Value) : But S w (w'.setCell p u) :=
  ⟨h.os, h.tape, h.output, by have := h.size; simpa using this, fun k hk hS => (Below.heap_setCell w' p u k (by
    rcases hp with e | e
    · intro e'; subst e'; exact hS e
    · omega)).trans (h.block k hk hS)⟩
theorem But.grown (h : But S w w') {row : Option Nat} (hw : w'.grownBy w'' row) (hr : ∀ g, row = some g → g ∈ S ∨ w.heap.size ≤ g) : But S w w'' :=
  ⟨hw.os.trans h.os, hw.tape.trans h.tape, hw.output.trans h.output, Nat.le_trans h.size hw.size, fun k hk hS => (hw.block k (Nat.lt_of_lt_of_le hk h.size) (fun e => by
    rcases hr k e.symm with g | g
    · exact hS g
    · omega)).trans (h.block k hk hS)⟩
/-- What may have been written lies from B on: below B all is as it was. -/
theorem But.below (h : But S w w') {B : Nat} {w0 : World} (h0 : Below B w0 w) (hB : B ≤ w.heap.size) (hS : ∀ k ∈ S, B ≤ k) : Below B w0 w' :=
  h0.trans ⟨h.os, h.tape, h.output, h.size, fun k hk => h.block k (Nat.lt_of_lt_of_le hk hB) (fun e => by have := hS k e; omega)⟩
theorem But.cell (h : But S w w') {a : Addr} {v : Value} (hc : w.cell? a = some v) (ha : a.block ∉ S) : w'.cell? a = some v :=
  (World.cell?_of_block (h.block a.block (World.block_lt_of_cell? w a hc) ha)).trans hc

variable {A : Option Addr} {n : Nat} {l : List UInt8}
theorem ByteRow.but (h : ByteRow w A n l) (hw : But S w w') (hA : ∀ k ∈ S, Off A k) : ByteRow w' A n l :=
  ⟨h.1, fun hn => by
    obtain ⟨g, o, e, hc⟩ := h.2 hn
    exact ⟨g, o, e, fun i hi => hw.cell (hc i hi) (fun hS => hA g hS _ e rfl)⟩⟩
theorem ByteRow.drew (h : ByteRow w A n l) : ByteRow w.drew A n l := h
theorem ByteRow.at (h : ByteRow w A n l) {i : Nat} (hi : i < n) : ∃ g o, A = some ⟨g, o, none⟩ ∧ w.cell? ⟨g, o + i, none⟩ = some (.int .u8 (l[i]'(by have := h.1; omega)).toNat) := by
  obtain ⟨g, o, e, hc⟩ := h.2 (by omega)
  exact ⟨g, o, e, hc i (by have := h.1; omega)⟩
/-- A cut from k on. -/
theorem ByteRow.cut (h : ByteRow w A n l) {k c : Nat} (hk : k ≤ n) (hc : n ≤ c) : ByteRow w (if c = k then A else A.map (·.add k)) (n - k) (l.drop k) := by
  refine ⟨by rw [List.length_drop, h.1], fun hn => ?_⟩
  obtain ⟨g, o, rfl, hcell⟩ := h.2 (by omega)
  rw [if_neg (by omega)]
  refine ⟨g, o + k, by simp [Addr.add], fun i hi => ?_⟩
  have hl := h.1
  rw [List.length_drop] at hi
  have := hcell (k + i) (by omega)
  rw [List.getElem_drop, Nat.add_assoc]
  exact this
theorem Off.cut {k c : Nat} (h : Off A b) : Off (if c = k then A else A.map (·.add k)) b := by
  split
  · exact h
  · intro a ha
    rcases A with _ | a0
    · simp at ha
    · simp only [Option.map_some, Option.some.injEq] at ha
      subst ha
      have := h a0 rfl
      unfold Addr.add
      split <;> exact this
end
end Go.Proofs.YtgemmidkfeebfaaDoor
