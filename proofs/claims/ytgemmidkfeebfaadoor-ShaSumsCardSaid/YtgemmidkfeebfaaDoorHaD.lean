/- Arrays of words in memory, layer 14: laid, read and written whole. -/
import Derived.Test.YtgemmidkfeebfaaDoorHaA
import Derived.Laws.Tables
import Derived.Laws.Cells
set_option maxRecDepth 100000
set_option linter.unusedVariables false
namespace Go.Proofs.YtgemmidkfeebfaaDoor
set_option maxRecDepth 100000
open Go Go.RowKit
theorem Is.row {w : World} {b : Nat} {t : TypeId} {cs : Array Value} (h : Is w b t cs) (cs' : Array Value) : Is (w.setRow b cs') b t cs' := setRow_heap w b cs cs' t (0, 0) h
theorem Is.rowFar {w : World} {b b' : Nat} {t : TypeId} {cs cs' : Array Value} (h : Is w b t cs) (hne : b ≠ b') : Is (w.setRow b' cs') b t cs := (setRow_other w b' b cs' hne).trans h
theorem But.setRow {S : List Nat} {w w' : World} (h : But S w w') {b : Nat} (hp : b ∈ S ∨ w.heap.size ≤ b) (cs : Array Value) : But S w (w'.setRow b cs) :=
  ⟨h.os, h.tape, h.output, by rw [setRow_size]; exact h.size, fun k hk hS => (setRow_other w' b k cs (by
    rcases hp with e | e
    · intro e'; subst e'; exact hS e
    · omega)).trans (h.block k hk hS)⟩
/-- What is told of a type of arrays. -/
def AggT (T : TypeId) (n : Nat) : Prop := (Tryd.prog.info? T).map (·.size) = some n ∧ ∀ w, (isAgg T).run Tryd.prog w = .ok true w
theorem AggT.sizeOf {T : TypeId} {n : Nat} (h : AggT T n) (w : World) : (sizeOf T).run Tryd.prog w = .ok n w := by
  obtain ⟨hi, _⟩ := h
  cases hq : Tryd.prog.info? T with
  | none => simp [hq] at hi
  | some i =>
    have hs : i.size = n := by simpa [hq] using hi
    simp [Go.sizeOf, typeInfo, Sem.run_bind, hq, hs]
theorem agg8 : AggT 30 8 := ⟨by kernel_rfl, fun w => by unfold isAgg; rw [Sem.run_bind, run_underlying Tryd.underlying30 w]; rfl⟩
theorem agg64 : AggT 40 64 := ⟨by kernel_rfl, fun w => by unfold isAgg; rw [Sem.run_bind, run_underlying Tryd.underlying40 w]; rfl⟩
/-- A block is read whole. -/
theorem load_is {T t : TypeId} {w : World} {b : Nat} {cs : Array Value} (h : Is w b t cs) (hT : AggT T cs.size) : (Instr.loadAt T (.pointer (some ⟨b, 0, none⟩))).run Tryd.prog w = .ok (.agg cs) w := by
  have hl := run_loadCells_list (P := Tryd.prog) w ⟨b, 0, none⟩ cs.toList (fun j v hv => by
    have hadd : (⟨b, 0, none⟩ : Addr).add j = ⟨b, j, none⟩ := by unfold Addr.add; split <;> simp_all
    rw [hadd, h.cell, ← hv, Array.getElem?_toList])
  rw [Array.length_toList] at hl
  unfold Instr.loadAt Instr.sureAddr loadVar
  simp [Sem.run_bind, hT.2, hT.sizeOf w, hl]
theorem loadVar_is {T t : TypeId} {w : World} {b : Nat} {cs : Array Value} (h : Is w b t cs) (hT : AggT T cs.size) : (loadVar T ⟨b, 0, none⟩).run Tryd.prog w = .ok (.agg cs) w := load_is h hT
/-- A block is written whole. -/
theorem store_is {T t : TypeId} {w : World} {b : Nat} {old cs : Array Value} (h : Is w b t old) (hT : AggT T cs.size) (ho : old.size = cs.size) (h1 : ∀ v ∈ cs.toList, v.oneCell' = true) : (Instr.storeAt T (.pointer (some ⟨b, 0, none⟩)) (.agg cs)).run Tryd.prog w = .ok () (w.setRow b cs) := by
  have hs := run_storeCells_from (P := Tryd.prog) b t cs.toList 0 old w h (by rw [Array.length_toList]; omega) h1
  rw [show (old.toList.take 0 ++ cs.toList).toArray = cs by simp] at hs
  unfold Instr.storeAt Instr.sureAddr storeVar
  have hc : (Value.agg cs).cells = cs := rfl
  simp [Sem.run_bind, hc, hT.sizeOf w, hs]
section
variable {ops : Array Oper} {rest : List Oper} {o : Oper} {a : Act} {w : World} {Q : Exit → Act → World → Prop}
theorem wpList_load_is (T : TypeId) {b : Nat} {t : TypeId} {cs : Array Value} (hgd : o.guard = none) (x : Operand) (ho : o.op = .load T x) (hx : a.eval x = .pointer (some ⟨b, 0, none⟩)) (hT : AggT T cs.size) (h : Is w b t cs)
    (hK : wpList Tryd.prog ops Q rest (a.put o.dst (.agg cs)) w) : wpList Tryd.prog ops Q (o :: rest) a w := by
  refine wpList_plain hgd fun K hK' => ?_
  unfold Oper.wp execOp
  simp only [ho, hx, load_is h hT, Sem.run_bind, Sem.run_pure, Result.andThen_ok]
  exact hK' _ _ hK
theorem wpList_store_is (T : TypeId) {b : Nat} {t : TypeId} {old cs : Array Value} (hgd : o.guard = none) (x v : Operand) (ho : o.op = .store T x v) (hx : a.eval x = .pointer (some ⟨b, 0, none⟩)) (hv : a.eval v = .agg cs) (hT : AggT T cs.size) (h : Is w b t old) (ho2 : old.size = cs.size) (h1 : ∀ v ∈ cs.toList, v.oneCell' = true)
    (hK : wpList Tryd.prog ops Q rest (a.put o.dst (.tuple #[])) (w.setRow b cs)) : wpList Tryd.prog ops Q (o :: rest) a w := by
  refine wpList_plain hgd fun K hK' => ?_
  unfold Oper.wp execOp
  simp only [ho, hx, hv, store_is h hT ho2 h1, Sem.run_bind, Sem.run_pure, Result.andThen_ok]
  exact hK' _ _ hK
end
/-- Words of 32 bits in memory, the last ones still 0. -/
def uCells (l : List Nat) : List Value := l.map fun x => .int .u32 (x : Nat)
def rowW (L : List Nat) (n : Nat) : Array Value := (uCells (L ++ List.replicate (n - L.length) 0)).toArray
theorem uCells_append (a b : List Nat) : uCells (a ++ b) = uCells a ++ uCells b := by simp [uCells]
theorem rowW_put {L : List Nat} {n : Nat} (x : Nat) (h : L.length < n) : (rowW L n).setIfInBounds L.length (.int .u32 (x : Nat)) = rowW (L ++ [x]) n := by
  obtain ⟨k, hk⟩ : ∃ k, n - L.length = k + 1 := ⟨n - L.length - 1, by omega⟩
  unfold rowW
  rw [hk, List.replicate_succ, List.length_append, show n - (L.length + [x].length) = k by simp; omega, uCells_append, uCells_append, uCells_append]
  apply Array.ext'
  simp [uCells]
theorem rowW_at {L : List Nat} {i : Nat} (h : i < L.length) (n : Nat) : (rowW L n)[i]? = some (.int .u32 (L.getD i 0 : Nat)) := by
  unfold rowW uCells
  rw [List.getElem?_toArray, List.map_append, List.getElem?_append_left (by rw [List.length_map]; exact h), List.getElem?_map, List.getElem?_eq_getElem h, List.getD_eq_getElem?_getD, List.getElem?_eq_getElem h]
  rfl
theorem rowW_size {L : List Nat} {n : Nat} (h : L.length ≤ n) : (rowW L n).size = n := by
  unfold rowW uCells
  simp
  omega
theorem rowW_some {L : List Nat} {n i : Nat} (h : L.length ≤ n) (hi : i < n) : ∃ v, (rowW L n)[i]? = some v := ⟨_, Array.getElem?_eq_getElem (by rw [rowW_size h]; exact hi)⟩
theorem rowW_one {L : List Nat} {n : Nat} : ∀ v ∈ (rowW L n).toList, v.oneCell' = true := by
  intro v hv
  unfold rowW uCells at hv
  rw [List.toList_toArray] at hv
  obtain ⟨y, _, rfl⟩ := List.mem_map.1 hv
  rfl
theorem info64 : (Tryd.prog.info? 40).bind (·.zero) = some (.agg (rowW [] 64)) := by kernel_rfl
theorem zero64 (w : World) : (zeroValue 40).run Tryd.prog w = .ok (.agg (rowW [] 64)) w := by
  have h := info64
  cases hq : Tryd.prog.info? 40 with
  | none => rw [hq] at h; cases h
  | some i =>
    rw [hq] at h
    have hz : i.zero = some (.agg (rowW [] 64)) := h
    simp [Go.zeroValue, typeInfo, Sem.run_bind, hq, hz]
theorem alloc64 (w : World) : (Instr.alloc 40 true (.tuple #[])).run Tryd.prog w = .ok (.pointer (some ⟨w.heap.size, 0, none⟩)) (w.alloc (.cells (rowW [] 64) 40)) := by
  unfold Instr.alloc
  simp only [Sem.run_bind, zero64, Result.andThen_ok]
  rfl
theorem wpList_alloc64 {ops : Array Oper} {rest : List Oper} {o : Oper} {a : Act} {w : World} {Q : Exit → Act → World → Prop} (hgd : o.guard = none) (ho : o.op = .alloc 40)
    (hK : wpList Tryd.prog ops Q rest (a.put o.dst (.pointer (some ⟨w.heap.size, 0, none⟩))) (w.alloc (.cells (rowW [] 64) 40))) : wpList Tryd.prog ops Q (o :: rest) a w := by
  refine wpList_plain hgd fun K hK' => ?_
  unfold Oper.wp execOp
  simp only [ho, alloc64, Sem.run_bind, Sem.run_pure, Result.andThen_ok]
  exact hK' _ _ hK
end Go.Proofs.YtgemmidkfeebfaaDoor
