/- Chunks in memory: what a slice of them reads as, slices of the call's own, whether two are the same. -/
import Derived.Test.YtgemmidkfeebfaaDoorChM
import Derived.Test.YtgemmidkfeebfaaDoorMem
import Derived.Test.YtgemmidkfeebfaaDoorChecked
import Derived.Laws.StructEq
import Derived.WalkKit
import Derived.Handy
import Derived.Lib.Hide
import Derived.Outline
import Derived.Deep.Slices
import Derived.ProofKit
import Derived.OpenShut
import Derived.Deep.QuietTactic
import Derived.BigQuiet
import Derived.Deep.DeepCutAuto
import Derived.Deep.CutRange
import Derived.OwnWalk
set_option maxRecDepth 100000
namespace Go.Proofs.YtgemmidkfeebfaaDoor
set_option maxRecDepth 100000
open Go Go.RowKit Go.ChangeShapes Go.WideShapes

theorem But.freshC {w w1 w2 : World} {S : List Nat} (h : But [] w w1) (k : But S w1 w2) (hS : ∀ i ∈ S, w.heap.size ≤ i) : But [] w w2 :=
  ⟨k.os.trans h.os, k.tape.trans h.tape, k.output.trans h.output, Nat.le_trans h.size k.size, fun i hi _ =>
    (k.block i (Nat.lt_of_lt_of_le hi h.size) (fun e => by have := hS i e; omega)).trans (h.block i hi (by simp))⟩
theorem But.belowC {w w' : World} (h : But [] w w') : Below w.heap.size w w' := ⟨h.os, h.tape, h.output, h.size, fun k hk => h.block k hk (by simp)⟩
def ckVal (c : Ck) : Value := .agg #[.string (strL c.1), .string (strL c.2)]
theorem strL_inj {a b : List UInt8} (h : strL a = strL b) : a = b := by rw [← strL_list a, h, strL_list]
theorem str_beq (a b : ByteArray) : (a.toList == b.toList) = decide (a = b) := by
  rw [ByteArray.toList_eq, ByteArray.toList_eq]
  by_cases h : a = b
  · subst h; simp
  · have h2 : ¬ a.data.toList = b.data.toList := fun e => h (by apply ByteArray.ext; apply Array.ext'; exact e)
    rw [decide_eq_false h, beq_eq_false_iff_ne]
    exact h2
def ckCells (L : List Ck) : List Value := L.flatMap fun c => [.string (strL c.1), .string (strL c.2)]
theorem ckCells_append (L M : List Ck) : ckCells (L ++ M) = ckCells L ++ ckCells M := by simp [ckCells]
theorem ckCells_at : ∀ (L : List Ck) (i : Nat) (h : i < L.length), (ckCells L)[i * 2]? = some (.string (strL L[i].1)) ∧ (ckCells L)[i * 2 + 1]? = some (.string (strL L[i].2))
  | x :: L, 0, _ => by simp [ckCells]
  | x :: L, i + 1, h => by
    have := ckCells_at L i (by simpa using h)
    have e : ckCells (x :: L) = .string (strL x.1) :: .string (strL x.2) :: ckCells L := by simp [ckCells]
    rw [e, show (i + 1) * 2 = i * 2 + 1 + 1 from by omega]
    simpa using this
theorem length_ckCells (L : List Ck) : (ckCells L).length = L.length * 2 := by
  induction L with
  | nil => rfl
  | cons x L ih => simp only [ckCells, List.flatMap_cons, List.length_append] at ih ⊢; rw [ih]; simp; omega
/-- A slice reads as these chunks. -/
def Cks (w : World) (A : Option Addr) (n : Nat) (L : List Ck) : Prop :=
  L.length = n ∧ (0 < n → ∃ g o, A = some ⟨g, o, none⟩ ∧ g < w.heap.size ∧ ∀ (i : Nat) (h : i < L.length), w.cell? ⟨g, o + i * 2, none⟩ = some (.string (strL L[i].1)) ∧ w.cell? ⟨g, o + i * 2 + 1, none⟩ = some (.string (strL L[i].2)))
theorem Cks.but {w w' : World} {A : Option Addr} {n : Nat} {L : List Ck} (h : Cks w A n L) (hw : But [] w w') : Cks w' A n L :=
  ⟨h.1, fun hn => by
    obtain ⟨g, o, e, hg, hc⟩ := h.2 hn
    exact ⟨g, o, e, Nat.lt_of_lt_of_le hg hw.size, fun i hi => ⟨hw.cell (hc i hi).1 (by simp), hw.cell (hc i hi).2 (by simp)⟩⟩⟩
theorem Cks.at {w : World} {A : Option Addr} {n : Nat} {L : List Ck} (h : Cks w A n L) {i : Nat} (hi : i < n) :
    ∃ g o c, A = some ⟨g, o, none⟩ ∧ g < w.heap.size ∧ w.cell? ⟨g, o + i * 2, none⟩ = some (.string (strL c.1)) ∧ w.cell? ⟨g, o + i * 2 + 1, none⟩ = some (.string (strL c.2)) ∧ L[i]? = some c := by
  obtain ⟨g, o, e, hg, hc⟩ := h.2 (by omega)
  have hl : i < L.length := by have := h.1; omega
  exact ⟨g, o, _, e, hg, (hc i hl).1, (hc i hl).2, List.getElem?_eq_getElem hl⟩
theorem Cks.nil (w : World) (A : Option Addr) : Cks w A 0 [] := ⟨rfl, fun h => absurd h (by omega)⟩
theorem Cks.news {w : World} {g o n : Nat} {L : List Ck} (h : Cks w (some ⟨g, o, none⟩) n L) (hn : 0 < n) : ∀ j u, (ckCells L)[j]? = some u → w.cell? ((⟨g, o, none⟩ : Addr).add j) = some u := by
  intro j u hu
  obtain ⟨g', o', e, _, hc⟩ := h.2 hn
  injection e with e
  injection e with e1 e2
  subst e1 e2
  have hj : j < L.length * 2 := by
    have := (List.getElem?_eq_some_iff.1 hu).1
    rwa [length_ckCells] at this
  obtain ⟨h0, h1⟩ := ckCells_at L (j / 2) (by omega)
  obtain ⟨c0, c1⟩ := hc (j / 2) (by omega)
  rw [Go.WideShapes.add_plain]
  have hr : j = j / 2 * 2 ∨ j = j / 2 * 2 + 1 := by omega
  rcases hr with e | e
  · rw [← e] at h0 c0; rw [c0, ← h0, hu]
  · rw [← e] at h1; rw [Nat.add_assoc, ← e] at c1; rw [c1, ← h1, hu]
end Go.Proofs.YtgemmidkfeebfaaDoor
