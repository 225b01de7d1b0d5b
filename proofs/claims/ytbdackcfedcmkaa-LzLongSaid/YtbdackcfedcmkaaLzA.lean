/- Tokens in memory: what a slice of them reads as, slices of the call's own, whether two are the same. -/
import Derived.Test.YtbdackcfedcmkaaLzM
import Derived.Test.YtbdackcfedcmkaaMem
import Derived.Test.YtbdackcfedcmkaaChecked
import Derived.Laws.StructEq
import Derived.WalkKit
import Derived.Handy
import Derived.Lib.Hide
import Derived.Outline
import Derived.Deep.Slices
import Derived.ProofKit
import Derived.OpenShut
import Derived.Deep.QuietTactic
import Derived.BigQuiet
import Derived.Deep.DeepCutAuto
import Derived.Deep.CutRange
set_option maxRecDepth 100000
namespace Go.Proofs.Ytbdackcfedcmkaa
set_option maxRecDepth 100000
open Go Go.RowKit Go.ChangeShapes Go.WideShapes

theorem But.fresh {w w1 w2 : World} {S : List Nat} (h : But [] w w1) (k : But S w1 w2) (hS : ∀ i ∈ S, w.heap.size ≤ i) : But [] w w2 :=
  ⟨k.os.trans h.os, k.tape.trans h.tape, k.output.trans h.output, Nat.le_trans h.size k.size, fun i hi _ =>
    (k.block i (Nat.lt_of_lt_of_le hi h.size) (fun e => by have := hS i e; omega)).trans (h.block i hi (by simp))⟩
theorem But.belowNew {w w' : World} (h : But [] w w') : Below w.heap.size w w' := ⟨h.os, h.tape, h.output, h.size, fun k hk => h.block k hk (by simp)⟩
/-- A token: its length, its distance, its byte. -/
abbrev T3 := Int × Int × Int
def tkVal (t : T3) : Value := .agg #[.int .i64 t.2.2, .int .i64 t.1, .int .i64 t.2.1]
theorem cells_tok : Try.prog.cellsOf 34 = 3 := by kernel_rfl
theorem tok_eql (w : World) (a b c d e f : Int) : (binOp .eql 34 (.agg #[.int .i64 a, .int .i64 b, .int .i64 c]) (.agg #[.int .i64 d, .int .i64 e, .int .i64 f])).run Try.prog w = .ok (.bool (decide (a = d ∧ b = e ∧ c = f))) w := by
  rw [run_eql_struct, show (10000 : Nat) = 9998 + 1 + 1 from rfl, run_equalIn_agg w _ _ _ _ (by kernel_rfl) (by kernel_rfl)]
  have hf : (Try.prog.fieldsOf 34).toList = [⟨ "Byte", 3, 0, false, "", "", 0⟩, ⟨ "Len", 3, 1, false, "", "", 8⟩, ⟨ "Dist", 3, 2, false, "", "", 16⟩] := by kernel_rfl
  rw [hf]
  by_cases h1 : a = d <;> by_cases h2 : b = e <;> by_cases h3 : c = f <;> simp [go_sem, Op.eqFields, h1, h2, h3]
theorem tok_neq (w : World) (a b c d e f : Int) : (binOp .neq 34 (.agg #[.int .i64 a, .int .i64 b, .int .i64 c]) (.agg #[.int .i64 d, .int .i64 e, .int .i64 f])).run Try.prog w = .ok (.bool (!decide (a = d ∧ b = e ∧ c = f))) w := by
  rw [run_neq_struct, show (10000 : Nat) = 9998 + 1 + 1 from rfl, run_equalIn_agg w _ _ _ _ (by kernel_rfl) (by kernel_rfl)]
  have hf : (Try.prog.fieldsOf 34).toList = [⟨ "Byte", 3, 0, false, "", "", 0⟩, ⟨ "Len", 3, 1, false, "", "", 8⟩, ⟨ "Dist", 3, 2, false, "", "", 16⟩] := by kernel_rfl
  rw [hf]
  by_cases h1 : a = d <;> by_cases h2 : b = e <;> by_cases h3 : c = f <;> simp [go_sem, Op.eqFields, h1, h2, h3]

def tkCells (L : List T3) : List Value := L.flatMap fun t => [.int .i64 t.2.2, .int .i64 t.1, .int .i64 t.2.1]
theorem tkCells_append (L M : List T3) : tkCells (L ++ M) = tkCells L ++ tkCells M := by simp [tkCells]
theorem tkCells_at : ∀ (L : List T3) (i : Nat) (h : i < L.length), (tkCells L)[i * 3]? = some (.int .i64 L[i].2.2) ∧ (tkCells L)[i * 3 + 1]? = some (.int .i64 L[i].1) ∧ (tkCells L)[i * 3 + 2]? = some (.int .i64 L[i].2.1)
  | x :: L, 0, _ => by simp [tkCells]
  | x :: L, i + 1, h => by
    have := tkCells_at L i (by simpa using h)
    have e : tkCells (x :: L) = .int .i64 x.2.2 :: .int .i64 x.1 :: .int .i64 x.2.1 :: tkCells L := by simp [tkCells]
    rw [e, show (i + 1) * 3 = i * 3 + 1 + 1 + 1 from by omega, show i * 3 + 1 + 1 + 1 + 1 = i * 3 + 1 + 1 + 1 + 1 from rfl]
    simpa using this
theorem length_tkCells (L : List T3) : (tkCells L).length = L.length * 3 := by
  induction L with
  | nil => rfl
  | cons x L ih => simp only [tkCells, List.flatMap_cons, List.length_append] at ih ⊢; rw [ih]; simp; omega
/-- A slice reads as these tokens. -/
def Tks (w : World) (A : Option Addr) (n : Nat) (L : List T3) : Prop :=
  L.length = n ∧ (0 < n → ∃ g o, A = some ⟨g, o, none⟩ ∧ g < w.heap.size ∧ ∀ (i : Nat) (h : i < L.length), w.cell? ⟨g, o + i * 3, none⟩ = some (.int .i64 L[i].2.2) ∧ w.cell? ⟨g, o + i * 3 + 1, none⟩ = some (.int .i64 L[i].1) ∧ w.cell? ⟨g, o + i * 3 + 2, none⟩ = some (.int .i64 L[i].2.1))
theorem Tks.but {w w' : World} {A : Option Addr} {n : Nat} {L : List T3} (h : Tks w A n L) (hw : But [] w w') : Tks w' A n L :=
  ⟨h.1, fun hn => by
    obtain ⟨g, o, e, hg, hc⟩ := h.2 hn
    exact ⟨g, o, e, Nat.lt_of_lt_of_le hg hw.size, fun i hi => ⟨hw.cell (hc i hi).1 (by simp), hw.cell (hc i hi).2.1 (by simp), hw.cell (hc i hi).2.2 (by simp)⟩⟩⟩
theorem Tks.at {w : World} {A : Option Addr} {n : Nat} {L : List T3} (h : Tks w A n L) {i : Nat} (hi : i < n) :
    ∃ g o b x d, A = some ⟨g, o, none⟩ ∧ g < w.heap.size ∧ w.cell? ⟨g, o + i * 3, none⟩ = some (.int .i64 b) ∧ w.cell? ⟨g, o + i * 3 + 1, none⟩ = some (.int .i64 x) ∧ w.cell? ⟨g, o + i * 3 + 2, none⟩ = some (.int .i64 d) ∧ L[i]? = some (x, d, b) := by
  obtain ⟨g, o, e, hg, hc⟩ := h.2 (by omega)
  have hl : i < L.length := by have := h.1; omega
  exact ⟨g, o, _, _, _, e, hg, (hc i hl).1, (hc i hl).2.1, (hc i hl).2.2, List.getElem?_eq_getElem hl⟩
theorem Tks.nil (w : World) (A : Option Addr) : Tks w A 0 [] := ⟨rfl, fun h => absurd h (by omega)⟩
theorem Tks.news {w : World} {g o n : Nat} {L : List T3} (h : Tks w (some ⟨g, o, none⟩) n L) (hn : 0 < n) : ∀ j u, (tkCells L)[j]? = some u → w.cell? ((⟨g, o, none⟩ : Addr).add j) = some u := by
  intro j u hu
  obtain ⟨g', o', e, _, hc⟩ := h.2 hn
  injection e with e
  injection e with e1 e2
  subst e1 e2
  have hj : j < L.length * 3 := by
    have := (List.getElem?_eq_some_iff.1 hu).1
    rwa [length_tkCells] at this
  obtain ⟨h0, h1, h2⟩ := tkCells_at L (j / 3) (by omega)
  obtain ⟨c0, c1, c2⟩ := hc (j / 3) (by omega)
  rw [Go.WideShapes.add_plain]
  have hr : j = j / 3 * 3 ∨ j = j / 3 * 3 + 1 ∨ j = j / 3 * 3 + 2 := by omega
  rcases hr with e | e | e
  · rw [← e] at h0 c0; rw [c0, ← h0, hu]
  · rw [← e] at h1; rw [Nat.add_assoc, ← e] at c1; rw [c1, ← h1, hu]
  · rw [← e] at h2; rw [Nat.add_assoc, ← e] at c2; rw [c2, ← h2, hu]
/-- A slice of tokens of the call's own. -/
def OwnK (w : World) (base : Nat) (v : Value) (L : List T3) : Prop := w.ownsRow base 34 3 v L.length (tkCells L)
theorem info_tok : (Try.prog.info? 34).map (fun i => (i.zero, i.size, i.bytes)) = some (some (.agg #[.int .i64 0, .int .i64 0, .int .i64 0]), 3, 24) := by kernel_rfl
theorem OwnK.nil (w : World) (base : Nat) : OwnK w base (.slice none 0 0) [] := World.ownsRow_nil _ _ _ _
theorem OwnK.but {w w' : World} {base : Nat} {v : Value} {L : List T3} (h : OwnK w base v L) (hw : But [] w w') : OwnK w' base v L := by
  unfold OwnK at h ⊢
  refine ⟨h.1, ?_⟩
  rcases h.2 with h2 | ⟨g, cap, cur, hv, hg, hh, r⟩
  · exact .inl h2
  · refine .inr ⟨g, cap, cur, hv, hg, ?_, r⟩
    have hlt : g < w.heap.size := (h.lt g (by rw [hv]; rfl)).2
    rw [hw.block g hlt (by simp)]
    exact hh
theorem OwnK.len {w : World} {base : Nat} {A : Option Addr} {n c : Nat} {L : List T3} (h : OwnK w base (.slice A n c) L) : n = L.length := by
  unfold OwnK at h
  rcases h.2 with ⟨e, e2⟩ | ⟨g, cap, cur, e, _⟩
  · injection e with e1 e3 e4; omega
  · injection e
theorem OwnK.open {w : World} {base : Nat} {v : Value} {L : List T3} (h : OwnK w base v L) : ∃ A c, v = .slice A L.length c ∧ Tks w A L.length L := by
  unfold OwnK at h
  rcases h.2 with ⟨rfl, e⟩ | ⟨g, cap, cur, rfl, hg, hh, r⟩
  · have : L = [] := List.eq_nil_of_length_eq_zero e
    subst this
    exact ⟨none, 0, rfl, Tks.nil _ _⟩
  · refine ⟨some ⟨g, 0, none⟩, cap, rfl, rfl, fun hn => ⟨g, 0, rfl, (h.lt g rfl).2, fun i hi => ?_⟩⟩
    obtain ⟨h0, h1, h2⟩ := tkCells_at L i hi
    have c0 := h.cells (g := g) rfl (i * 3) _ h0
    have c1 := h.cells (g := g) rfl (i * 3 + 1) _ h1
    have c2 := h.cells (g := g) rfl (i * 3 + 2) _ h2
    rw [Go.WideShapes.add_plain] at c0 c1 c2
    exact ⟨c0, c1, c2⟩
end Go.Proofs.Ytbdackcfedcmkaa
