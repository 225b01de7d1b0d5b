/- Strings that a call owns: a list of them that grows. -/
import Derived.Test.YtfibffcmbnlomaaSbE
import Derived.Deep.AppendLies
set_option maxRecDepth 100000
set_option linter.unusedVariables false
namespace Go.Proofs.Ytfibffcmbnlomaa
set_option maxRecDepth 100000
open Go Go.RowKit
def stCells (L : List ByteArray) : List Value := L.map fun x => .string x
theorem stCells_append (L M : List ByteArray) : stCells (L ++ M) = stCells L ++ stCells M := by simp [stCells]
/-- Strings of the call's own. -/
def OwnSt (w : World) (base : Nat) (v : Value) (L : List ByteArray) : Prop := w.ownsRow base 9 1 v L.length (stCells L)
theorem OwnSt.nil (w : World) (base : Nat) : OwnSt w base (.slice none 0 0) [] := World.ownsRow_nil _ _ _ _
theorem OwnSt.but {w w' : World} {base : Nat} {v : Value} {L : List ByteArray} (h : OwnSt w base v L) (hw : But [] w w') : OwnSt w' base v L := by
  obtain ⟨h1, h2⟩ := h
  refine ⟨h1, ?_⟩
  rcases h2 with h2 | ⟨g, cap, cur, rfl, hg, hh, r⟩
  · exact .inl h2
  · have hlt : g < w.heap.size := (Array.getElem?_eq_some_iff.1 hh).1
    exact .inr ⟨g, cap, cur, rfl, hg, (hw.block g hlt (by simp)).trans hh, r⟩
theorem OwnSt.shape {w : World} {base : Nat} {v : Value} {L : List ByteArray} (h : OwnSt w base v L) : ∃ A c, v = .slice A L.length c ∧ L.length ≤ c := by
  rcases h.2 with ⟨rfl, e⟩ | ⟨g, cap, cur, rfl, _, _, hc, _⟩
  · have : L = [] := List.eq_nil_of_length_eq_zero e
    subst this
    exact ⟨none, 0, rfl, Nat.le_refl _⟩
  · exact ⟨_, cap, rfl, hc⟩
theorem OwnSt.lt {w : World} {base : Nat} {v : Value} {L : List ByteArray} (h : OwnSt w base v L) : ∀ g, v.ownBlock = some g → base ≤ g := fun g e => (World.ownsRow.lt h g e).1
theorem OwnSt.at {w : World} {base n c : Nat} {A : Option Addr} {L : List ByteArray} (h : OwnSt w base (.slice A n c) L) {i : Nat} {x : ByteArray} (hi : L[i]? = some x) :
    ∃ g, A = some ⟨g, 0, none⟩ ∧ g < w.heap.size ∧ w.cell? ⟨g, i, none⟩ = some (.string x) := by
  have hl := (List.getElem?_eq_some_iff.1 hi).1
  obtain ⟨g, cap, e, h1, h2⟩ := World.ownsRow.form h (by omega)
  injection e with e1 e2 e3
  subst e1 e3
  refine ⟨g, rfl, h2, ?_⟩
  have hc := World.ownsRow.cells h (g := g) rfl i (.string x) (by simp [stCells, hi])
  have e2 : (⟨g, 0, none⟩ : Addr).add i = ⟨g, i, none⟩ := by unfold Addr.add; split <;> simp_all
  rw [e2] at hc
  exact hc
theorem info_strS : (Try.prog.info? 9).map (fun i => (i.zero, i.size, i.bytes)) = some (some (.string ByteArray.empty), 1, 16) := by kernel_rfl
theorem news_s {w : World} {g : Nat} {x : Value} (h : Is w g 9 #[x]) : ∀ (j : Nat) u, [x][j]? = some u → w.cell? ((⟨g, 0, none⟩ : Addr).add j) = some u := by
  intro j u hj
  match j, hj with
  | 0, hj =>
    have e : x = u := by simpa using hj
    have := h.cell 0
    rw [← e]
    exact this
  | j + 1, hj => simp at hj
/-- One string appended, at a step of a drawn region. -/
theorem step_append_s {w0 : World} (w : World) {ops : Array Oper} {o : Oper} {a : Act} {K : Act → World → Prop} {Q : Exit → Act → World → Prop} {E : Prop} (hgd : o.guard = none) (sl x : Operand)
    (ho : o.op = .call { callee := .builtin .append, args := #[sl, x], argTypes := #[50, 50] })
    (v : Value) (L : List ByteArray) (hs : a.eval sl = v) (hO : OwnSt w w0.heap.size v L) (hB : But [] w0 w) (y : ByteArray) {g : Nat}
    (hx : a.eval x = .slice (some ⟨g, 0, none⟩) 1 1) (hI : Is w g 9 #[.string y]) (hbound : L.length < 1000000)
    (h : ∀ A c w', Hid (OwnSt w' w0.heap.size (.slice A (L.length + 1) c) (L ++ [y])) → Hid (But [] w0 w') → K (a.put o.dst (.slice A (L.length + 1) c)) w') : if Region.wanted o (yielded ops a.tmps) = true then Oper.wp Try.prog o a w K Q else E := by
  obtain ⟨i0, hi0, hz0, hz1, hz2⟩ := info_parts info_strS
  refine step_append_lies w hgd sl x 50 ho w0.heap.size 9 i0 (.string ByteArray.empty) 1 16 Try.underlying50 hi0 hz0 hz1 hz2 rfl (by omega) v L.length (stCells L) hs hO ⟨g, 0, none⟩ 1 1 [.string y] hx rfl (news_s hI) (by simp [Value.oneCell']) (by omega) (by unfold maxLen; omega) (by omega) hB.size w.heap.size rfl ?_
  intro g' cap w' hown hgrow _ _
  have hO2 : OwnSt w' w0.heap.size (.slice (some ⟨g', 0, none⟩) (L.length + 1) cap) (L ++ [y]) := by
    unfold OwnSt
    rw [List.length_append, stCells_append]
    exact hown
  exact h (some ⟨g', 0, none⟩) cap w' (Lib.hid hO2) (Lib.hid (hB.grown hgrow (fun k e => .inr (hO.lt k e))))
end Go.Proofs.Ytfibffcmbnlomaa
