/- Passes in memory; how many of first, first and step, .. are below a number, by the document. -/
import Derived.Test.YtookfoanggjnkaaDoorLaN
import Derived.Test.YtookfoanggjnkaaDoorHdA
import Derived.Test.YtookfoanggjnkaaDoorRegN
import Derived.Laws.StructEq
import Derived.Handy
import Derived.OwnWalk
import Derived.Deep.AppendLies
import Derived.Maps.AppendAt
import Derived.Deep.RegionLaw
set_option maxRecDepth 100000
set_option linter.unusedVariables false
namespace Go.Proofs.YtookfoanggjnkaaDoor
set_option maxRecDepth 100000
open Go Go.RowKit
theorem emany_any (w : World) {n first step : Nat} (hn : n ≤ 100000) (hf : first ≤ 100) (h1 : 1 ≤ step) (h2 : step ≤ 100) :
    Calls Tryd.prog 20 #[.int .i64 n, .int .i64 first, .int .i64 step] w fun e w' => e = .returned (.int .i64 (manyL n first step : Nat)) ∧ w = w' := by
  obtain ⟨m, hm⟩ : ∃ m, m = manyL n first step := ⟨_, rfl⟩
  have hk := manyL_lt (n := n) (first := first) h1
  have hle := manyL_le n first step h1
  rw [← hm] at hk hle ⊢
  have HK := Lib.hid hk
  clear hm hk
  go_enter Tryd.func20, Tryd.ntmps20
  go_wp2
  go_loop [7, 8] (fun kv iv => ∃ k i : Nat, k ≤ m ∧ kv = .int .i64 k ∧ iv = .int .i64 i ∧ Hid (i = first + k * step)) (fun kv _ => m - (intOf kv).toNat)
  case atStart => exact ⟨0, first, Nat.zero_le _, rfl, rfl, Lib.hid (by omega)⟩
  case round =>
    obtain ⟨k, i, hkm, rfl, rfl, HI⟩ := hrel
    by_cases hlt : k < m
    · have hin := (HK.out k).1 hlt
      rw [← HI.out] at hin
      have HN : Hid (i + step = first + (k + 1) * step) := Lib.hid (by rw [Nat.add_mul, HI.out]; omega)
      go_wp2
      go_round
      case rel => exact ⟨k + 1, i + step, by omega, by go_num, by go_num, HN⟩
      case measure => simp [intOf] <;> omega
    · obtain rfl : k = m := by omega
      have hin : ¬ i < n := fun h => hlt ((HK.out k).2 (by rw [← HI.out]; exact h))
      have hib : i ≤ 1000000000 := by
        have := HI.out
        have : k * step ≤ 100000 * 100 := Nat.mul_le_mul (by omega) h2
        omega
      go_wp2
      go_ret
      exact ⟨rfl, rfl⟩
/-- A pass: X, Y, DX, DY, W, H. -/
abbrev P6 := Nat × Nat × Nat × Nat × Nat × Nat
def p6Val (p : P6) : Value := .agg #[.int .i64 p.1, .int .i64 p.2.1, .int .i64 p.2.2.1, .int .i64 p.2.2.2.1, .int .i64 p.2.2.2.2.1, .int .i64 p.2.2.2.2.2]
def p6Cells (p : P6) : List Value := [.int .i64 p.1, .int .i64 p.2.1, .int .i64 p.2.2.1, .int .i64 p.2.2.2.1, .int .i64 p.2.2.2.2.1, .int .i64 p.2.2.2.2.2]
def psCells (L : List P6) : List Value := L.flatMap p6Cells
theorem psCells_append (L M : List P6) : psCells (L ++ M) = psCells L ++ psCells M := by simp [psCells]
theorem psCells_cons (x : P6) (L : List P6) : psCells (x :: L) = p6Cells x ++ psCells L := by simp [psCells]
theorem length_psCells (L : List P6) : (psCells L).length = L.length * 6 := by
  induction L with
  | nil => rfl
  | cons x L ih => rw [psCells_cons, List.length_append, ih, List.length_cons]; show 6 + _ = _; omega
theorem psCells_at : ∀ (L : List P6) (i k : Nat) (h : i < L.length), k < 6 → (psCells L)[i * 6 + k]? = (p6Cells L[i])[k]?
  | x :: L, 0, k, _, hk => by
    rw [psCells_cons, List.getElem?_append_left (by show _ < 6; omega), Nat.zero_mul, Nat.zero_add]
    rfl
  | x :: L, i + 1, k, h, hk => by
    have := psCells_at L i k (by simpa using h) hk
    rw [psCells_cons, List.getElem?_append_right (by show 6 ≤ _; omega)]
    have e : (i + 1) * 6 + k - (p6Cells x).length = i * 6 + k := by show (i + 1) * 6 + k - 6 = _; omega
    rw [e, this]
    rfl
/-- A slice reads as these passes. -/
def Pss (w : World) (A : Option Addr) (n : Nat) (L : List P6) : Prop :=
  L.length = n ∧ (0 < n → ∃ g o, A = some ⟨g, o, none⟩ ∧ g < w.heap.size ∧ ∀ (i k : Nat) (h : i < L.length), k < 6 → w.cell? ⟨g, o + i * 6 + k, none⟩ = (p6Cells L[i])[k]?)
theorem Pss.nil (w : World) (A : Option Addr) : Pss w A 0 [] := ⟨rfl, fun h => absurd h (by omega)⟩
theorem Pss.but {w w' : World} {A : Option Addr} {n : Nat} {L : List P6} (h : Pss w A n L) (hw : But [] w w') : Pss w' A n L :=
  ⟨h.1, fun hn => by
    obtain ⟨g, o, e, hg, hc⟩ := h.2 hn
    refine ⟨g, o, e, Nat.lt_of_lt_of_le hg hw.size, fun i k hi hk => ?_⟩
    have h1 := hc i k hi hk
    rw [← h1]
    have hb := hw.block g hg (by simp)
    simp [World.cell?, hb]⟩
theorem Pss.at {w : World} {A : Option Addr} {n : Nat} {L : List P6} (h : Pss w A n L) {i : Nat} (hi : i < n) :
    ∃ (g o : Nat) (p : P6), A = some ⟨g, o, none⟩ ∧ g < w.heap.size ∧ L[i]? = some p ∧ w.cell? ⟨g, o + i * 6, none⟩ = some (.int .i64 p.1) ∧ w.cell? ⟨g, o + i * 6 + 1, none⟩ = some (.int .i64 p.2.1) ∧ w.cell? ⟨g, o + i * 6 + 2, none⟩ = some (.int .i64 p.2.2.1) ∧
      w.cell? ⟨g, o + i * 6 + 3, none⟩ = some (.int .i64 p.2.2.2.1) ∧ w.cell? ⟨g, o + i * 6 + 4, none⟩ = some (.int .i64 p.2.2.2.2.1) ∧ w.cell? ⟨g, o + i * 6 + 5, none⟩ = some (.int .i64 p.2.2.2.2.2) := by
  obtain ⟨g, o, e, hg, hc⟩ := h.2 (by omega)
  have hl : i < L.length := by have := h.1; omega
  exact ⟨g, o, L[i], e, hg, List.getElem?_eq_getElem hl, hc i 0 hl (by omega), hc i 1 hl (by omega), hc i 2 hl (by omega), hc i 3 hl (by omega), hc i 4 hl (by omega), hc i 5 hl (by omega)⟩
/-- A block that is just these passes. -/
theorem Pss.of {w : World} {g : Nat} {L : List P6} {cs : Array Value} (h : Is w g 34 cs) (hc : cs.toList = psCells L) : Pss w (some ⟨g, 0, none⟩) L.length L := by
  refine ⟨rfl, fun _ => ⟨g, 0, rfl, h.lt, fun i k hi hk => ?_⟩⟩
  rw [h.cell, ← psCells_at L i k hi hk, ← hc, Nat.zero_add, Array.getElem?_toList]
/-- Passes of the call's own. -/
def OwnP6 (w : World) (base : Nat) (v : Value) (L : List P6) : Prop := w.ownsRow base 34 6 v L.length (psCells L)
theorem OwnP6.nil (w : World) (base : Nat) : OwnP6 w base (.slice none 0 0) [] := World.ownsRow_nil _ _ _ _
theorem OwnP6.but {w w' : World} {base : Nat} {v : Value} {L : List P6} (h : OwnP6 w base v L) (hw : But [] w w') : OwnP6 w' base v L := by
  obtain ⟨h1, h2⟩ := h
  refine ⟨h1, ?_⟩
  rcases h2 with h2 | ⟨g, cap, cur, rfl, hg, hh, r⟩
  · exact .inl h2
  · have hlt : g < w.heap.size := (Array.getElem?_eq_some_iff.1 hh).1
    exact .inr ⟨g, cap, cur, rfl, hg, (hw.block g hlt (by simp)).trans hh, r⟩
theorem OwnP6.shape {w : World} {base : Nat} {v : Value} {L : List P6} (h : OwnP6 w base v L) : ∃ A c, v = .slice A L.length c ∧ L.length ≤ c := by
  rcases h.2 with ⟨rfl, e⟩ | ⟨g, cap, cur, rfl, _, _, hc, _⟩
  · have : L = [] := List.eq_nil_of_length_eq_zero e
    subst this
    exact ⟨none, 0, rfl, Nat.le_refl _⟩
  · exact ⟨_, cap, rfl, hc⟩
theorem OwnP6.lt {w : World} {base : Nat} {v : Value} {L : List P6} (h : OwnP6 w base v L) : ∀ g, v.ownBlock = some g → base ≤ g := fun g e => (World.ownsRow.lt h g e).1
theorem OwnP6.pss {w : World} {base n c : Nat} {A : Option Addr} {L : List P6} (h : OwnP6 w base (.slice A n c) L) : Pss w A L.length L := by
  refine ⟨rfl, fun hn => ?_⟩
  obtain ⟨g, cap, e, h1, h2⟩ := World.ownsRow.form h hn
  injection e with e1 e2 e3
  subst e1 e3
  refine ⟨g, 0, rfl, h2, fun i k hi hk => ?_⟩
  have hl : (psCells L)[i * 6 + k]? = (p6Cells L[i])[k]? := psCells_at L i k hi hk
  have hk6 : k < (p6Cells L[i]).length := hk
  rw [List.getElem?_eq_getElem hk6] at hl ⊢
  have hc := World.ownsRow.cells h (g := g) rfl (i * 6 + k) _ hl
  have e2 : (⟨g, 0, none⟩ : Addr).add (i * 6 + k) = ⟨g, 0 + i * 6 + k, none⟩ := by unfold Addr.add; split <;> simp_all
  rw [e2] at hc
  exact hc
theorem info_pass : (Tryd.prog.info? 34).map (fun i => (i.zero, i.size, i.bytes)) = some (some (.agg #[.int .i64 0, .int .i64 0, .int .i64 0, .int .i64 0, .int .i64 0, .int .i64 0]), 6, 48) := by kernel_rfl
theorem cells_pass : Tryd.prog.cellsOf 34 = 6 := by kernel_rfl
theorem news_p6 {w : World} {g : Nat} {cs : Array Value} (h : Is w g 34 cs) : ∀ (j : Nat) u, cs.toList[j]? = some u → w.cell? ((⟨g, 0, none⟩ : Addr).add j) = some u := by
  intro j u hj
  have e2 : (⟨g, 0, none⟩ : Addr).add j = ⟨g, j, none⟩ := by unfold Addr.add; split <;> simp_all
  rw [e2, h.cell, ← Array.getElem?_toList]
  exact hj
/-- One pass appended. -/
theorem wpList_append_p6 {w0 : World} (w : World) {ops : Array Oper} {rest : List Oper} {o : Oper} {a : Act} {Q : Exit → Act → World → Prop} (hgd : o.guard = none) (sl x : Operand)
    (ho : o.op = .call { callee := .builtin .append, args := #[sl, x], argTypes := #[25, 25] })
    (v : Value) (L : List P6) (hs : a.eval sl = v) (hO : OwnP6 w w0.heap.size v L) (hB : But [] w0 w) (p : P6) {cs : Array Value} (hcs : cs.toList = p6Cells p) {g : Nat} (hx : a.eval x = .slice (some ⟨g, 0, none⟩) 1 1) (hI : Is w g 34 cs) (hbound : L.length < 1000000)
    (h : ∀ A c w' M, M = L ++ [p] → OwnP6 w' w0.heap.size (.slice A M.length c) M → But [] w0 w' → (∀ i t cs, Is w i t cs → t ≠ 34 ∨ i < w0.heap.size → Is w' i t cs) → (∀ A n M, Pss w A n M → (∀ g o, A = some ⟨g, o, none⟩ → v.ownBlock ≠ some g) → Pss w' A n M) → (∀ g, v.ownBlock ≠ some g → g < w.heap.size → (Value.slice A M.length c).ownBlock ≠ some g) → wpList Tryd.prog ops Q rest (a.put o.dst (.slice A M.length c)) w') : wpList Tryd.prog ops Q (o :: rest) a w := by
  obtain ⟨i0, hi0, hz0, hz1, hz2⟩ := info_parts info_pass
  refine wpList_append_own_at w hgd sl x 25 ho w0.heap.size 34 i0 _ 6 48 Tryd.underlying25 hi0 hz0 hz1 hz2 rfl (by decide) v L.length (psCells L) hs hO ⟨g, 0, none⟩ 1 1 cs.toList hx (by rw [hcs]; rfl) (news_p6 hI) (by rw [hcs]; simp [Value.oneCell', p6Cells]) (by unfold maxLen; omega) (by omega) hB.size ?_
  intro v' w' hown hgrow _ hat
  have hO2 : OwnP6 w' w0.heap.size v' (L ++ [p]) := by
    unfold OwnP6
    rw [List.length_append, psCells_append]
    have e : psCells [p] = cs.toList := by rw [hcs]; simp [psCells]
    rw [e]
    exact hown
  obtain ⟨A, c, rfl, _⟩ := hO2.shape
  refine h A c w' _ rfl hO2 (hB.grown hgrow (fun k e => .inr (hO.lt k e))) (fun i t cs2 h1 h2 => h1.grown hgrow fun e => ?_) (fun A2 n M hP hne => ⟨hP.1, fun hn => ?_⟩) (fun g3 h3 h4 e => ?_)
  · rcases h2 with h2 | h2
    · obtain ⟨_, hcase⟩ := hO
      rcases hcase with ⟨rfl, _⟩ | ⟨g1, cap, cur, rfl, _, hh, _⟩
      · cases e
      · have e2 : i = g1 := by simpa [Value.ownBlock] using e
        subst e2
        unfold Is at h1
        rw [h1] at hh
        injection hh with hh
        injection hh with _ h4 _
        exact h2 h4
    · have := hO.lt i e.symm
      omega
  · obtain ⟨g2, o2, e, hg, hc⟩ := hP.2 hn
    refine ⟨g2, o2, e, Nat.lt_of_lt_of_le hg hgrow.size, fun i k hi hk => ?_⟩
    rw [← hc i k hi hk]
    have hb := hgrow.block g2 hg (fun e2 => hne g2 o2 e e2.symm)
    simp [World.cell?, hb]
  · rcases hat with hat | hat
    · exact h3 (hat.symm.trans e)
    · rw [hat] at e
      have : w.heap.size = g3 := by simpa using e
      omega
/-- Two passes that are the same. -/
theorem pass_neq (w : World) (a b c d e f : Int) : (binOp .neq 34 (.agg #[.int .i64 a, .int .i64 b, .int .i64 c, .int .i64 d, .int .i64 e, .int .i64 f]) (.agg #[.int .i64 a, .int .i64 b, .int .i64 c, .int .i64 d, .int .i64 e, .int .i64 f])).run Tryd.prog w = .ok (.bool false) w := by
  rw [run_neq_struct, show (10000 : Nat) = 9998 + 1 + 1 from rfl, run_equalIn_agg w _ _ _ _ (by kernel_rfl) (by kernel_rfl)]
  have hf : (Tryd.prog.fieldsOf 34).toList = [⟨ "X", 3, 0, false, "", "", 0⟩, ⟨ "Y", 3, 1, false, "", "", 8⟩, ⟨ "DX", 3, 2, false, "", "", 16⟩, ⟨ "DY", 3, 3, false, "", "", 24⟩, ⟨ "W", 3, 4, false, "", "", 32⟩, ⟨ "H", 3, 5, false, "", "", 40⟩] := by kernel_rfl
  rw [hf]
  simp [go_sem, Op.eqFields]
end Go.Proofs.YtookfoanggjnkaaDoor
