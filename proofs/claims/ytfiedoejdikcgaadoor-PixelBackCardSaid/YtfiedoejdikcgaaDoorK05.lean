/- Several texts in one: LcA, LcB, LcC, LcD, PxN, PxA, FiA, FiB, FiC, FiD (what PixelBack, PixelChecks reach of them). -/
import Derived.Test.YtfiedoejdikcgaaDoorK01
import Derived.Test.YtfiedoejdikcgaaDoorK02
import Derived.Test.YtfiedoejdikcgaaDoorK03
import Derived.Test.YtfiedoejdikcgaaDoorK04
import Derived.Below
import Derived.BigQuiet
import Derived.BigRegion
import Derived.Deep.AppendLies
import Derived.Deep.CutBlock
import Derived.Deep.CutRange
import Derived.Deep.DeepCutAuto
import Derived.Deep.Draws
import Derived.Deep.QuietTactic
import Derived.Deep.RegionLaw
import Derived.Deep.RegionWith
import Derived.Handy
import Derived.Laws.BitsAllLaws
import Derived.Laws.BitsLemmas
import Derived.Laws.BytesArg
import Derived.Laws.IdiomStrings
import Derived.Laws.MakeOwn
import Derived.Laws.OwnMore
import Derived.Laws.Rows
import Derived.Laws.StructEq
import Derived.Lib.BufferWrite
import Derived.Lib.Hide
import Derived.Maps.AppendAt
import Derived.OrdersHeld
import Derived.OrdersIn
import Derived.Outline
import Derived.OwnWalk
import Derived.OwnWalkIn
import Derived.RangeFuncCalls
import Derived.RegionTactic
import Derived.TacticsInMore
import Derived.Test.YtfiedoejdikcgaaDoorChecked
import Derived.WalkKit
set_option maxRecDepth 100000
set_option linter.unusedVariables false
set_option maxRecDepth 100000
set_option linter.unusedVariables false
namespace Go.Proofs.YtfiedoejdikcgaaDoor
set_option maxRecDepth 100000
open Go Go.RowKit
/-- A pass: X, Y, DX, DY, W, H. -/
abbrev P6 := Nat × Nat × Nat × Nat × Nat × Nat
def p6Val (p : P6) : Value := .agg #[.int .i64 p.1, .int .i64 p.2.1, .int .i64 p.2.2.1, .int .i64 p.2.2.2.1, .int .i64 p.2.2.2.2.1, .int .i64 p.2.2.2.2.2]
def p6Cells (p : P6) : List Value := [.int .i64 p.1, .int .i64 p.2.1, .int .i64 p.2.2.1, .int .i64 p.2.2.2.1, .int .i64 p.2.2.2.2.1, .int .i64 p.2.2.2.2.2]
def psCells (L : List P6) : List Value := L.flatMap p6Cells
theorem psCells_append (L M : List P6) : psCells (L ++ M) = psCells L ++ psCells M := by simp [psCells]
theorem psCells_cons (x : P6) (L : List P6) : psCells (x :: L) = p6Cells x ++ psCells L := by simp [psCells]
theorem psCells_at : ∀ (L : List P6) (i k : Nat) (h : i < L.length), k < 6 → (psCells L)[i * 6 + k]? = (p6Cells L[i])[k]?
  | x :: L, 0, k, _, hk => by
    rw [psCells_cons, List.getElem?_append_left (by show _ < 6; omega), Nat.zero_mul, Nat.zero_add]
    rfl
  | x :: L, i + 1, k, h, hk => by
    have := psCells_at L i k (by simpa using h) hk
    rw [psCells_cons, List.getElem?_append_right (by show 6 ≤ _; omega)]
    have e : (i + 1) * 6 + k - (p6Cells x).length = i * 6 + k := by show (i + 1) * 6 + k - 6 = _; omega
    rw [e, this]
    rfl
/-- A slice reads as these passes. -/
def Pss (w : World) (A : Option Addr) (n : Nat) (L : List P6) : Prop :=
  L.length = n ∧ (0 < n → ∃ g o, A = some ⟨g, o, none⟩ ∧ g < w.heap.size ∧ ∀ (i k : Nat) (h : i < L.length), k < 6 → w.cell? ⟨g, o + i * 6 + k, none⟩ = (p6Cells L[i])[k]?)
theorem Pss.nil (w : World) (A : Option Addr) : Pss w A 0 [] := ⟨rfl, fun h => absurd h (by omega)⟩
theorem Pss.but {w w' : World} {A : Option Addr} {n : Nat} {L : List P6} (h : Pss w A n L) (hw : But [] w w') : Pss w' A n L :=
  ⟨h.1, fun hn => by
    obtain ⟨g, o, e, hg, hc⟩ := h.2 hn
    refine ⟨g, o, e, Nat.lt_of_lt_of_le hg hw.size, fun i k hi hk => ?_⟩
    have h1 := hc i k hi hk
    rw [← h1]
    have hb := hw.block g hg (by simp)
    simp [World.cell?, hb]⟩
theorem Pss.at {w : World} {A : Option Addr} {n : Nat} {L : List P6} (h : Pss w A n L) {i : Nat} (hi : i < n) :
    ∃ (g o : Nat) (p : P6), A = some ⟨g, o, none⟩ ∧ g < w.heap.size ∧ L[i]? = some p ∧ w.cell? ⟨g, o + i * 6, none⟩ = some (.int .i64 p.1) ∧ w.cell? ⟨g, o + i * 6 + 1, none⟩ = some (.int .i64 p.2.1) ∧ w.cell? ⟨g, o + i * 6 + 2, none⟩ = some (.int .i64 p.2.2.1) ∧
      w.cell? ⟨g, o + i * 6 + 3, none⟩ = some (.int .i64 p.2.2.2.1) ∧ w.cell? ⟨g, o + i * 6 + 4, none⟩ = some (.int .i64 p.2.2.2.2.1) ∧ w.cell? ⟨g, o + i * 6 + 5, none⟩ = some (.int .i64 p.2.2.2.2.2) := by
  obtain ⟨g, o, e, hg, hc⟩ := h.2 (by omega)
  have hl : i < L.length := by have := h.1; omega
  exact ⟨g, o, L[i], e, hg, List.getElem?_eq_getElem hl, hc i 0 hl (by omega), hc i 1 hl (by omega), hc i 2 hl (by omega), hc i 3 hl (by omega), hc i 4 hl (by omega), hc i 5 hl (by omega)⟩
/-- Passes of the call's own. -/
def OwnP6 (w : World) (base : Nat) (v : Value) (L : List P6) : Prop := w.ownsRow base 52 6 v L.length (psCells L)
theorem OwnP6.nil (w : World) (base : Nat) : OwnP6 w base (.slice none 0 0) [] := World.ownsRow_nil _ _ _ _
theorem OwnP6.but {w w' : World} {base : Nat} {v : Value} {L : List P6} (h : OwnP6 w base v L) (hw : But [] w w') : OwnP6 w' base v L := by
  obtain ⟨h1, h2⟩ := h
  refine ⟨h1, ?_⟩
  rcases h2 with h2 | ⟨g, cap, cur, rfl, hg, hh, r⟩
  · exact .inl h2
  · have hlt : g < w.heap.size := (Array.getElem?_eq_some_iff.1 hh).1
    exact .inr ⟨g, cap, cur, rfl, hg, (hw.block g hlt (by simp)).trans hh, r⟩
theorem OwnP6.shape {w : World} {base : Nat} {v : Value} {L : List P6} (h : OwnP6 w base v L) : ∃ A c, v = .slice A L.length c ∧ L.length ≤ c := by
  rcases h.2 with ⟨rfl, e⟩ | ⟨g, cap, cur, rfl, _, _, hc, _⟩
  · have : L = [] := List.eq_nil_of_length_eq_zero e
    subst this
    exact ⟨none, 0, rfl, Nat.le_refl _⟩
  · exact ⟨_, cap, rfl, hc⟩
theorem OwnP6.lt {w : World} {base : Nat} {v : Value} {L : List P6} (h : OwnP6 w base v L) : ∀ g, v.ownBlock = some g → base ≤ g := fun g e => (World.ownsRow.lt h g e).1
theorem OwnP6.pss {w : World} {base n c : Nat} {A : Option Addr} {L : List P6} (h : OwnP6 w base (.slice A n c) L) : Pss w A L.length L := by
  refine ⟨rfl, fun hn => ?_⟩
  obtain ⟨g, cap, e, h1, h2⟩ := World.ownsRow.form h hn
  injection e with e1 e2 e3
  subst e1 e3
  refine ⟨g, 0, rfl, h2, fun i k hi hk => ?_⟩
  have hl : (psCells L)[i * 6 + k]? = (p6Cells L[i])[k]? := psCells_at L i k hi hk
  have hk6 : k < (p6Cells L[i]).length := hk
  rw [List.getElem?_eq_getElem hk6] at hl ⊢
  have hc := World.ownsRow.cells h (g := g) rfl (i * 6 + k) _ hl
  have e2 : (⟨g, 0, none⟩ : Addr).add (i * 6 + k) = ⟨g, 0 + i * 6 + k, none⟩ := by unfold Addr.add; split <;> simp_all
  rw [e2] at hc
  exact hc
theorem info_pass : (Tryd.prog.info? 52).map (fun i => (i.zero, i.size, i.bytes)) = some (some (.agg #[.int .i64 0, .int .i64 0, .int .i64 0, .int .i64 0, .int .i64 0, .int .i64 0]), 6, 48) := by kernel_rfl
theorem news_p6 {w : World} {g : Nat} {cs : Array Value} (h : Is w g 52 cs) : ∀ (j : Nat) u, cs.toList[j]? = some u → w.cell? ((⟨g, 0, none⟩ : Addr).add j) = some u := by
  intro j u hj
  have e2 : (⟨g, 0, none⟩ : Addr).add j = ⟨g, j, none⟩ := by unfold Addr.add; split <;> simp_all
  rw [e2, h.cell, ← Array.getElem?_toList]
  exact hj
end Go.Proofs.YtfiedoejdikcgaaDoor
set_option maxRecDepth 100000
set_option linter.unusedVariables false
namespace Go.Proofs.YtfiedoejdikcgaaDoor
set_option maxRecDepth 100000
open Go Go.RowKit
theorem rightH_cases (a b d c l : Int) : rightH a b d c l = 0 ∨ rightH a b d c l = 5 ∨ rightH a b d c l = 24 := by
  unfold rightH
  repeat' split
  all_goals simp
theorem rightH_ok {a b d c l : Int} (h : rightH a b d c l = 0) : (1 ≤ a ∧ a ≤ 1024) ∧ (1 ≤ b ∧ b ≤ 1024) ∧ a * b ≤ 4096 ∧ (l = 0 ∨ l = 1) ∧ depthOk d c = true := by
  unfold rightH at h
  by_cases h1 : a < 1 ∨ 2147483647 < a ∨ b < 1 ∨ 2147483647 < b ∨ depthOk d c = false ∨ (l ≠ 0 ∧ l ≠ 1)
  · rw [if_pos h1] at h; exact absurd h (by decide)
  · rw [if_neg h1] at h
    by_cases h2 : 1024 < a ∨ 1024 < b ∨ 4096 < a * b
    · rw [if_pos h2] at h; exact absurd h (by decide)
    · have h3 : depthOk d c = true := by
        cases hd : depthOk d c
        · exact absurd (Or.inr (Or.inr (Or.inr (Or.inr (Or.inl hd))))) h1
        · rfl
      refine ⟨⟨by omega, by omega⟩, ⟨by omega, by omega⟩, by omega, by omega, h3⟩
def p6 (w h : Nat) (p : PassL) : P6 := (p.x, p.y, p.dx, p.dy, manyL w p.x p.dx, manyL h p.y p.dy)
/-- The passes of an image, of whatever head. -/
def passA (a b d c l : Int) : List P6 := if rightH a b d c l = 0 then (passL a.toNat b.toNat (decide (l = 1))).map (p6 a.toNat b.toNat) else []
theorem passA_bad {a b d c l : Int} (h : rightH a b d c l ≠ 0) : passA a b d c l = [] := by unfold passA; rw [if_neg h]
theorem passA_ok {w h : Nat} {d c l : Int} (hr : rightH (w : Int) (h : Int) d c l = 0) : passA (w : Int) (h : Int) d c l = (passL w h (decide (l = 1))).map (p6 w h) := by unfold passA; rw [if_pos hr]; rfl
def baseL (l : Int) : List PassL := if decide (l = 1) = true then lacedL else plainL
theorem base_small {l : Int} {p : PassL} (hp : p ∈ baseL l) : (p.x ≤ 7 ∧ p.y ≤ 7) ∧ (1 ≤ p.dx ∧ p.dx ≤ 8) ∧ 1 ≤ p.dy ∧ p.dy ≤ 8 := by
  unfold baseL at hp
  cases hd : decide (l = 1)
  · rw [hd, if_neg (by decide)] at hp
    rw [List.mem_singleton.1 hp]
    decide
  · rw [hd, if_pos rfl] at hp
    simp only [lacedL, List.mem_cons, List.not_mem_nil, or_false] at hp
    rcases hp with rfl | rfl | rfl | rfl | rfl | rfl | rfl <;> decide
/-- What has been taken of the first passes. -/
def takenP (w h : Nat) (B : List PassL) (i : Nat) : List P6 := ((B.take i).filter (someP w h)).map (p6 w h)
theorem takenP_next {w h : Nat} {B : List PassL} {i : Nat} {p : PassL} (hp : B[i]? = some p) : takenP w h B (i + 1) = takenP w h B i ++ (if someP w h p = true then [p6 w h p] else []) := by
  have hi := (List.getElem?_eq_some_iff.1 hp).1
  have e : B.take (i + 1) = B.take i ++ [p] := by
    rw [List.take_succ_eq_append_getElem hi]
    congr 1
    rw [(List.getElem?_eq_some_iff.1 hp).2]
  unfold takenP
  rw [e, List.filter_append, List.map_append]
  congr 1
  by_cases hs : someP w h p = true
  · rw [if_pos hs, List.filter_cons, if_pos hs]; rfl
  · rw [if_neg hs, List.filter_cons, if_neg hs]; rfl
/-- What stands while the passes are gone through. -/
def PsS (w : World) (g1 g3 : Nat) (a b d c l : Int) (N : Nat) (M : List P6) (v : World) : Prop := Is v g1 29 #[.int .i64 a, .int .i64 b, .int .i64 d, .int .i64 c, .int .i64 l] ∧ Pss v (some ⟨g3, 0, none⟩) N M ∧ But [] w v
theorem PsS.but {w v v' : World} {g1 g3 : Nat} {a b d c l : Int} {N : Nat} {M : List P6} (h : PsS w g1 g3 a b d c l N M v) (k : But [] v v') : PsS w g1 g3 a b d c l N M v' := ⟨h.1.but k (by simp), h.2.1.but k, h.2.2.trans k⟩
end Go.Proofs.YtfiedoejdikcgaaDoor
set_option maxRecDepth 100000
set_option linter.unusedVariables false
namespace Go.Proofs.YtfiedoejdikcgaaDoor
set_option maxRecDepth 100000
open Go Go.RowKit
/-- How many bytes a row of so many pixels has, of whatever head. -/
def rowA (a b d c l n : Int) : Nat := if rightH a b d c l ≠ 0 ∨ n < 1 ∨ 1024 < n then 0 else ((d * samplesI c * n + 7) / 8).toNat
theorem rowA_bad {a b d c l n : Int} (h : rightH a b d c l ≠ 0 ∨ n < 1 ∨ 1024 < n) : rowA a b d c l n = 0 := by unfold rowA; rw [if_pos h]
theorem depth_nat {d c : Int} (h : depthOk d c = true) : ∃ D S : Nat, d = (D : Int) ∧ samplesI c = (S : Int) ∧ (1 ≤ D ∧ D ≤ 16) ∧ (1 ≤ S ∧ S ≤ 4) ∧ D * S ≤ 64 ∧ 1 ≤ D * S := by
  have h2 := of_decide_eq_true h
  have hd : 1 ≤ d ∧ d ≤ 16 := by omega
  have hs : 1 ≤ samplesI c ∧ samplesI c ≤ 4 := by
    unfold samplesI
    have hc : c = 0 ∨ c = 3 ∨ c = 2 ∨ c = 4 ∨ c = 6 := by omega
    rcases hc with rfl | rfl | rfl | rfl | rfl <;> decide
  refine ⟨d.toNat, (samplesI c).toNat, by omega, by omega, by omega, by omega, ?_, ?_⟩
  · show _ ≤ 16 * 4
    exact Nat.mul_le_mul (by omega) (by omega)
  · exact Nat.mul_pos (by omega) (by omega)
theorem rowA_ok {a b d c l : Int} {D S n : Nat} (h0 : rightH a b d c l = 0) (hd : d = (D : Int)) (hs : samplesI c = (S : Int)) (h1 : 1 ≤ n) (h2 : n ≤ 1024) : rowA a b d c l (n : Int) = (D * S * n + 7) / 8 := by
  unfold rowA
  rw [if_neg (by rw [h0]; omega), hd, hs, ← Int.natCast_mul, ← Int.natCast_mul]
  omega
theorem rowA_le (a b d c l n : Int) : rowA a b d c l n ≤ 8192 := by
  unfold rowA
  by_cases h : rightH a b d c l ≠ 0 ∨ n < 1 ∨ 1024 < n
  · rw [if_pos h]; exact Nat.zero_le _
  · rw [if_neg h]
    have h0 : rightH a b d c l = 0 := by
      by_cases e : rightH a b d c l = 0
      · exact e
      · exact absurd (Or.inl e) h
    obtain ⟨D, S, rfl, hs, _, _, hm, _⟩ := depth_nat (rightH_ok h0).2.2.2.2
    obtain ⟨N, rfl⟩ : ∃ N : Nat, n = (N : Int) := ⟨n.toNat, by omega⟩
    rw [hs, ← Int.natCast_mul, ← Int.natCast_mul]
    have : D * S * N ≤ 64 * 1024 := Nat.mul_le_mul hm (by omega)
    omega
end Go.Proofs.YtfiedoejdikcgaaDoor
set_option maxRecDepth 100000
set_option linter.unusedVariables false
namespace Go.Proofs.YtfiedoejdikcgaaDoor
set_option maxRecDepth 100000
open Go Go.RowKit
/-- How many bytes passes have. -/
def sizeL (a b d c l : Int) (L : List P6) : Nat := (L.map fun p => p.2.2.2.2.2 * (1 + rowA a b d c l (p.2.2.2.2.1 : Nat))).sum
def sizeA (a b d c l : Int) : Nat := sizeL a b d c l (passA a b d c l)
theorem sizeL_snoc (a b d c l : Int) (L : List P6) (p : P6) : sizeL a b d c l (L ++ [p]) = sizeL a b d c l L + p.2.2.2.2.2 * (1 + rowA a b d c l (p.2.2.2.2.1 : Nat)) := by
  unfold sizeL
  rw [List.map_append, List.sum_append]
  simp
theorem passA_small {a b d c l : Int} {p : P6} (hp : p ∈ passA a b d c l) : (p.1 ≤ 7 ∧ p.2.1 ≤ 7) ∧ (1 ≤ p.2.2.1 ∧ p.2.2.1 ≤ 8) ∧ (1 ≤ p.2.2.2.1 ∧ p.2.2.2.1 ≤ 8) ∧ (1 ≤ p.2.2.2.2.1 ∧ p.2.2.2.2.1 ≤ 1024) ∧ 1 ≤ p.2.2.2.2.2 ∧ p.2.2.2.2.2 ≤ 1024 := by
  unfold passA at hp
  by_cases h : rightH a b d c l = 0
  · rw [if_pos h] at hp
    obtain ⟨⟨a1, a2⟩, ⟨b1, b2⟩, _⟩ := rightH_ok h
    obtain ⟨q, hq, rfl⟩ := List.mem_map.1 hp
    have hok := passL_ok hq
    have hb : q ∈ baseL l := (List.mem_filter.1 hq).1
    have hs := base_small hb
    unfold p6
    dsimp only
    exact ⟨hs.1, hs.2.1, hs.2.2, ⟨hok.2.1, Nat.le_trans (manyL_le _ _ _ hs.2.1.1) (by omega)⟩, hok.2.2, Nat.le_trans (manyL_le _ _ _ hs.2.2.1) (by omega)⟩
  · rw [if_neg h] at hp; cases hp
theorem passA_len (a b d c l : Int) : (passA a b d c l).length ≤ 7 := by
  unfold passA
  split
  · rw [List.length_map]
    refine Nat.le_trans (List.length_filter_le _ _) ?_
    split <;> decide
  · exact Nat.zero_le _
theorem sizeL_le {a b d c l : Int} {L : List P6} (hL : ∀ p, p ∈ L → p.2.2.2.2.2 ≤ 1024) : sizeL a b d c l L ≤ L.length * 8389632 := by
  induction L with
  | nil => exact Nat.zero_le _
  | cons p L ih =>
    have h1 := ih fun q hq => hL q (List.mem_cons_of_mem _ hq)
    have h2 : p.2.2.2.2.2 * (1 + rowA a b d c l (p.2.2.2.2.1 : Nat)) ≤ 1024 * 8193 := Nat.mul_le_mul (hL p (by simp)) (by have := rowA_le a b d c l (p.2.2.2.2.1 : Nat); omega)
    have e : sizeL a b d c l (p :: L) = p.2.2.2.2.2 * (1 + rowA a b d c l (p.2.2.2.2.1 : Nat)) + sizeL a b d c l L := by unfold sizeL; rw [List.map_cons, List.sum_cons]
    rw [e, List.length_cons]
    omega
theorem take_nextP {L : List P6} {i : Nat} {p : P6} (hp : L[i]? = some p) : L.take (i + 1) = L.take i ++ [p] := by
  rw [List.take_succ_eq_append_getElem (List.getElem?_eq_some_iff.1 hp).1]
  congr 1
  rw [(List.getElem?_eq_some_iff.1 hp).2]
end Go.Proofs.YtfiedoejdikcgaaDoor
set_option linter.unusedVariables false
namespace Go.Proofs.YtfiedoejdikcgaaDoor
set_option maxRecDepth 100000
open Go
/-- What holds of a head that may be. -/
structure RightP (a b d c l : Int) (W H D C : Nat) : Prop where
  wa : a = (W : Int)
  hb : b = (H : Int)
  dd : d = (D : Int)
  cc : c = (C : Int)
  w1 : 1 ≤ W
  w2 : W ≤ 1024
  h1 : 1 ≤ H
  h2 : H ≤ 1024
  area : W * H ≤ 4096
  lace : l = 0 ∨ l = 1
  dep : depB (D : Int) = true
  d1 : 1 ≤ D
  d16 : D ≤ 16
  col : C = 0 ∨ C = 2 ∨ C = 3 ∨ C = 4 ∨ C = 6
  sam : samplesI (C : Int) = (samplesN C : Int)
  s1 : 1 ≤ samplesN C
  s4 : samplesN C ≤ 4
theorem right_form {a b d c l : Int} (h : rightH a b d c l = 0) : ∃ W H D C : Nat, RightP a b d c l W H D C := by
  obtain ⟨⟨a1, a2⟩, ⟨b1, b2⟩, ab, hl, hd⟩ := rightH_ok h
  have hd2 := of_decide_eq_true hd
  have hC : c = 0 ∨ c = 2 ∨ c = 3 ∨ c = 4 ∨ c = 6 := by omega
  have hD : d = 1 ∨ d = 2 ∨ d = 4 ∨ d = 8 ∨ d = 16 := by omega
  obtain ⟨W, rfl⟩ : ∃ W : Nat, a = (W : Int) := ⟨a.toNat, by omega⟩
  obtain ⟨H, rfl⟩ : ∃ H : Nat, b = (H : Int) := ⟨b.toNat, by omega⟩
  obtain ⟨D, rfl⟩ : ∃ D : Nat, d = (D : Int) := ⟨d.toNat, by omega⟩
  obtain ⟨C, rfl⟩ : ∃ C : Nat, c = (C : Int) := ⟨c.toNat, by omega⟩
  have hC2 : C = 0 ∨ C = 2 ∨ C = 3 ∨ C = 4 ∨ C = 6 := by omega
  have area : W * H ≤ 4096 := by exact_mod_cast ab
  refine ⟨W, H, D, C, ⟨rfl, rfl, rfl, rfl, by omega, by omega, by omega, by omega, area, hl, decide_eq_true hD, by omega, by omega, hC2, ?_, ?_, ?_⟩⟩
  all_goals rcases hC2 with rfl | rfl | rfl | rfl | rfl <;> decide
theorem rowA_len {a b d c l : Int} {W H D C : Nat} (pal tr : List UInt8) (has : Bool) (h0 : rightH a b d c l = 0) (R : RightP a b d c l W H D C) {n : Nat} (h1 : 1 ≤ n) (h2 : n ≤ 1024) : rowA a b d c l (n : Int) = rowLen ⟨W, H, D, C, pal, tr, has⟩ n :=
  rowA_ok h0 R.dd (by rw [R.cc]; exact R.sam) h1 h2
theorem size_list {a b d c l : Int} {W H D C : Nat} (pal tr : List UInt8) (has : Bool) (h0 : rightH a b d c l = 0) (R : RightP a b d c l W H D C) : ∀ B : List PassL, (∀ p, p ∈ B → p.x < p.dx ∧ p.y < p.dy) →
    sizeL a b d c l ((B.filter (someP W H)).map (p6 W H)) = sizeJ ⟨W, H, D, C, pal, tr, has⟩ (jobsL W H (B.filter (someP W H))) := by
  intro B hB
  induction B with
  | nil => rfl
  | cons p B ih =>
    have ih := ih fun q hq => hB q (List.mem_cons_of_mem _ hq)
    by_cases hp : someP W H p = true
    · rw [List.filter_cons_of_pos hp]
      have hs := of_decide_eq_true hp
      have hq := hB p (List.mem_cons_self ..)
      have hm := manyL_le W p.x p.dx (by omega)
      have e1 : sizeL a b d c l ((p :: B.filter (someP W H)).map (p6 W H)) = manyL H p.y p.dy * (1 + rowA a b d c l (manyL W p.x p.dx : Nat)) + sizeL a b d c l ((B.filter (someP W H)).map (p6 W H)) := by
        unfold sizeL
        rw [List.map_cons, List.map_cons, List.sum_cons]
        rfl
      have e2 : jobsL W H (p :: B.filter (someP W H)) = rowsP W H p ++ jobsL W H (B.filter (someP W H)) := by unfold jobsL; rw [List.flatMap_cons]
      rw [e1, e2, sizeJ_append, sizeJ_rows _ _ _ _ hs.1, ih, rowA_len pal tr has h0 R hs.1 (by have := R.w2; omega)]
    · rw [List.filter_cons_of_neg hp, ih]
theorem base_ok (l : Int) : ∀ p, p ∈ baseL l → p.x < p.dx ∧ p.y < p.dy := by
  intro p hp
  unfold baseL at hp
  exact (whole_of (decide (l = 1))).1 p hp
theorem passA_base {a b d c l : Int} {W H D C : Nat} (h0 : rightH a b d c l = 0) (R : RightP a b d c l W H D C) : passA a b d c l = ((baseL l).filter (someP W H)).map (p6 W H) := by
  unfold passA
  rw [if_pos h0, R.wa, R.hb]
  rfl
theorem sizeA_J {a b d c l : Int} {W H D C : Nat} (pal tr : List UInt8) (has : Bool) (h0 : rightH a b d c l = 0) (R : RightP a b d c l W H D C) : sizeA a b d c l = sizeJ ⟨W, H, D, C, pal, tr, has⟩ (jobsL W H ((baseL l).filter (someP W H))) := by
  unfold sizeA
  rw [passA_base h0 R]
  exact size_list pal tr has h0 R _ (base_ok l)
/-- A shape, of whatever numbers. -/
def shpA (a b d c : Int) (pal tr : ByteArray) (has : Bool) : ShP := ⟨a.toNat, b.toNat, d.toNat, c.toNat, pal.data.toList, tr.data.toList, has⟩
/-- What an image's packed bytes say, of whatever arguments. -/
def imgA (a b d c l : Int) (pal tr : ByteArray) (has : Bool) (raw : ByteArray) : List UInt8 × Int :=
  if rightH a b d c l ≠ 0 then ([], rightH a b d c l) else imgT (shpA a b d c pal tr has) ((baseL l).filter (someP a.toNat b.toNat)) raw.data.toList
def imageA (a b d c l : Int) (pal tr : ByteArray) (has : Bool) (raw : ByteArray) : (Int × Int × ByteArray) × Int :=
  if (imgA a b d c l pal tr has raw).2 ≠ 0 then ((0, 0, ⟨#[]⟩), (imgA a b d c l pal tr has raw).2) else ((a, b, strL (imgA a b d c l pal tr has raw).1), 0)
theorem imgA_bad {a b d c l : Int} {pal tr : ByteArray} {has : Bool} {raw : ByteArray} (h : rightH a b d c l ≠ 0) : imageA a b d c l pal tr has raw = ((0, 0, ⟨#[]⟩), rightH a b d c l) := by
  unfold imageA imgA
  rw [if_pos h]
  exact if_pos h
theorem imageA_err {a b d c l : Int} {pal tr : ByteArray} {has : Bool} {raw : ByteArray} {e : Int} (h : imgA a b d c l pal tr has raw = ([], e)) (he : e ≠ 0) : imageA a b d c l pal tr has raw = ((0, 0, ⟨#[]⟩), e) := by
  unfold imageA
  rw [h]
  exact if_pos he
theorem imageA_ok {a b d c l : Int} {pal tr : ByteArray} {has : Bool} {raw : ByteArray} {x : List UInt8} (h : imgA a b d c l pal tr has raw = (x, 0)) : imageA a b d c l pal tr has raw = ((a, b, strL x), 0) := by
  unfold imageA
  rw [h]
  exact if_neg (fun h => h rfl)
theorem imgA_T {a b d c l : Int} {pal tr : ByteArray} {has : Bool} {raw : ByteArray} {W H D C : Nat} (h0 : rightH a b d c l = 0) (R : RightP a b d c l W H D C) :
    imgA a b d c l pal tr has raw = imgT ⟨W, H, D, C, pal.data.toList, tr.data.toList, has⟩ ((baseL l).filter (someP W H)) raw.data.toList := by
  unfold imgA shpA
  rw [if_neg (fun h => h h0), R.wa, R.hb, R.dd, R.cc]
  rfl
theorem imgA_short {a b d c l : Int} {pal tr : ByteArray} {has : Bool} {raw : ByteArray} {W H D C : Nat} (h0 : rightH a b d c l = 0) (R : RightP a b d c l W H D C) (h : raw.size < sizeA a b d c l) : imageA a b d c l pal tr has raw = ((0, 0, ⟨#[]⟩), 30) := by
  refine imageA_err ?_ (by decide)
  rw [imgA_T h0 R]
  unfold imgT
  rw [sizeA_J pal.data.toList tr.data.toList has h0 R] at h
  exact if_pos (by rw [Array.length_toList]; exact h)
theorem imgA_long {a b d c l : Int} {pal tr : ByteArray} {has : Bool} {raw : ByteArray} {W H D C : Nat} (h0 : rightH a b d c l = 0) (R : RightP a b d c l W H D C) (h : sizeA a b d c l < raw.size) : imageA a b d c l pal tr has raw = ((0, 0, ⟨#[]⟩), 31) := by
  refine imageA_err ?_ (by decide)
  rw [imgA_T h0 R]
  unfold imgT
  rw [sizeA_J pal.data.toList tr.data.toList has h0 R] at h
  exact (if_neg (by rw [Array.length_toList]; show ¬ raw.size < _; exact Nat.lt_asymm h)).trans (if_pos (by rw [Array.length_toList]; exact h))
theorem imgA_run {a b d c l : Int} {pal tr : ByteArray} {has : Bool} {raw : ByteArray} {W H D C : Nat} (h0 : rightH a b d c l = 0) (R : RightP a b d c l W H D C) (h : raw.size = sizeA a b d c l) :
    imgA a b d c l pal tr has raw = runI ⟨W, H, D, C, pal.data.toList, tr.data.toList, has⟩ (jobsL W H ((baseL l).filter (someP W H))) raw.data.toList [] (List.replicate (8 * (W * H)) 0) := by
  rw [imgA_T h0 R]
  unfold imgT
  rw [sizeA_J pal.data.toList tr.data.toList has h0 R] at h
  exact (if_neg (by rw [Array.length_toList]; show ¬ raw.size < _; rw [h]; exact Nat.lt_irrefl _)).trans (if_neg (by rw [Array.length_toList]; show ¬ _ < raw.size; rw [h]; exact Nat.lt_irrefl _))
end Go.Proofs.YtfiedoejdikcgaaDoor
set_option maxRecDepth 100000
set_option linter.unusedVariables false
namespace Go.Proofs.YtfiedoejdikcgaaDoor
set_option maxRecDepth 100000
open Go Go.RowKit
/-- A block of bytes that may be written. -/
def BytesB (w : World) (g : Nat) (l : List UInt8) : Prop := Is w g 5 (cellsF l).toArray
theorem BytesB.but {w w' : World} {g : Nat} {l : List UInt8} {S : List Nat} (h : BytesB w g l) (k : But S w w') (hg : g ∉ S) : BytesB w' g l := Is.but h k hg
theorem BytesB.off {w : World} {gp : Nat} {l : List UInt8} (h : BytesB w gp l) {g o : Nat} {x : Int} (hc : w.cell? ⟨g, o, none⟩ = some (.int .i64 x)) : g ∉ [gp] := by
  rw [List.mem_singleton]
  rintro rfl
  rw [Is.cell h, List.getElem?_toArray] at hc
  unfold cellsF at hc
  rw [List.getElem?_map] at hc
  cases hl : l[o]? with
  | none => rw [hl] at hc; cases hc
  | some y => rw [hl] at hc; cases hc
theorem Nums.keep {w w' : World} {A : Option Addr} {n gp : Nat} {L : List Nat} {l : List UInt8} (h : Nums w A n L) (hb : BytesB w gp l) (hw : But [gp] w w') : Nums w' A n L :=
  ⟨h.1, fun hn => by
    obtain ⟨g, o, e, hg, hc⟩ := h.2 hn
    exact ⟨g, o, e, Nat.lt_of_lt_of_le hg hw.size, fun i hi => hw.cell (hc i hi) (hb.off (hc i hi))⟩⟩
theorem But.wide {w w' : World} {gp : Nat} (h : But [] w w') : But [gp] w w' := h.more fun k hk => by cases hk
/-- Numbers of a slice. -/
theorem Nums.part {w : World} {A : Option Addr} {n lo k : Nat} {L : List Nat} (h : Nums w A n L) (hk : 0 < k) (hlo : lo + k ≤ n) : ∃ g o, A = some ⟨g, o, none⟩ ∧ Nums w (some ⟨g, o + lo, none⟩) k ((L.drop lo).take k) := by
  obtain ⟨g, o, e, hg, hc⟩ := h.2 (by omega)
  refine ⟨g, o, e, by rw [List.length_take, List.length_drop, h.1]; omega, fun _ => ⟨g, o + lo, rfl, hg, fun i hi => ?_⟩⟩
  rw [List.length_take, List.length_drop] at hi
  rw [List.getElem_take, List.getElem_drop, Nat.add_assoc]
  exact hc (lo + i) (by omega)
theorem cellsF_set (pix : List UInt8) (k : Nat) (q : List UInt8) (h : k + q.length ≤ pix.length) : (cellsF pix).take k ++ (cellsF q ++ (cellsF pix).drop (k + q.length)) = cellsF (setN pix k q) := by
  unfold setN cellsF
  rw [List.map_append, List.map_append, List.map_take, List.map_drop]
/-- Bytes of a string copied into a block. -/
theorem run_copyB {w : World} {g k dLen dCap : Nat} {s : ByteArray} {l : List UInt8} (h : BytesB w g l) (hle : s.size ≤ dLen) (hfit : k + s.size ≤ l.length) (ty : TypeId) :
    ∃ w', (Builtin.copy_ #[45, 9] ty #[.slice (some ⟨g, k, none⟩) dLen dCap, .string s]).run Tryd.prog w = .ok (goInt s.size) w' ∧ BytesB w' g (setN l k s.data.toList) ∧ But [g] w w' := by
  have hr := Lib.run_copy_row_string (P := Tryd.prog) w 45 9 ty 5 g k dLen dCap s (cellsF l).toArray 5 Tryd.underlying45 (by obtain ⟨i0, hi0, hz0, hz1, hz2⟩ := info_parts info_u8F; rw [hi0]; exact congrArg some hz1) h hle (by rw [List.size_toArray, cellsF_length]; exact hfit)
  refine ⟨_, hr, ?_, ?_⟩
  · have e : ((cellsF l).toArray.toList.take k ++ Lib.byteCells s.data.toList ++ (cellsF l).toArray.toList.drop (k + s.size)).toArray = (cellsF (setN l k s.data.toList)).toArray := by
      rw [← cellsF_set l k s.data.toList (by rw [Array.length_toList]; exact hfit), List.append_assoc, Array.length_toList]
      rfl
    rw [e]
    exact setRow_heap w g _ _ _ _ h
  · exact ⟨rfl, rfl, rfl, by simp [World.setRow], fun i hi hg => setRow_other w g i _ (by simpa using hg)⟩
theorem noughtsB (w : World) (n : Nat) : BytesB (noughtsF w n) w.heap.size (List.replicate n 0) := by
  unfold BytesB noughtsF
  have e : (cellsF (List.replicate n 0)).toArray = madeCells (Value.int .u8 0).cells n := by
    have e : (Value.int .u8 0).cells = #[.int .u8 0] := rfl
    unfold madeCells cellsF
    rw [e]
    apply Array.ext'
    simp [Nat.mod_one]
    exact (List.eq_replicate_iff.2 ⟨by simp, by simp⟩).symm
  rw [e]
  exact Is.fresh w _ _
theorem BytesB.text {w : World} {g : Nat} {l : List UInt8} (h : BytesB w g l) (cap : Nat) : (convert 45 9 (.slice (some ⟨g, 0, none⟩) l.length cap)).run Tryd.prog w = .ok (.string (strL l)) w :=
  conv_atF fun j hj => by
    rw [Is.cell h, List.getElem?_toArray]
    unfold cellsF
    rw [List.getElem?_map, List.getElem?_eq_getElem hj]
    rfl
/-- Whether a raster may be. -/
def checkA (a b : Int) (pix : ByteArray) : Int := if rightH a b 16 6 0 ≠ 0 then rightH a b 16 6 0 else if (pix.size : Int) ≠ 8 * a * b then 24 else 0
end Go.Proofs.YtfiedoejdikcgaaDoor
set_option maxRecDepth 100000
set_option linter.unusedVariables false
namespace Go.Proofs.YtfiedoejdikcgaaDoor
set_option maxRecDepth 100000
open Go Go.RowKit
theorem predF_1 (a b c : Nat) : predF 1 a b c = a := by unfold predF; rw [if_pos rfl]
theorem predF_2 (a b c : Nat) : predF 2 a b c = b := by unfold predF; rw [if_neg (by decide), if_pos rfl]
theorem predF_3 (a b c : Nat) : predF 3 a b c = (a + b) / 2 := by unfold predF; rw [if_neg (by decide), if_neg (by decide), if_pos rfl]
theorem predF_4 (a b c : Nat) : predF 4 a b c = if ((b : Int) - c).natAbs ≤ ((a : Int) - c).natAbs ∧ ((b : Int) - c).natAbs ≤ ((a : Int) + b - c - c).natAbs then a else if ((a : Int) - c).natAbs ≤ ((a : Int) + b - c - c).natAbs then b else c := by
  unfold predF; rw [if_neg (by decide), if_neg (by decide), if_neg (by decide), if_pos rfl]
theorem predF_none {kind : Int} (h1 : kind ≠ 1) (h2 : kind ≠ 2) (h3 : kind ≠ 3) (h4 : kind ≠ 4) (a b c : Nat) : predF kind a b c = 0 := by
  unfold predF; rw [if_neg h1, if_neg h2, if_neg h3, if_neg h4]
theorem predF_lt (kind : Int) {a b c : Nat} (ha : a < 256) (hb : b < 256) (hc : c < 256) : predF kind a b c < 256 := by
  unfold predF
  repeat' split
  all_goals omega
/-- Which arguments may be. -/
def wrongP (bpp : Int) (s t : ByteArray) : Int := if bpp < 1 ∨ 8 < bpp ∨ (t.size ≠ 0 ∧ t.size ≠ s.size) then 1 else 0
def wrongF (bpp kind : Int) (s t : ByteArray) : Int := if wrongP bpp s t ≠ 0 then 1 else if kind < 0 ∨ 4 < kind then 28 else 0
theorem wrongP_cases (bpp : Int) (s t : ByteArray) : wrongP bpp s t = 0 ∨ wrongP bpp s t = 1 := by unfold wrongP; split <;> simp
theorem wrongF_cases (bpp kind : Int) (s t : ByteArray) : wrongF bpp kind s t = 0 ∨ wrongF bpp kind s t = 1 ∨ wrongF bpp kind s t = 28 := by
  unfold wrongF
  repeat' split
  all_goals simp
theorem wrongF_zero {bpp kind : Int} {s t : ByteArray} (h : wrongF bpp kind s t = 0) : (1 ≤ bpp ∧ bpp ≤ 8) ∧ (t.size = 0 ∨ t.size = s.size) ∧ 0 ≤ kind ∧ kind ≤ 4 := by
  unfold wrongF at h
  by_cases h1 : wrongP bpp s t ≠ 0
  · rw [if_pos h1] at h; exact absurd h (by decide)
  · rw [if_neg h1] at h
    by_cases h2 : kind < 0 ∨ 4 < kind
    · rw [if_pos h2] at h; exact absurd h (by decide)
    · unfold wrongP at h1
      by_cases h3 : bpp < 1 ∨ 8 < bpp ∨ (t.size ≠ 0 ∧ t.size ≠ s.size)
      · rw [if_pos h3] at h1; exact absurd h1 (by decide)
      · omega
end Go.Proofs.YtfiedoejdikcgaaDoor
set_option maxRecDepth 100000
set_option linter.unusedVariables false
namespace Go.Proofs.YtfiedoejdikcgaaDoor
set_option maxRecDepth 100000
open Go Go.RowKit
/-- A compare with the empty string, as the walk reads it. -/
theorem empty_eqF {t : ByteArray} (h : t.size = 0) : t = ByteArray.empty := by
  apply ByteArray.ext; apply Array.ext'
  have : t.data.toList.length = 0 := by rw [Array.length_toList]; exact h
  exact List.eq_nil_of_length_eq_zero this
theorem empty_toF {t : ByteArray} (h : t.size = 0) : t.toList = [] := by rw [ByteArray.toList_eq, empty_eqF h]; rfl
theorem empty_neF {t : ByteArray} (h : t.size ≠ 0) : (t.toList == []) = false := by
  rw [ByteArray.toList_eq]
  have h2 : t.data.toList ≠ [] := fun e => h (by show t.data.size = 0; rw [← Array.length_toList, e]; rfl)
  simpa using h2
end Go.Proofs.YtfiedoejdikcgaaDoor
set_option maxRecDepth 100000
set_option linter.unusedVariables false
namespace Go.Proofs.YtfiedoejdikcgaaDoor
set_option maxRecDepth 100000
open Go Go.RowKit
/-- A line that is filtered, of whatever arguments. -/
def doA (bpp kind : Int) (s t : ByteArray) : List UInt8 := if wrongF bpp kind s t = 0 then doF kind bpp.toNat s.data.toList t.data.toList else []
theorem doA_ok {n : Nat} {kind : Int} {s t : ByteArray} (h : wrongF (n : Int) kind s t = 0) : doA (n : Int) kind s t = doF kind n s.data.toList t.data.toList := by unfold doA; rw [if_pos h]; rfl
theorem doA_bad {bpp kind : Int} {s t : ByteArray} (h : wrongF bpp kind s t ≠ 0) : doA bpp kind s t = [] := by unfold doA; rw [if_neg h]
theorem byteF_run {s : ByteArray} {k : Nat} (hk : k < s.size) (w : World) : (Instr.index 9 (.string s) (.int .i64 (k : Int))).run Tryd.prog w = .ok (.int .u8 (s[k].toNat : Nat)) w := by
  simp [go_sem, Tryd.underlying9, hk]
end Go.Proofs.YtfiedoejdikcgaaDoor
set_option maxRecDepth 100000
set_option linter.unusedVariables false
namespace Go.Proofs.YtfiedoejdikcgaaDoor
set_option maxRecDepth 100000
open Go Go.RowKit
/-- A line of which the filter is undone, of whatever arguments. -/
def undoA (bpp kind : Int) (s t : ByteArray) : List UInt8 := if wrongF bpp kind s t = 0 then undoF kind bpp.toNat s.data.toList t.data.toList else []
theorem undoA_ok {n : Nat} {kind : Int} {s t : ByteArray} (h : wrongF (n : Int) kind s t = 0) : undoA (n : Int) kind s t = undoF kind n s.data.toList t.data.toList := by unfold undoA; rw [if_pos h]; rfl
theorem undoA_bad {bpp kind : Int} {s t : ByteArray} (h : wrongF bpp kind s t ≠ 0) : undoA bpp kind s t = [] := by unfold undoA; rw [if_neg h]
theorem behindF_lt (l : List UInt8) (n k : Nat) : behindF l n k < 256 := by
  unfold behindF
  split
  · omega
  · exact UInt8.toNat_lt _
end Go.Proofs.YtfiedoejdikcgaaDoor
