/- Several texts in one: PxM, LcA (what PixelImages, PixelRows, PixelSame reach of them). -/
import Derived.Test.YtfiedoejdikcgaaDoorQ01
import Derived.Test.YtfiedoejdikcgaaDoorQ02
import Derived.Test.YtfiedoejdikcgaaDoorQ03
import Derived.Test.YtfiedoejdikcgaaDoorQ04
import Derived.Below
import Derived.BigQuiet
import Derived.BigRegion
import Derived.Deep.AppendLies
import Derived.Deep.CutBlock
import Derived.Deep.CutRange
import Derived.Deep.DeepCutAuto
import Derived.Deep.Draws
import Derived.Deep.QuietTactic
import Derived.Deep.RegionLaw
import Derived.Deep.RegionWith
import Derived.Handy
import Derived.Laws.BitsAllLaws
import Derived.Laws.BitsLemmas
import Derived.Laws.BytesArg
import Derived.Laws.IdiomStrings
import Derived.Laws.MakeOwn
import Derived.Laws.OwnMore
import Derived.Laws.Rows
import Derived.Laws.StructEq
import Derived.Lib.Hide
import Derived.Maps.AppendAt
import Derived.OrdersHeld
import Derived.OrdersIn
import Derived.Outline
import Derived.OwnWalk
import Derived.OwnWalkIn
import Derived.RangeFuncCalls
import Derived.RegionTactic
import Derived.TacticsInMore
import Derived.Test.YtfiedoejdikcgaaDoorChecked
import Derived.WalkKit
set_option maxRecDepth 100000
set_option linter.unusedVariables false
set_option linter.unusedVariables false
namespace Go.Proofs.YtfiedoejdikcgaaDoor
set_option maxRecDepth 100000
open Go
/-- A row of a pass. -/
def jobP (w : Nat) (p : PassL) (j : Nat) : RowJ := ⟨p.x, p.dx, p.y + j * p.dy, manyL w p.x p.dx, decide (j = 0)⟩
/-- The rows of a pass from one on. -/
def leftP (w h : Nat) (p : PassL) (y : Nat) : List RowJ := (List.range' y (manyL h p.y p.dy - y)).map (jobP w p)
theorem leftP_zero {w h : Nat} {p : PassL} (hw : 0 < manyL w p.x p.dx) : leftP w h p 0 = rowsP w h p := by
  unfold leftP rowsP
  rw [if_neg (by omega), Nat.sub_zero, List.range_eq_range']
  rfl
theorem leftP_next {w h : Nat} {p : PassL} {y : Nat} (hy : y < manyL h p.y p.dy) : leftP w h p y = jobP w p y :: leftP w h p (y + 1) := by
  unfold leftP
  rw [show manyL h p.y p.dy - y = (manyL h p.y p.dy - (y + 1)) + 1 by omega, List.range'_succ, List.map_cons]
theorem leftP_end {w h : Nat} {p : PassL} {y : Nat} (hy : manyL h p.y p.dy ≤ y) : leftP w h p y = [] := by
  unfold leftP
  rw [show manyL h p.y p.dy - y = 0 by omega]
  rfl
/-- The rows that are left at a row of a pass. -/
def leftJ (w h : Nat) (L : List PassL) (i : Nat) (p : PassL) (y : Nat) : List RowJ := leftP w h p y ++ jobsL w h (L.drop (i + 1))
theorem leftJ_start {w h : Nat} {L : List PassL} {i : Nat} {p : PassL} (hp : L[i]? = some p) (hw : 0 < manyL w p.x p.dx) : leftJ w h L i p 0 = jobsL w h (L.drop i) := by
  have hi := (List.getElem?_eq_some_iff.1 hp)
  obtain ⟨h1, h2⟩ := hi
  unfold leftJ
  rw [leftP_zero hw, List.drop_eq_getElem_cons h1, h2]
  rfl
theorem leftJ_next {w h : Nat} {L : List PassL} {i : Nat} {p : PassL} {y : Nat} (hy : y < manyL h p.y p.dy) : leftJ w h L i p y = jobP w p y :: leftJ w h L i p (y + 1) := by
  unfold leftJ
  rw [leftP_next hy]
  rfl
theorem sizeJ_cons (S : ShP) (j : RowJ) (js : List RowJ) : sizeJ S (j :: js) = 1 + rowLen S j.n + sizeJ S js := by
  unfold sizeJ
  rw [List.map_cons, List.sum_cons]
theorem sizeJ_append (S : ShP) (a b : List RowJ) : sizeJ S (a ++ b) = sizeJ S a + sizeJ S b := by
  unfold sizeJ
  rw [List.map_append, List.sum_append]
theorem sizeJ_rows (S : ShP) (w h : Nat) (p : PassL) (hw : 0 < manyL w p.x p.dx) : sizeJ S (rowsP w h p) = manyL h p.y p.dy * (1 + rowLen S (manyL w p.x p.dx)) := by
  unfold rowsP sizeJ
  rw [if_neg (by omega), List.map_map]
  have e : ∀ k : Nat, ((List.range k).map ((fun j : RowJ => 1 + rowLen S j.n) ∘ fun j => (⟨p.x, p.dx, p.y + j * p.dy, manyL w p.x p.dx, decide (j = 0)⟩ : RowJ))).sum = k * (1 + rowLen S (manyL w p.x p.dx)) := by
    intro k
    induction k with
    | zero => rw [Nat.zero_mul]; rfl
    | succ k ih =>
      rw [List.range_succ, List.map_append, List.sum_append, ih, Nat.succ_mul]
      rfl
  exact e _
/-- One row of an image: its kind, its bytes undone. -/
def kindJ (raw : List UInt8) : Nat := (raw.getD 0 0).toNat
def lineJ (S : ShP) (j : RowJ) (raw above : List UInt8) : List UInt8 := undoF (kindJ raw : Nat) (bppN S) ((raw.drop 1).take (rowLen S j.n)) (if j.first = true then [] else above)
theorem runI_bad {S : ShP} {j : RowJ} {js : List RowJ} {raw above pix : List UInt8} (h : 4 < kindJ raw) : runI S (j :: js) raw above pix = ([], 28) := by
  rw [runI]
  exact if_pos h
theorem runI_err {S : ShP} {j : RowJ} {js : List RowJ} {raw above pix : List UInt8} (h : ¬ 4 < kindJ raw) (h2 : (pixGo S (lineJ S j raw above) j j.n 0 pix).2 ≠ 0) : runI S (j :: js) raw above pix = ([], (pixGo S (lineJ S j raw above) j j.n 0 pix).2) := by
  rw [runI]
  exact (if_neg h).trans (if_pos h2)
theorem runI_go {S : ShP} {j : RowJ} {js : List RowJ} {raw above pix : List UInt8} (h : ¬ 4 < kindJ raw) (h2 : (pixGo S (lineJ S j raw above) j j.n 0 pix).2 = 0) : runI S (j :: js) raw above pix = runI S js (raw.drop (1 + rowLen S j.n)) (lineJ S j raw above) (pixGo S (lineJ S j raw above) j j.n 0 pix).1 := by
  rw [runI]
  exact (if_neg h).trans (if_neg fun h3 => h3 h2)
theorem pixGo_err {S : ShP} {line : List UInt8} {j : RowJ} {m x : Nat} {pix : List UInt8} (h : (pixS S (sampsL S line x)).2 ≠ 0) : pixGo S line j (m + 1) x pix = ([], (pixS S (sampsL S line x)).2) := by
  rw [pixGo]
  exact if_pos h
theorem pixGo_go {S : ShP} {line : List UInt8} {j : RowJ} {m x : Nat} {pix : List UInt8} (h : (pixS S (sampsL S line x)).2 = 0) : pixGo S line j (m + 1) x pix = pixGo S line j m (x + 1) (setN pix (8 * (j.y * S.w + (j.x + x * j.dx))) (pixS S (sampsL S line x)).1) := by
  rw [pixGo]
  exact if_neg fun h3 => h3 h
theorem wideA_N {D x : Nat} (hD : depB (D : Int) = true) (hx : x < 2 ^ D) : wideA (x : Int) (D : Int) = wideN x D := by
  rw [wideA_yes hD]
  unfold wideN
  have e : ((x : Int) % 2 ^ D).toNat = x := by
    have e2 : (2 : Int) ^ D = ((2 ^ D : Nat) : Int) := by simp
    rw [e2, ← Int.natCast_emod, Nat.mod_eq_of_lt hx]
    rfl
  rw [e]
theorem map_getD (l : List Nat) (i : Nat) : (l.map fun x => ((x : Nat) : Int)).getD i 0 = ((l.getD i 0 : Nat) : Int) := by
  rw [List.getD_eq_getElem?_getD, List.getD_eq_getElem?_getD, List.getElem?_map]
  cases l[i]? <;> rfl
theorem sameT_S {w h D c : Nat} {pal tr : ByteArray} {has : Bool} {l : List Nat} : sameT ⟨w, h, D, c, pal.data.toList, tr.data.toList, has⟩ l = sameS D tr has (l.map fun x => ((x : Nat) : Int)) := by
  unfold sameT sameS sameAt
  show (has && decide (tr.data.toList.length = 2 * l.length) && _) = _
  rw [Array.length_toList, List.length_map]
  congr 1
  refine congrArg (List.all (List.range l.length)) (funext fun i => ?_)
  show decide ((256 * (tr.data.toList.getD (2 * i) 0).toNat + (tr.data.toList.getD (2 * i + 1) 0).toNat) % 2 ^ D = l.getD i 0) = _
  rw [map_getD]
  by_cases h : (256 * (tr.data.toList.getD (2 * i) 0).toNat + (tr.data.toList.getD (2 * i + 1) 0).toNat) % 2 ^ D = l.getD i 0
  · rw [decide_eq_true h, decide_eq_true (by exact_mod_cast h)]
  · rw [decide_eq_false h, decide_eq_false (by exact_mod_cast h)]
theorem pixA_S {w h D c : Nat} {pal tr : ByteArray} {has : Bool} {l : List Nat} (hD : depB (D : Int) = true) (hl : ∀ i, l.getD i 0 < 2 ^ D) :
    pixA D (c : Int) pal tr has (l.map fun x => ((x : Nat) : Int)) = (strL (pixS ⟨w, h, D, c, pal.data.toList, tr.data.toList, has⟩ l).1, (pixS ⟨w, h, D, c, pal.data.toList, tr.data.toList, has⟩ l).2) := by
  have hw : ∀ i, wideA ((l.map fun x => ((x : Nat) : Int)).getD i 0) (D : Int) = wideN (l.getD i 0) D := fun i => by rw [map_getD, wideA_N hD (hl i)]
  have ha : twoB (alphaA D tr has (l.map fun x => ((x : Nat) : Int))) = alphaS ⟨w, h, D, c, pal.data.toList, tr.data.toList, has⟩ l := by
    unfold alphaA alphaS
    rw [sameT_S]
    split <;> rfl
  unfold pixA pixS
  simp only [hw]
  by_cases c0 : c = 0
  · subst c0
    rw [if_pos (by rfl), if_pos rfl]
    unfold px4
    rw [ha]
    rfl
  rw [if_neg (by omega), if_neg c0]
  by_cases c2 : c = 2
  · subst c2
    rw [if_pos (by rfl), if_pos rfl]
    unfold px4
    rw [ha]
    rfl
  rw [if_neg (by omega), if_neg c2]
  by_cases c4 : c = 4
  · subst c4
    rw [if_pos (by rfl), if_pos rfl]
    rfl
  rw [if_neg (by omega), if_neg c4]
  by_cases c6 : c = 6
  · subst c6
    rw [if_pos (by rfl), if_pos rfl]
    rfl
  rw [if_neg (by omega), if_neg c6, map_getD, Int.toNat_natCast]
  by_cases hs : pal.size < 3 * l.getD 0 0 + 3
  · rw [if_pos hs, if_pos (by show pal.data.toList.length < _; rw [Array.length_toList]; exact hs)]
    rfl
  · rw [if_neg hs, if_neg (by show ¬ pal.data.toList.length < _; rw [Array.length_toList]; exact hs)]
    have hp : twoB (alphaP tr has (l.getD 0 0)) = if has = true ∧ l.getD 0 0 < tr.data.toList.length then twoL (257 * (tr.data.toList.getD (l.getD 0 0) 0).toNat) else twoL 65535 := by
      unfold alphaP
      rw [Array.length_toList]
      show twoB (if has = true ∧ l.getD 0 0 < tr.size then _ else _) = if has = true ∧ l.getD 0 0 < tr.size then _ else _
      split <;> rfl
    unfold px4
    rw [hp]
    rfl
end Go.Proofs.YtfiedoejdikcgaaDoor
set_option maxRecDepth 100000
set_option linter.unusedVariables false
namespace Go.Proofs.YtfiedoejdikcgaaDoor
set_option maxRecDepth 100000
open Go Go.RowKit
set_option maxHeartbeats 1000000 in
theorem emany_any (w : World) {n first step : Nat} (hn : n ≤ 100000) (hf : first ≤ 100) (h1 : 1 ≤ step) (h2 : step ≤ 100) :
    Calls Tryd.prog 45 #[.int .i64 n, .int .i64 first, .int .i64 step] w fun e w' => e = .returned (.int .i64 (manyL n first step : Nat)) ∧ w = w' := by
  obtain ⟨m, hm⟩ : ∃ m, m = manyL n first step := ⟨_, rfl⟩
  have hk := manyL_lt (n := n) (first := first) h1
  have hle := manyL_le n first step h1
  rw [← hm] at hk hle ⊢
  have HK := Lib.hid hk
  clear hm hk
  go_enter Tryd.func45, Tryd.ntmps45
  go_wp2
  go_loop [7, 8] (fun kv iv => ∃ k i : Nat, k ≤ m ∧ kv = .int .i64 k ∧ iv = .int .i64 i ∧ Hid (i = first + k * step)) (fun kv _ => m - (intOf kv).toNat)
  case atStart => exact ⟨0, first, Nat.zero_le _, rfl, rfl, Lib.hid (by omega)⟩
  case round =>
    obtain ⟨k, i, hkm, rfl, rfl, HI⟩ := hrel
    by_cases hlt : k < m
    · have hin := (HK.out k).1 hlt
      rw [← HI.out] at hin
      have HN : Hid (i + step = first + (k + 1) * step) := Lib.hid (by rw [Nat.add_mul, HI.out]; omega)
      go_wp2
      go_round
      case rel => exact ⟨k + 1, i + step, by omega, by go_num, by go_num, HN⟩
      case measure => simp [intOf] <;> omega
    · obtain rfl : k = m := by omega
      have hin : ¬ i < n := fun h => hlt ((HK.out k).2 (by rw [← HI.out]; exact h))
      have hib : i ≤ 1000000000 := by
        have := HI.out
        have : k * step ≤ 100000 * 100 := Nat.mul_le_mul (by omega) h2
        omega
      go_wp2
      go_ret
      exact ⟨rfl, rfl⟩
/-- A pass: X, Y, DX, DY, W, H. -/
abbrev P6 := Nat × Nat × Nat × Nat × Nat × Nat
def p6Val (p : P6) : Value := .agg #[.int .i64 p.1, .int .i64 p.2.1, .int .i64 p.2.2.1, .int .i64 p.2.2.2.1, .int .i64 p.2.2.2.2.1, .int .i64 p.2.2.2.2.2]
def p6Cells (p : P6) : List Value := [.int .i64 p.1, .int .i64 p.2.1, .int .i64 p.2.2.1, .int .i64 p.2.2.2.1, .int .i64 p.2.2.2.2.1, .int .i64 p.2.2.2.2.2]
def psCells (L : List P6) : List Value := L.flatMap p6Cells
theorem psCells_append (L M : List P6) : psCells (L ++ M) = psCells L ++ psCells M := by simp [psCells]
theorem psCells_cons (x : P6) (L : List P6) : psCells (x :: L) = p6Cells x ++ psCells L := by simp [psCells]
theorem psCells_at : ∀ (L : List P6) (i k : Nat) (h : i < L.length), k < 6 → (psCells L)[i * 6 + k]? = (p6Cells L[i])[k]?
  | x :: L, 0, k, _, hk => by
    rw [psCells_cons, List.getElem?_append_left (by show _ < 6; omega), Nat.zero_mul, Nat.zero_add]
    rfl
  | x :: L, i + 1, k, h, hk => by
    have := psCells_at L i k (by simpa using h) hk
    rw [psCells_cons, List.getElem?_append_right (by show 6 ≤ _; omega)]
    have e : (i + 1) * 6 + k - (p6Cells x).length = i * 6 + k := by show (i + 1) * 6 + k - 6 = _; omega
    rw [e, this]
    rfl
/-- A slice reads as these passes. -/
def Pss (w : World) (A : Option Addr) (n : Nat) (L : List P6) : Prop :=
  L.length = n ∧ (0 < n → ∃ g o, A = some ⟨g, o, none⟩ ∧ g < w.heap.size ∧ ∀ (i k : Nat) (h : i < L.length), k < 6 → w.cell? ⟨g, o + i * 6 + k, none⟩ = (p6Cells L[i])[k]?)
theorem Pss.nil (w : World) (A : Option Addr) : Pss w A 0 [] := ⟨rfl, fun h => absurd h (by omega)⟩
theorem Pss.but {w w' : World} {A : Option Addr} {n : Nat} {L : List P6} (h : Pss w A n L) (hw : But [] w w') : Pss w' A n L :=
  ⟨h.1, fun hn => by
    obtain ⟨g, o, e, hg, hc⟩ := h.2 hn
    refine ⟨g, o, e, Nat.lt_of_lt_of_le hg hw.size, fun i k hi hk => ?_⟩
    have h1 := hc i k hi hk
    rw [← h1]
    have hb := hw.block g hg (by simp)
    simp [World.cell?, hb]⟩
theorem Pss.at {w : World} {A : Option Addr} {n : Nat} {L : List P6} (h : Pss w A n L) {i : Nat} (hi : i < n) :
    ∃ (g o : Nat) (p : P6), A = some ⟨g, o, none⟩ ∧ g < w.heap.size ∧ L[i]? = some p ∧ w.cell? ⟨g, o + i * 6, none⟩ = some (.int .i64 p.1) ∧ w.cell? ⟨g, o + i * 6 + 1, none⟩ = some (.int .i64 p.2.1) ∧ w.cell? ⟨g, o + i * 6 + 2, none⟩ = some (.int .i64 p.2.2.1) ∧
      w.cell? ⟨g, o + i * 6 + 3, none⟩ = some (.int .i64 p.2.2.2.1) ∧ w.cell? ⟨g, o + i * 6 + 4, none⟩ = some (.int .i64 p.2.2.2.2.1) ∧ w.cell? ⟨g, o + i * 6 + 5, none⟩ = some (.int .i64 p.2.2.2.2.2) := by
  obtain ⟨g, o, e, hg, hc⟩ := h.2 (by omega)
  have hl : i < L.length := by have := h.1; omega
  exact ⟨g, o, L[i], e, hg, List.getElem?_eq_getElem hl, hc i 0 hl (by omega), hc i 1 hl (by omega), hc i 2 hl (by omega), hc i 3 hl (by omega), hc i 4 hl (by omega), hc i 5 hl (by omega)⟩
/-- A block that is just these passes. -/
theorem Pss.of {w : World} {g : Nat} {L : List P6} {cs : Array Value} (h : Is w g 52 cs) (hc : cs.toList = psCells L) : Pss w (some ⟨g, 0, none⟩) L.length L := by
  refine ⟨rfl, fun _ => ⟨g, 0, rfl, h.lt, fun i k hi hk => ?_⟩⟩
  rw [h.cell, ← psCells_at L i k hi hk, ← hc, Nat.zero_add, Array.getElem?_toList]
/-- Passes of the call's own. -/
def OwnP6 (w : World) (base : Nat) (v : Value) (L : List P6) : Prop := w.ownsRow base 52 6 v L.length (psCells L)
theorem OwnP6.nil (w : World) (base : Nat) : OwnP6 w base (.slice none 0 0) [] := World.ownsRow_nil _ _ _ _
theorem OwnP6.but {w w' : World} {base : Nat} {v : Value} {L : List P6} (h : OwnP6 w base v L) (hw : But [] w w') : OwnP6 w' base v L := by
  obtain ⟨h1, h2⟩ := h
  refine ⟨h1, ?_⟩
  rcases h2 with h2 | ⟨g, cap, cur, rfl, hg, hh, r⟩
  · exact .inl h2
  · have hlt : g < w.heap.size := (Array.getElem?_eq_some_iff.1 hh).1
    exact .inr ⟨g, cap, cur, rfl, hg, (hw.block g hlt (by simp)).trans hh, r⟩
theorem OwnP6.shape {w : World} {base : Nat} {v : Value} {L : List P6} (h : OwnP6 w base v L) : ∃ A c, v = .slice A L.length c ∧ L.length ≤ c := by
  rcases h.2 with ⟨rfl, e⟩ | ⟨g, cap, cur, rfl, _, _, hc, _⟩
  · have : L = [] := List.eq_nil_of_length_eq_zero e
    subst this
    exact ⟨none, 0, rfl, Nat.le_refl _⟩
  · exact ⟨_, cap, rfl, hc⟩
theorem OwnP6.lt {w : World} {base : Nat} {v : Value} {L : List P6} (h : OwnP6 w base v L) : ∀ g, v.ownBlock = some g → base ≤ g := fun g e => (World.ownsRow.lt h g e).1
theorem OwnP6.pss {w : World} {base n c : Nat} {A : Option Addr} {L : List P6} (h : OwnP6 w base (.slice A n c) L) : Pss w A L.length L := by
  refine ⟨rfl, fun hn => ?_⟩
  obtain ⟨g, cap, e, h1, h2⟩ := World.ownsRow.form h hn
  injection e with e1 e2 e3
  subst e1 e3
  refine ⟨g, 0, rfl, h2, fun i k hi hk => ?_⟩
  have hl : (psCells L)[i * 6 + k]? = (p6Cells L[i])[k]? := psCells_at L i k hi hk
  have hk6 : k < (p6Cells L[i]).length := hk
  rw [List.getElem?_eq_getElem hk6] at hl ⊢
  have hc := World.ownsRow.cells h (g := g) rfl (i * 6 + k) _ hl
  have e2 : (⟨g, 0, none⟩ : Addr).add (i * 6 + k) = ⟨g, 0 + i * 6 + k, none⟩ := by unfold Addr.add; split <;> simp_all
  rw [e2] at hc
  exact hc
theorem info_pass : (Tryd.prog.info? 52).map (fun i => (i.zero, i.size, i.bytes)) = some (some (.agg #[.int .i64 0, .int .i64 0, .int .i64 0, .int .i64 0, .int .i64 0, .int .i64 0]), 6, 48) := by kernel_rfl
theorem news_p6 {w : World} {g : Nat} {cs : Array Value} (h : Is w g 52 cs) : ∀ (j : Nat) u, cs.toList[j]? = some u → w.cell? ((⟨g, 0, none⟩ : Addr).add j) = some u := by
  intro j u hj
  have e2 : (⟨g, 0, none⟩ : Addr).add j = ⟨g, j, none⟩ := by unfold Addr.add; split <;> simp_all
  rw [e2, h.cell, ← Array.getElem?_toList]
  exact hj
/-- One pass appended. -/
theorem wpList_append_p6 {w0 : World} (w : World) {ops : Array Oper} {rest : List Oper} {o : Oper} {a : Act} {Q : Exit → Act → World → Prop} (hgd : o.guard = none) (sl x : Operand)
    (ho : o.op = .call { callee := .builtin .append, args := #[sl, x], argTypes := #[49, 49] })
    (v : Value) (L : List P6) (hs : a.eval sl = v) (hO : OwnP6 w w0.heap.size v L) (hB : But [] w0 w) (p : P6) {cs : Array Value} (hcs : cs.toList = p6Cells p) {g : Nat} (hx : a.eval x = .slice (some ⟨g, 0, none⟩) 1 1) (hI : Is w g 52 cs) (hbound : L.length < 1000000)
    (h : ∀ A c w' M, M = L ++ [p] → OwnP6 w' w0.heap.size (.slice A M.length c) M → But [] w0 w' → (∀ i t cs, Is w i t cs → t ≠ 52 ∨ i < w0.heap.size → Is w' i t cs) → (∀ A n M, Pss w A n M → (∀ g o, A = some ⟨g, o, none⟩ → v.ownBlock ≠ some g) → Pss w' A n M) → (∀ g, v.ownBlock ≠ some g → g < w.heap.size → (Value.slice A M.length c).ownBlock ≠ some g) → wpList Tryd.prog ops Q rest (a.put o.dst (.slice A M.length c)) w') : wpList Tryd.prog ops Q (o :: rest) a w := by
  obtain ⟨i0, hi0, hz0, hz1, hz2⟩ := info_parts info_pass
  refine wpList_append_own_at w hgd sl x 49 ho w0.heap.size 52 i0 _ 6 48 Tryd.underlying49 hi0 hz0 hz1 hz2 rfl (by decide) v L.length (psCells L) hs hO ⟨g, 0, none⟩ 1 1 cs.toList hx (by rw [hcs]; rfl) (news_p6 hI) (by rw [hcs]; simp [Value.oneCell', p6Cells]) (by unfold maxLen; omega) (by omega) hB.size ?_
  intro v' w' hown hgrow _ hat
  have hO2 : OwnP6 w' w0.heap.size v' (L ++ [p]) := by
    unfold OwnP6
    rw [List.length_append, psCells_append]
    have e : psCells [p] = cs.toList := by rw [hcs]; simp [psCells]
    rw [e]
    exact hown
  obtain ⟨A, c, rfl, _⟩ := hO2.shape
  refine h A c w' _ rfl hO2 (hB.grown hgrow (fun k e => .inr (hO.lt k e))) (fun i t cs2 h1 h2 => h1.grown hgrow fun e => ?_) (fun A2 n M hP hne => ⟨hP.1, fun hn => ?_⟩) (fun g3 h3 h4 e => ?_)
  · rcases h2 with h2 | h2
    · obtain ⟨_, hcase⟩ := hO
      rcases hcase with ⟨rfl, _⟩ | ⟨g1, cap, cur, rfl, _, hh, _⟩
      · cases e
      · have e2 : i = g1 := by simpa [Value.ownBlock] using e
        subst e2
        unfold Is at h1
        rw [h1] at hh
        injection hh with hh
        injection hh with _ h4 _
        exact h2 h4
    · have := hO.lt i e.symm
      omega
  · obtain ⟨g2, o2, e, hg, hc⟩ := hP.2 hn
    refine ⟨g2, o2, e, Nat.lt_of_lt_of_le hg hgrow.size, fun i k hi hk => ?_⟩
    rw [← hc i k hi hk]
    have hb := hgrow.block g2 hg (fun e2 => hne g2 o2 e e2.symm)
    simp [World.cell?, hb]
  · rcases hat with hat | hat
    · exact h3 (hat.symm.trans e)
    · rw [hat] at e
      have : w.heap.size = g3 := by simpa using e
      omega
end Go.Proofs.YtfiedoejdikcgaaDoor
