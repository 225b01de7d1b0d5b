/- Several texts in one: LzA, DgA, LzC, LzD, LzE, EfC, EfD (what Unwraps, Wraps reach of them). -/
import Derived.Test.YtghegmbafbpnjaaGreatDoorPm01
import Derived.Test.YtghegmbafbpnjaaGreatDoorPm02
import Derived.Test.YtghegmbafbpnjaaGreatDoorPm03
import Derived.Test.YtghegmbafbpnjaaGreatDoorPm04
import Derived.Test.YtghegmbafbpnjaaGreatDoorPm05
import Derived.Test.YtghegmbafbpnjaaGreatDoorPm06
import Derived.Test.YtghegmbafbpnjaaGreatDoorPm07
import Derived.Test.YtghegmbafbpnjaaGreatDoorPm08
import Derived.Test.YtghegmbafbpnjaaGreatDoorPm09
import Derived.Test.YtghegmbafbpnjaaGreatDoorPm10
import Derived.Test.YtghegmbafbpnjaaGreatDoorPm11
import Derived.Test.YtghegmbafbpnjaaGreatDoorPm12
import Derived.Test.YtghegmbafbpnjaaGreatDoorPm13
import Derived.Below
import Derived.BigQuiet
import Derived.BigRegion
import Derived.Deep.AppendLies
import Derived.Deep.CutRange
import Derived.Deep.DeepCutAuto
import Derived.Deep.Draws
import Derived.Deep.LoopGhost
import Derived.Deep.QuietTactic
import Derived.Deep.RegionLaw
import Derived.Deep.RegionWith
import Derived.Deep.Slices
import Derived.Handy
import Derived.Laws.BitsAllLaws
import Derived.Laws.BitsLemmas
import Derived.Laws.CopyOwn
import Derived.Laws.IdiomStrings
import Derived.Laws.OwnMore
import Derived.Laws.Rows
import Derived.Laws.Strings2
import Derived.Laws.Strings3
import Derived.Laws.StructEq
import Derived.Lib.AppendStr
import Derived.Lib.Hide
import Derived.Lib.Strings
import Derived.LoopIn
import Derived.LoopNIn
import Derived.OneCell
import Derived.OpenShut
import Derived.Outline
import Derived.OwnWalk
import Derived.OwnWalkIn
import Derived.ProofKit
import Derived.RangeFuncBound
import Derived.RangeFuncCalls
import Derived.RangeFuncLeaves
import Derived.RangeFuncNested
import Derived.RegionTactic
import Derived.ScopeJumps
import Derived.Shelf.Abstract
import Derived.Shelf.RegionOpen
import Derived.Shelf.SlSortCmp.QuietGrown
import Derived.StillTailTactics
import Derived.TacticsInMore
import Derived.Test.YtghegmbafbpnjaaGreatDoorChecked
import Derived.WalkKit
import Derived.WalkLawsBesides
import Derived.WalkMore
import Derived.WalkSpells
set_option maxRecDepth 100000
set_option linter.unusedVariables false
set_option maxRecDepth 100000
namespace Go.Proofs.YtghegmbafbpnjaaGreatDoor
set_option maxRecDepth 100000
open Go Go.RowKit Go.ChangeShapes Go.WideShapes
theorem But.freshZ {w w1 w2 : World} {S : List Nat} (h : But [] w w1) (k : But S w1 w2) (hS : ∀ i ∈ S, w.heap.size ≤ i) : But [] w w2 :=
  ⟨k.os.trans h.os, k.tape.trans h.tape, k.output.trans h.output, Nat.le_trans h.size k.size, fun i hi _ =>
    (k.block i (Nat.lt_of_lt_of_le hi h.size) (fun e => by have := hS i e; omega)).trans (h.block i hi (by simp))⟩
theorem But.belowZ {w w' : World} (h : But [] w w') : Below w.heap.size w w' := ⟨h.os, h.tape, h.output, h.size, fun k hk => h.block k hk (by simp)⟩
/-- A token: its length, its distance, its byte. -/
abbrev T3 := Int × Int × Int
def tkVal (t : T3) : Value := .agg #[.int .i64 t.2.2, .int .i64 t.1, .int .i64 t.2.1]
theorem tok_eql (w : World) (a b c d e f : Int) : (binOp .eql 63 (.agg #[.int .i64 a, .int .i64 b, .int .i64 c]) (.agg #[.int .i64 d, .int .i64 e, .int .i64 f])).run Tryz.prog w = .ok (.bool (decide (a = d ∧ b = e ∧ c = f))) w := by
  rw [run_eql_struct, show (10000 : Nat) = 9998 + 1 + 1 from rfl, run_equalIn_agg w _ _ _ _ (by kernel_rfl) (by kernel_rfl)]
  have hf : (Tryz.prog.fieldsOf 63).toList = [⟨ "Byte", 3, 0, false, "", "", 0⟩, ⟨ "Len", 3, 1, false, "", "", 8⟩, ⟨ "Dist", 3, 2, false, "", "", 16⟩] := by kernel_rfl
  rw [hf]
  by_cases h1 : a = d <;> by_cases h2 : b = e <;> by_cases h3 : c = f <;> simp [go_sem, Op.eqFields, h1, h2, h3]
def tkCells (L : List T3) : List Value := L.flatMap fun t => [.int .i64 t.2.2, .int .i64 t.1, .int .i64 t.2.1]
theorem tkCells_append (L M : List T3) : tkCells (L ++ M) = tkCells L ++ tkCells M := by simp [tkCells]
theorem tkCells_at : ∀ (L : List T3) (i : Nat) (h : i < L.length), (tkCells L)[i * 3]? = some (.int .i64 L[i].2.2) ∧ (tkCells L)[i * 3 + 1]? = some (.int .i64 L[i].1) ∧ (tkCells L)[i * 3 + 2]? = some (.int .i64 L[i].2.1)
  | x :: L, 0, _ => by simp [tkCells]
  | x :: L, i + 1, h => by
    have := tkCells_at L i (by simpa using h)
    have e : tkCells (x :: L) = .int .i64 x.2.2 :: .int .i64 x.1 :: .int .i64 x.2.1 :: tkCells L := by simp [tkCells]
    rw [e, show (i + 1) * 3 = i * 3 + 1 + 1 + 1 from by omega, show i * 3 + 1 + 1 + 1 + 1 = i * 3 + 1 + 1 + 1 + 1 from rfl]
    simpa using this
theorem length_tkCells (L : List T3) : (tkCells L).length = L.length * 3 := by
  induction L with
  | nil => rfl
  | cons x L ih => simp only [tkCells, List.flatMap_cons, List.length_append] at ih ⊢; rw [ih]; simp; omega
/-- A slice reads as these tokens. -/
def Tks (w : World) (A : Option Addr) (n : Nat) (L : List T3) : Prop :=
  L.length = n ∧ (0 < n → ∃ g o, A = some ⟨g, o, none⟩ ∧ g < w.heap.size ∧ ∀ (i : Nat) (h : i < L.length), w.cell? ⟨g, o + i * 3, none⟩ = some (.int .i64 L[i].2.2) ∧ w.cell? ⟨g, o + i * 3 + 1, none⟩ = some (.int .i64 L[i].1) ∧ w.cell? ⟨g, o + i * 3 + 2, none⟩ = some (.int .i64 L[i].2.1))
theorem Tks.but {w w' : World} {A : Option Addr} {n : Nat} {L : List T3} (h : Tks w A n L) (hw : But [] w w') : Tks w' A n L :=
  ⟨h.1, fun hn => by
    obtain ⟨g, o, e, hg, hc⟩ := h.2 hn
    exact ⟨g, o, e, Nat.lt_of_lt_of_le hg hw.size, fun i hi => ⟨hw.cell (hc i hi).1 (by simp), hw.cell (hc i hi).2.1 (by simp), hw.cell (hc i hi).2.2 (by simp)⟩⟩⟩
theorem Tks.at {w : World} {A : Option Addr} {n : Nat} {L : List T3} (h : Tks w A n L) {i : Nat} (hi : i < n) :
    ∃ g o b x d, A = some ⟨g, o, none⟩ ∧ g < w.heap.size ∧ w.cell? ⟨g, o + i * 3, none⟩ = some (.int .i64 b) ∧ w.cell? ⟨g, o + i * 3 + 1, none⟩ = some (.int .i64 x) ∧ w.cell? ⟨g, o + i * 3 + 2, none⟩ = some (.int .i64 d) ∧ L[i]? = some (x, d, b) := by
  obtain ⟨g, o, e, hg, hc⟩ := h.2 (by omega)
  have hl : i < L.length := by have := h.1; omega
  exact ⟨g, o, _, _, _, e, hg, (hc i hl).1, (hc i hl).2.1, (hc i hl).2.2, List.getElem?_eq_getElem hl⟩
theorem Tks.nil (w : World) (A : Option Addr) : Tks w A 0 [] := ⟨rfl, fun h => absurd h (by omega)⟩
theorem Tks.news {w : World} {g o n : Nat} {L : List T3} (h : Tks w (some ⟨g, o, none⟩) n L) (hn : 0 < n) : ∀ j u, (tkCells L)[j]? = some u → w.cell? ((⟨g, o, none⟩ : Addr).add j) = some u := by
  intro j u hu
  obtain ⟨g', o', e, _, hc⟩ := h.2 hn
  injection e with e
  injection e with e1 e2
  subst e1 e2
  have hj : j < L.length * 3 := by
    have := (List.getElem?_eq_some_iff.1 hu).1
    rwa [length_tkCells] at this
  obtain ⟨h0, h1, h2⟩ := tkCells_at L (j / 3) (by omega)
  obtain ⟨c0, c1, c2⟩ := hc (j / 3) (by omega)
  rw [Go.WideShapes.add_plain]
  have hr : j = j / 3 * 3 ∨ j = j / 3 * 3 + 1 ∨ j = j / 3 * 3 + 2 := by omega
  rcases hr with e | e | e
  · rw [← e] at h0 c0; rw [c0, ← h0, hu]
  · rw [← e] at h1; rw [Nat.add_assoc, ← e] at c1; rw [c1, ← h1, hu]
  · rw [← e] at h2; rw [Nat.add_assoc, ← e] at c2; rw [c2, ← h2, hu]
/-- A slice of tokens of the call's own. -/
def OwnK (w : World) (base : Nat) (v : Value) (L : List T3) : Prop := w.ownsRow base 63 3 v L.length (tkCells L)
theorem info_tok : (Tryz.prog.info? 63).map (fun i => (i.zero, i.size, i.bytes)) = some (some (.agg #[.int .i64 0, .int .i64 0, .int .i64 0]), 3, 24) := by kernel_rfl
theorem OwnK.nil (w : World) (base : Nat) : OwnK w base (.slice none 0 0) [] := World.ownsRow_nil _ _ _ _
theorem OwnK.but {w w' : World} {base : Nat} {v : Value} {L : List T3} (h : OwnK w base v L) (hw : But [] w w') : OwnK w' base v L := by
  unfold OwnK at h ⊢
  refine ⟨h.1, ?_⟩
  rcases h.2 with h2 | ⟨g, cap, cur, hv, hg, hh, r⟩
  · exact .inl h2
  · refine .inr ⟨g, cap, cur, hv, hg, ?_, r⟩
    have hlt : g < w.heap.size := (h.lt g (by rw [hv]; rfl)).2
    rw [hw.block g hlt (by simp)]
    exact hh
theorem OwnK.open {w : World} {base : Nat} {v : Value} {L : List T3} (h : OwnK w base v L) : ∃ A c, v = .slice A L.length c ∧ Tks w A L.length L := by
  unfold OwnK at h
  rcases h.2 with ⟨rfl, e⟩ | ⟨g, cap, cur, rfl, hg, hh, r⟩
  · have : L = [] := List.eq_nil_of_length_eq_zero e
    subst this
    exact ⟨none, 0, rfl, Tks.nil _ _⟩
  · refine ⟨some ⟨g, 0, none⟩, cap, rfl, rfl, fun hn => ⟨g, 0, rfl, (h.lt g rfl).2, fun i hi => ?_⟩⟩
    obtain ⟨h0, h1, h2⟩ := tkCells_at L i hi
    have c0 := h.cells (g := g) rfl (i * 3) _ h0
    have c1 := h.cells (g := g) rfl (i * 3 + 1) _ h1
    have c2 := h.cells (g := g) rfl (i * 3 + 2) _ h2
    rw [Go.WideShapes.add_plain] at c0 c1 c2
    exact ⟨c0, c1, c2⟩
end Go.Proofs.YtghegmbafbpnjaaGreatDoor
set_option maxRecDepth 100000
set_option linter.unusedVariables false
namespace Go.Proofs.YtghegmbafbpnjaaGreatDoor
set_option maxRecDepth 100000
open Go Go.RowKit
/-- How many extra bits a value has: as the program counts them. -/
def covG (v g : Nat) : Nat → Nat → Nat
  | 0, e => e
  | f + 1, e => if 2 * g ≤ v / 2 ^ e then covG v g f (e + 1) else e
def cov (v g : Nat) : Nat := covG v g 12 0
theorem cov_len : ∀ n, n < 258 → 3 ≤ n → 4 * cov (n - 3) 4 + (n - 3) / 2 ^ cov (n - 3) 4 + 257 = lsym n ∧ (n - 3) % 2 ^ cov (n - 3) 4 = n - lenBase (lsym n) ∧ cov (n - 3) 4 = lenBits (lsym n) ∧ cov (n - 3) 4 ≤ 5 := by decide +kernel
theorem cov_far : ∀ n, n < 513 → 1 ≤ n → 2 * cov (n - 1) 2 + (n - 1) / 2 ^ cov (n - 1) 2 = dsym n ∧ (n - 1) % 2 ^ cov (n - 1) 2 = n - dstBase (dsym n) ∧ cov (n - 1) 2 = dstBits (dsym n) ∧ cov (n - 1) 2 ≤ 8 := by decide +kernel
theorem lsym_258 : lsym 258 = 285 ∧ lenBits 285 = 0 ∧ lenBase 285 = 258 := by decide +kernel
theorem cov_mask (v e : Nat) (he : e ≤ 11) : bits .and .i64 (v : Int) (wrap64 (wrap64 (2 ^ e) - 1)) = ((v % 2 ^ e : Nat) : Int) := by
  have h1 : wrap64 (wrap64 (2 ^ e) - 1) = 2 ^ e - 1 := by
    have : ∀ e, e < 12 → wrap64 (wrap64 (2 ^ e) - 1) = 2 ^ e - 1 := by decide +kernel
    exact this e (by omega)
  rw [h1, i64_mask _ _ (by omega)]; push_cast; rfl
/-- A symbol and its extra bits, as a value. -/
def codVal (s m e : Nat) : Value := .agg #[.int .i64 (s : Nat), .int .i64 (m : Nat), .int .i64 (e : Nat)]
set_option maxHeartbeats 1000000 in
theorem covering_any (w : World) {v g : Nat} (hv : v ≤ 600) (hg : 1 ≤ g) (hg4 : g ≤ 4) (hlt : cov v g ≤ 11) :
    Calls Tryz.prog 102 #[.int .i64 v, .int .i64 g] w fun e w' => e = .returned (codVal (g * cov v g + v / 2 ^ cov v g) (v % 2 ^ cov v g) (cov v g)) ∧ But [] w w' := by
  have HB0 : Hid (But [] w (w.alloc (.cells #[.int .i64 0, .int .i64 0, .int .i64 0] 116))) := Lib.hid ((But.refl [] w).alloc _)
  have HI0 : Hid (Is (w.alloc (.cells #[.int .i64 0, .int .i64 0, .int .i64 0] 116)) w.heap.size 116 #[.int .i64 0, .int .i64 0, .int .i64 0]) := Lib.hid (Is.fresh w _ _)
  go_enter Tryz.func102, Tryz.ntmps102
  go_wp2
  go_loop [5] (fun ev => ∃ (e f : Nat), e + f = 12 ∧ ev = .int .i64 e ∧ Hid (covG v g f e = cov v g)) (fun ev => 20 - (intOf ev).toNat)
  case atStart => exact ⟨0, 12, rfl, rfl, Lib.hid rfl⟩
  case round =>
    obtain ⟨e, f, hef, rfl, HE⟩ := hrel
    obtain ⟨q, hq⟩ : ∃ q : Nat, (v : Int) / 2 ^ e = (q : Int) := ⟨v / 2 ^ e, by push_cast; rfl⟩
    have hq2 : q = v / 2 ^ e := by have : (v : Int) / 2 ^ e = ((v / 2 ^ e : Nat) : Int) := by push_cast; rfl
                                   omega
    have HQ := Lib.hid hq2
    have hqv : q ≤ v := by rw [hq2]; exact Nat.div_le_self _ _
    clear hq2
    by_cases hge : 2 * g ≤ q
    · have dq : decide (2 * (g : Int) ≤ (q : Int)) = true := by simp; omega
      obtain ⟨f, rfl⟩ : ∃ f', f = f' + 1 := by
        rcases f with _ | f
        · exfalso; have h := HE.out; unfold covG at h; omega
        · exact ⟨f, rfl⟩
      have HE2 := Lib.hid (show covG v g f (e + 1) = cov v g by rw [← HE.out, covG, if_pos (by rw [← HQ.out]; exact hge)])
      go_wp2
      go_round
      case rel => exact ⟨e + 1, f, by omega, by go_num, HE2⟩
      case measure => simp [intOf]; omega
    · have dq : decide (2 * (g : Int) ≤ (q : Int)) = false := by simp; omega
      have HEC := Lib.hid (show e = cov v g by
        rw [← HE.out]
        rcases f with _ | f
        · rfl
        · rw [covG, if_neg (by rw [← HQ.out]; exact hge)])
      have he11 : e ≤ 11 := by have := HEC.out; omega
      obtain ⟨p, hp⟩ : ∃ p : Nat, (g : Int) * (e : Int) = (p : Int) := ⟨g * e, by push_cast; rfl⟩
      have HP := Lib.hid (show p = g * e by have : (g : Int) * (e : Int) = ((g * e : Nat) : Int) := by push_cast; rfl
                                            omega)
      have hp44 : p ≤ 44 := by rw [HP.out]; exact Nat.le_trans (Nat.mul_le_mul hg4 he11) (by decide)
      go_wp2
      go_region
      go_simp
      have hI := Is.fresh w 116 #[.int .i64 ((p : Int) + (q : Int)), .int .i64 (bits BinOp.and IntKind.i64 (v : Int) (wrap64 (wrap64 (2 ^ e) - 1))), .int .i64 (e : Int)]
      have hB := ((But.refl [] w).alloc (.cells #[.int .i64 ((p : Int) + (q : Int)), .int .i64 (bits BinOp.and IntKind.i64 (v : Int) (wrap64 (wrap64 (2 ^ e) - 1))), .int .i64 (e : Int)] 116)).drew
      go_wp2
      refine bodyPost_ret (results_cell_row rfl _ _ w.heap.size _ _ _ _ rfl hI.drew Tryz.underlying116 rfl (by kernel_rfl)) rfl ?_
      refine ⟨?_, hB⟩
      rw [cov_mask _ _ he11]
      unfold codVal
      rw [← HEC.out, ← HP.out, ← HQ.out]
      push_cast
      rfl

set_option maxHeartbeats 1000000 in
theorem symbolOf_lit (w : World) (y z : Nat) :
    Calls Tryz.prog 77 #[tkVal (0, (z : Int), (y : Int))] w fun e w' => e = .returned (codVal y 0 0) ∧ But [] w w' := by
  unfold tkVal
  have hB := ((But.refl [] w).alloc (.cells #[.int .i64 y, .int .i64 0, .int .i64 z] 63)).alloc (.cells #[.int .i64 y, .int .i64 0, .int .i64 0] 116)
  have hI := Is.fresh (w.alloc (.cells #[.int .i64 y, .int .i64 0, .int .i64 z] 63)) 116 #[.int .i64 y, .int .i64 0, .int .i64 0]
  have hs : (w.alloc (.cells #[.int .i64 y, .int .i64 0, .int .i64 z] 63)).heap.size = w.heap.size + 1 := by simp
  rw [hs] at hI
  have HB := Lib.hid hB
  have HI := Lib.hid hI
  clear hB hI hs
  go_enter Tryz.func77, Tryz.ntmps77
  go_wp2
  refine bodyPost_ret (results_cell_row rfl _ _ (w.heap.size + 1) _ _ _ _ rfl HI.out Tryz.underlying116 rfl (by kernel_rfl)) rfl ?_
  exact ⟨rfl, HB.out⟩
set_option maxHeartbeats 1000000 in
theorem symbolOf_258 (w : World) (z y : Nat) :
    Calls Tryz.prog 77 #[tkVal (258, (z : Int), (y : Int))] w fun e w' => e = .returned (codVal 285 0 0) ∧ But [] w w' := by
  unfold tkVal
  have hB := ((But.refl [] w).alloc (.cells #[.int .i64 y, .int .i64 258, .int .i64 z] 63)).alloc (.cells #[.int .i64 285, .int .i64 0, .int .i64 0] 116)
  have hI := Is.fresh (w.alloc (.cells #[.int .i64 y, .int .i64 258, .int .i64 z] 63)) 116 #[.int .i64 285, .int .i64 0, .int .i64 0]
  have hs : (w.alloc (.cells #[.int .i64 y, .int .i64 258, .int .i64 z] 63)).heap.size = w.heap.size + 1 := by simp
  rw [hs] at hI
  have HB := Lib.hid hB
  have HI := Lib.hid hI
  clear hB hI hs
  go_enter Tryz.func77, Tryz.ntmps77
  go_wp2
  refine bodyPost_ret (results_cell_row rfl _ _ (w.heap.size + 1) _ _ _ _ rfl HI.out Tryz.underlying116 rfl (by kernel_rfl)) rfl ?_
  exact ⟨rfl, HB.out⟩
set_option maxHeartbeats 1000000 in
theorem symbolOf_mid (w : World) (x z y : Nat) (h3 : 3 ≤ x) (h257 : x ≤ 257) (hcv : cov (x - 3) 4 ≤ 5) :
    Calls Tryz.prog 77 #[tkVal ((x : Int), (z : Int), (y : Int))] w fun e w' => e = .returned (codVal (4 * cov (x - 3) 4 + (x - 3) / 2 ^ cov (x - 3) 4 + 257) ((x - 3) % 2 ^ cov (x - 3) 4) (cov (x - 3) 4)) ∧ But [] w w' := by
  unfold tkVal
  obtain ⟨v, hv⟩ : ∃ v, v = x - 3 := ⟨_, rfl⟩
  rw [← hv] at hcv ⊢
  have ev : (x : Int) - 3 = (v : Int) := by omega
  obtain ⟨W, hW⟩ : ∃ W, W = (w.alloc (.cells #[.int .i64 y, .int .i64 x, .int .i64 z] 63)).alloc (.cells #[.int .i64 0, .int .i64 0, .int .i64 0] 116) := ⟨_, rfl⟩
  have hC := covering_any W (v := v) (g := 4) (by omega) (by omega) (by omega) (by omega)
  obtain ⟨s, hs⟩ : ∃ s, s = 4 * cov v 4 + v / 2 ^ cov v 4 := ⟨_, rfl⟩
  obtain ⟨m, hm⟩ : ∃ s, s = v % 2 ^ cov v 4 := ⟨_, rfl⟩
  obtain ⟨e, he⟩ : ∃ s, s = cov v 4 := ⟨_, rfl⟩
  have hs600 : s ≤ 600 := by
    have := Nat.div_le_self v (2 ^ cov v 4)
    omega
  rw [← hs, ← hm, ← he] at hC
  rw [← hs, ← hm, ← he]
  have hB : But [] w W := by rw [hW]; exact ((But.refl [] w).alloc _).alloc _
  have hI : Is W (w.heap.size + 1) 116 #[.int .i64 0, .int .i64 0, .int .i64 0] := by
    have h := Is.fresh (w.alloc (.cells #[.int .i64 y, .int .i64 x, .int .i64 z] 63)) 116 #[.int .i64 0, .int .i64 0, .int .i64 0]
    rw [hW]; simpa using h
  have HB := Lib.hid hB
  have HI := Lib.hid hI
  have HC := Lib.hid hC
  have dx : ((x : Int) == 0) = false := by simp; omega
  have dx2 : ((x : Int) == 258) = false := by simp; omega
  clear hB hI hC hs hm he hcv hv
  go_enter Tryz.func77, Tryz.ntmps77
  go_wp2_with fail
  rw [← hW]
  refine HC.out.mono ?_
  rintro er w1 ⟨rfl, hB1⟩
  have HB1 := Lib.hid hB1
  have hI1 := (HI.out.but hB1 (by simp)).alloc (.cells #[.int .i64 ((s : Int) + 257), .int .i64 m, .int .i64 e] 116)
  have hsz := hI1.lt
  obtain ⟨W2, hW2⟩ : ∃ W2, W2 = w1.alloc (.cells #[.int .i64 ((s : Int) + 257), .int .i64 m, .int .i64 e] 116) := ⟨_, rfl⟩
  rw [← hW2] at hI1
  have c0 := hI1.cell 0
  have c1 := hI1.cell 1
  have c2 := hI1.cell 2
  have f0 := hI1.free 0
  have f1 := hI1.free 1
  have f2 := hI1.free 2
  rw [hW2] at c0 c1 c2 f0 f1 f2
  have hI2 := ((hI1.put 0 (.int .i64 ((s : Int) + 257))).put 1 (.int .i64 m)).put 2 (.int .i64 e)
  have hB2 : But [] w (((W2.setCell ⟨w.heap.size + 1, 0, none⟩ (.int .i64 ((s : Int) + 257))).setCell ⟨w.heap.size + 1, 1, none⟩ (.int .i64 m)).setCell ⟨w.heap.size + 1, 2, none⟩ (.int .i64 e)) := by
    rw [hW2]
    exact ((((HB.out.trans HB1.out).alloc _).setCell (.inr (Nat.le_succ _)) _).setCell (.inr (Nat.le_succ _)) _).setCell (.inr (Nat.le_succ _)) _
  rw [hW2] at hI2 hB2
  have HI2 := Lib.hid hI2
  have HB2 := Lib.hid hB2
  clear hB1 hI1 hI2 hB2 hsz hW2 hW
  unfold codVal
  go_wp2
  refine bodyPost_ret (results_cell_row rfl _ _ (w.heap.size + 1) _ _ _ _ rfl HI2.out Tryz.underlying116 rfl (by kernel_rfl)) rfl ?_
  exact ⟨by push_cast; rfl, HB2.out⟩
/-- The program's symbol of a token. -/
theorem symbolOf_mat (w : World) (x z y : Nat) (h3 : 3 ≤ x) (h258 : x ≤ 258) :
    Calls Tryz.prog 77 #[tkVal ((x : Int), (z : Int), (y : Int))] w fun e w' => e = .returned (codVal (lsym x) (x - lenBase (lsym x)) (lenBits (lsym x))) ∧ But [] w w' := by
  by_cases h : x = 258
  · subst h
    obtain ⟨a, b, c⟩ := lsym_258
    rw [a, b, c]
    exact symbolOf_258 w z y
  · obtain ⟨a, b, c, d⟩ := cov_len x (by omega) h3
    have := symbolOf_mid w x z y h3 (by omega) d
    rw [a, b] at this
    rw [← c]
    exact this
set_option maxHeartbeats 1000000 in
theorem distanceOf_any (w : World) (x z y : Nat) (h1 : 1 ≤ z) (h512 : z ≤ 512) :
    Calls Tryz.prog 78 #[tkVal ((x : Int), (z : Int), (y : Int))] w fun e w' => e = .returned (codVal (dsym z) (z - dstBase (dsym z)) (dstBits (dsym z))) ∧ But [] w w' := by
  obtain ⟨a, b, c, d⟩ := cov_far z (by omega) h1
  unfold tkVal
  obtain ⟨v, hv⟩ : ∃ v, v = z - 1 := ⟨_, rfl⟩
  rw [← hv] at a b c d
  have ev : (z : Int) - 1 = (v : Int) := by omega
  obtain ⟨W, hW⟩ : ∃ W, W = (w.alloc (.cells #[.int .i64 y, .int .i64 x, .int .i64 z] 63)).alloc (.cells #[.int .i64 0, .int .i64 0, .int .i64 0] 116) := ⟨_, rfl⟩
  have hC := covering_any W (v := v) (g := 2) (by omega) (by omega) (by omega) (by omega)
  rw [a, b, c] at hC
  obtain ⟨s, hs⟩ : ∃ s, s = dsym z := ⟨_, rfl⟩
  rw [← hs] at hC ⊢
  obtain ⟨m, hm⟩ : ∃ m, m = z - dstBase s := ⟨_, rfl⟩
  obtain ⟨e, he⟩ : ∃ e, e = dstBits s := ⟨_, rfl⟩
  rw [← hm, ← he] at hC ⊢
  have hB : But [] w W := by rw [hW]; exact ((But.refl [] w).alloc _).alloc _
  have hI : Is W (w.heap.size + 1) 116 #[.int .i64 0, .int .i64 0, .int .i64 0] := by
    have h := Is.fresh (w.alloc (.cells #[.int .i64 y, .int .i64 x, .int .i64 z] 63)) 116 #[.int .i64 0, .int .i64 0, .int .i64 0]
    rw [hW]; simpa using h
  have HB := Lib.hid hB
  have HI := Lib.hid hI
  have HC := Lib.hid hC
  clear hB hI hC hs hm he hv a b c d
  go_enter Tryz.func78, Tryz.ntmps78
  go_wp2_with fail
  rw [← hW]
  refine HC.out.mono ?_
  rintro er w1 ⟨rfl, hB1⟩
  have hI1 := HI.out.but hB1 (by simp)
  have c0 := hI1.cell 0
  have c1 := hI1.cell 1
  have c2 := hI1.cell 2
  have f0 := hI1.free 0
  have f1 := hI1.free 1
  have f2 := hI1.free 2
  have hI2 := ((hI1.put 0 (.int .i64 s)).put 1 (.int .i64 m)).put 2 (.int .i64 e)
  have hB2 : But [] w (((w1.setCell ⟨w.heap.size + 1, 0, none⟩ (.int .i64 s)).setCell ⟨w.heap.size + 1, 1, none⟩ (.int .i64 m)).setCell ⟨w.heap.size + 1, 2, none⟩ (.int .i64 e)) :=
    (((HB.out.trans hB1).setCell (.inr (Nat.le_succ _)) _).setCell (.inr (Nat.le_succ _)) _).setCell (.inr (Nat.le_succ _)) _
  have HI2 := Lib.hid hI2
  have HB2 := Lib.hid hB2
  clear hB1 hI1 hI2 hB2 hW
  unfold codVal
  go_wp2
  refine bodyPost_ret (results_cell_row rfl _ _ (w.heap.size + 1) _ _ _ _ rfl HI2.out Tryz.underlying116 rfl (by kernel_rfl)) rfl ?_
  exact ⟨rfl, HB2.out⟩
end Go.Proofs.YtghegmbafbpnjaaGreatDoor
set_option maxRecDepth 100000
set_option linter.unusedVariables false
namespace Go.Proofs.YtghegmbafbpnjaaGreatDoor
set_option maxRecDepth 100000
open Go Go.RowKit
/-- The bytes of a string as LzM reads them. -/
theorem byteZ_at (s : ByteArray) {i : Nat} (h : i < s.size) : s.data.toList.getD i 0 = s[i] := by
  rw [List.getD_eq_getElem?_getD, Array.getElem?_toList, Array.getElem?_eq_getElem (by simpa using h)]; rfl
theorem len_data (s : ByteArray) : s.data.toList.length = s.size := by simp
theorem runG_end (l : List UInt8) (i d f n : Nat) (h : l.length ≤ i + n) : runG l i d f n = n := by
  cases f with
  | zero => rfl
  | succ f => rw [runG, if_neg (by omega)]
theorem u8_ne {x y : UInt8} (h : ¬ x = y) : ¬ (x.toNat : Int) = (y.toNat : Int) := fun e => h (UInt8.toNat_inj.1 (by omega))
/-- Two texts that lie in one, one d ahead of the other. -/
structure Cuts (s a b : ByteArray) (at' d m : Nat) : Prop where
  la : a.size = s.size - (at' - d)
  lb : b.size = m
  ga : ∀ i (h : i < a.size), s.data.toList.getD (at' + i - d) 0 = a[i]
  gb : ∀ i (h : i < b.size), s.data.toList.getD (at' + i) 0 = b[i]
set_option maxHeartbeats 1000000 in
theorem common_any (w : World) {s a b : ByteArray} {at' d m : Nat} (hc : Cuts s a b at' d m) (hd : 1 ≤ d) (hda : d ≤ at') (hat : at' < s.size) (hm : m = min 258 (s.size - at')) (hs : s.size ≤ 1000000) :
    Calls Tryz.prog 70 #[.string a, .string b] w fun e w' => e = .returned (.int .i64 (runLen s.data.toList at' d)) ∧ ∃ n, w' = w.drewN n := by
  obtain ⟨la, lb, ga, gb⟩ := hc
  have GA := Lib.hid ga
  have GB := Lib.hid gb
  have HM := Lib.hid hm
  have hl := len_data s
  have HL := Lib.hid hl
  clear ga gb hl
  have hml : m ≤ 258 := by omega
  have hma : m ≤ a.size := by omega
  have hmm : m ≤ s.size - at' := by omega
  have LA := Lib.hid la
  have LB := Lib.hid lb
  clear hm la
  go_enter Tryz.func70, Tryz.ntmps70
  go_wp2
  go_loopw [5, 8] (fun _ iv wr => ∃ (i : Nat) (n : Nat), i ≤ m ∧ iv = .int .i64 i ∧ runG s.data.toList at' d (258 - i) i = runLen s.data.toList at' d ∧ wr = w.drewN n) (fun _ iv _ => m - (intOf iv).toNat)
  case atStart => exact ⟨0, 0, Nat.zero_le _, rfl, rfl, rfl⟩
  case round =>
    obtain ⟨i, n, hi, rfl, hr, rfl⟩ := hrel
    have HR := Lib.hid hr
    clear hr
    by_cases hlt : i < m
    · have h1 : i < a.size := by omega
      have h2 : i < b.size := by omega
      have HX := Lib.hid (GA.out i h1)
      have HY := Lib.hid (GB.out i h2)
      by_cases he : a[i] = b[i]
      · have HN := Lib.hid (show runG s.data.toList at' d (258 - (i + 1)) (i + 1) = runLen s.data.toList at' d by
          rw [← HR.out, show 258 - i = 258 - (i + 1) + 1 from by omega, runG, if_pos ⟨by rw [HL.out]; omega, by rw [HX.out, HY.out]; exact he.symm⟩])
        have hn2 : ((a[i].toNat : Int) != (b[i].toNat : Int)) = false := by rw [he]; simp
        clear he
        go_wp2
        go_quiet (fail)
        go_wp2
        go_roundw
        case rel => exact ⟨i + 1, n + nq, by omega, by go_num, HN.out, rfl⟩
        case measure => simp [intOf]; omega
      · have HN := Lib.hid (show runLen s.data.toList at' d = i by
          rw [← HR.out, show 258 - i = 258 - (i + 1) + 1 from by omega, runG, if_neg (by rw [HX.out, HY.out]; intro h; exact he h.2.symm)])
        have hne := u8_ne he
        have hn2 : ((a[i].toNat : Int) != (b[i].toNat : Int)) = true := by simpa using hne
        clear he hne
        go_wp2
        go_quiet (fail)
        go_wp2
        go_ret
        exact ⟨by rw [HN.out]; rfl, (by first | exact ⟨n + nq, (w.drewN_drewN n nq)⟩ | exact ⟨n, rfl⟩)⟩
    · obtain rfl : i = m := by omega
      have HN := Lib.hid (show runLen s.data.toList at' d = i by
        rw [← HR.out]
        by_cases h : i = 258
        · subst h; rfl
        · exact runG_end _ _ _ _ _ (by rw [HL.out]; have := HM.out; omega))
      go_wp2
      go_ret
      exact ⟨by rw [HN.out]; rfl, _, rfl⟩
/-- The program's best so far: nothing below three counts. -/
def bst (l : List UInt8) (i D : Nat) : Nat × Nat := if 3 ≤ (bestG l i D).1 then bestG l i D else (2, 0)
section
variable {l : List UInt8} {i D : Nat}
theorem bst_two : 2 ≤ (bst l i D).1 := by
  unfold bst; split
  · omega
  · exact Nat.le_refl 2
theorem bst_skip (h : runLen l i (D + 1) ≤ (bst l i D).1) : bst l i (D + 1) = bst l i D := by
  unfold bst at *
  rw [bestG]
  by_cases h1 : 3 ≤ (bestG l i D).1
  · rw [if_pos h1] at h ⊢
    rw [if_neg (show ¬ (bestG l i D).1 < runLen l i (D + 1) by omega), if_pos h1]
  · rw [if_neg h1] at h ⊢
    dsimp only at h
    by_cases h2 : (bestG l i D).1 < runLen l i (D + 1)
    · rw [if_pos h2, if_neg (by dsimp only; omega)]
    · rw [if_neg h2, if_neg h1]
theorem bst_take (h : (bst l i D).1 < runLen l i (D + 1)) : bst l i (D + 1) = (runLen l i (D + 1), D + 1) := by
  unfold bst at *
  rw [bestG]
  by_cases h1 : 3 ≤ (bestG l i D).1
  · rw [if_pos h1] at h
    rw [if_pos h, if_pos (by dsimp only; omega)]
  · rw [if_neg h1] at h
    dsimp only at h
    rw [if_pos (show (bestG l i D).1 < runLen l i (D + 1) by omega), if_pos (by dsimp only; omega)]
theorem run_most (d : Nat) (hi : i ≤ l.length) : runLen l i d ≤ min 258 (l.length - i) := by
  have h1 := runLen_le l i d
  have h2 := runG_in l i d 258 0 (by omega)
  unfold runLen at *; omega
theorem best_in (hi : i ≤ l.length) : (bestG l i D).1 ≤ min 258 (l.length - i) := by
  rcases bestG_is l i D with h | ⟨_, _, h, _⟩
  · rw [h]; exact Nat.zero_le _
  · rw [h]; exact run_most _ hi
theorem bst_full (hi : i ≤ l.length) (h : min 258 (l.length - i) ≤ (bst l i D).1) : ∀ k, bst l i (D + k) = bst l i D
  | 0 => rfl
  | k + 1 => by
    have e := bst_full hi h k
    rw [← Nat.add_assoc, bst_skip (by rw [e]; exact Nat.le_trans (run_most _ hi) h), e]
theorem bst_bounds (hi : i ≤ l.length) : (bst l i D).1 ≤ 258 ∧ (bst l i D).2 ≤ D := by
  unfold bst
  split
  · have h1 := best_in (D := D) hi
    refine ⟨by omega, ?_⟩
    rcases bestG_is l i D with h | ⟨_, h, _, _⟩
    · rw [h]; exact Nat.zero_le _
    · exact h
  · exact ⟨by dsimp only; omega, Nat.zero_le _⟩
end
/-- What the program's function tells of a position. -/
def lgAt (l : List UInt8) (i : Nat) : T3 := if 3 ≤ (bestAt l i).1 then ((bestAt l i).1, (bestAt l i).2, 0) else (0, 0, 0)
theorem lgAt_of {l : List UInt8} {i : Nat} : lgAt l i = if (bst l i (min 512 i)).2 = 0 then (0, 0, 0) else (((bst l i (min 512 i)).1 : Int), ((bst l i (min 512 i)).2 : Int), 0) := by
  unfold lgAt bestAt bst
  by_cases h : 3 ≤ (bestG l i (min 512 i)).1
  · have h2 : ¬ (bestG l i (min 512 i)).2 = 0 := by
      rcases bestG_is l i (min 512 i) with e | ⟨e, _⟩
      · rw [e] at h; simp at h
      · omega
    rw [if_pos h, if_pos h, if_neg h2]
  · rw [if_neg h, if_neg h, if_pos rfl]
theorem cuts_of (s : ByteArray) {i d m : Nat} (hd : d ≤ i) (hm : i + m ≤ s.size) : Cuts s (s.extract (i - d) s.size) (s.extract i (i + m)) i d m := by
  refine ⟨by rw [ByteArray.size_extract]; omega, by rw [ByteArray.size_extract]; omega, fun j h => ?_, fun j h => ?_⟩
  · rw [ByteArray.size_extract] at h
    rw [byteZ_at s (by omega), ByteArray.getElem_extract]
    congr 1; omega
  · rw [ByteArray.size_extract] at h
    rw [byteZ_at s (by omega), ByteArray.getElem_extract]
end Go.Proofs.YtghegmbafbpnjaaGreatDoor
set_option maxRecDepth 100000
set_option linter.unusedVariables false
namespace Go.Proofs.YtghegmbafbpnjaaGreatDoor
set_option maxRecDepth 100000
open Go Go.RowKit
theorem skip_of {l : List UInt8} {i d b : Nat} (hi : i + b < l.length) (hb : b < 258) (h : l.getD (i + b) 0 ≠ l.getD (i + b - d) 0) : runLen l i d ≤ b := by
  refine Nat.le_of_not_lt fun hlt => h ?_
  exact runG_same l i d 258 0 b (Nat.zero_le _) hlt
set_option maxHeartbeats 2000000 in
theorem longest_any (w : World) {s : ByteArray} {i : Nat} (hi : i < s.size) (hs : s.size ≤ 1000000) :
    Calls Tryz.prog 36 #[.string s, .int .i64 i] w fun e w' => e = .returned (tkVal (lgAt s.data.toList i)) ∧ But [] w w' := by
  obtain ⟨m, hm⟩ : ∃ m, m = min 258 (s.size - i) := ⟨_, rfl⟩
  have hm1 : i + m ≤ s.size := by omega
  have hm2 : m ≤ 258 := by omega
  have HM := Lib.hid hm
  have HB0 : Hid (But [] w (w.alloc (.cells #[.int .i64 0, .int .i64 0, .int .i64 0] 63))) := Lib.hid ((But.refl [] w).alloc _)
  have HI0 : Hid (Is (w.alloc (.cells #[.int .i64 0, .int .i64 0, .int .i64 0] 63)) w.heap.size 63 #[.int .i64 0, .int .i64 0, .int .i64 0]) := Lib.hid (Is.fresh w _ _)
  obtain ⟨b, hb⟩ : ∃ b, b = s.extract i (i + m) := ⟨_, rfl⟩
  have hbs : b.size = m := by rw [hb, ByteArray.size_extract]; omega
  have HBE := Lib.hid hb
  have hll := len_data s
  have HLL := Lib.hid hll
  clear hll hb hm
  go_enter Tryz.func36, Tryz.ntmps36
  go_upto_region 1 with (fail)
  go_cut [5] from 10 to 17 (fun v wx => v = .string b ∧ wx = w.alloc (.cells #[.int .i64 0, .int .i64 0, .int .i64 0] 63))
  case first =>
    by_cases hc : i + 258 ≤ s.size
    · have e : m = 258 := by have := HM.out; omega
      have hsl : ∀ w, (Instr.slice 9 (.string s) (some (.int .i64 (i : Int))) (some (.int .i64 ((i : Int) + 258))) none).run Tryz.prog w = .ok (.string b) w := fun w => by
        rw [run_slice_string w 9 s .i64 .i64 _ _ Tryz.underlying9 (by omega) (by omega) (by omega), HBE.out, e]; rfl
      clear e
      go_wp2
      all_goals (go_meet; exact ⟨rfl, rfl⟩)
    · have hsl : ∀ w, (Instr.slice 9 (.string s) (some (.int .i64 (i : Int))) (some (.int .i64 (s.size : Int))) none).run Tryz.prog w = .ok (.string b) w := fun w => by
        rw [run_slice_string w 9 s .i64 .i64 _ _ Tryz.underlying9 (by omega) (by omega) (by omega), HBE.out, show i + m = s.size by have := HM.out; omega]; rfl
      go_wp2
      all_goals (go_meet; exact ⟨rfl, rfl⟩)
  case rest =>
  obtain ⟨rfl, rfl⟩ := hcut
  by_cases h3 : m < 3
  · go_wp2
    refine bodyPost_ret (results_cell_row rfl _ _ w.heap.size _ _ _ _ rfl HI0.out Tryz.underlying63 rfl (by kernel_rfl)) rfl ?_
    refine ⟨?_, HB0.out⟩
    have hz : ¬ 3 ≤ (bestAt s.data.toList i).1 := by
      have h := best_in (l := s.data.toList) (i := i) (D := min 512 i) (by rw [HLL.out]; omega)
      rw [HLL.out, ← HM.out] at h
      show ¬ 3 ≤ (bestG s.data.toList i (min 512 i)).1
      omega
    unfold lgAt; rw [if_neg hz]; rfl
  · have HB1 : Hid (But [] w ((w.alloc (.cells #[.int .i64 0, .int .i64 0, .int .i64 0] 63)).alloc (.cells #[.int .i64 0, .int .i64 2, .int .i64 0] 63))) := Lib.hid (HB0.out.alloc _)
    have HI1 : Hid (Is ((w.alloc (.cells #[.int .i64 0, .int .i64 0, .int .i64 0] 63)).alloc (.cells #[.int .i64 0, .int .i64 2, .int .i64 0] 63)) w.heap.size 63 #[.int .i64 0, .int .i64 0, .int .i64 0]) := Lib.hid (HI0.out.alloc _)
    have HJ1 : Hid (Is ((w.alloc (.cells #[.int .i64 0, .int .i64 0, .int .i64 0] 63)).alloc (.cells #[.int .i64 0, .int .i64 2, .int .i64 0] 63)) (w.heap.size + 1) 63 #[.int .i64 0, .int .i64 2, .int .i64 0]) := Lib.hid (by
      have h := Is.fresh (w.alloc (.cells #[.int .i64 0, .int .i64 0, .int .i64 0] 63)) 63 #[.int .i64 0, .int .i64 2, .int .i64 0]
      simpa using h)
    have HS0 : Hid (bst s.data.toList i 0 = (2, 0)) := Lib.hid (by unfold bst; rw [if_neg (by show ¬ 3 ≤ (0 : Nat); omega)])
    obtain ⟨mn, hmn⟩ : ∃ x, x = min 512 i := ⟨_, rfl⟩
    have HMN := Lib.hid hmn
    have hmn5 : mn ≤ 512 := by omega
    have hmni : mn ≤ i := by omega
    clear hmn
    go_wp2
    go_loopw [7] (fun dv wr => ∃ D : Nat, D ≤ mn ∧ dv = .int .i64 ((D : Int) + 1) ∧ Hid (Is wr w.heap.size 63 #[.int .i64 0, .int .i64 0, .int .i64 0]) ∧ Hid (Is wr (w.heap.size + 1) 63 #[.int .i64 0, .int .i64 (bst s.data.toList i D).1, .int .i64 (bst s.data.toList i D).2]) ∧ Hid (But [] w wr)) (fun dv _ => 600 - (intOf dv).toNat)
    case atStart => exact ⟨0, Nat.zero_le _, rfl, HI1, by rw [HS0.out]; exact HJ1, HB1⟩
    case round =>
      obtain ⟨D, hD, rfl, hI, hJ, hB⟩ := hrel
      have hbb := bst_bounds (l := s.data.toList) (i := i) (D := D) (by rw [HLL.out]; omega)
      have hb2 := bst_two (l := s.data.toList) (i := i) (D := D)
      obtain ⟨bl, hbl⟩ : ∃ x, x = (bst s.data.toList i D).1 := ⟨_, rfl⟩
      obtain ⟨bd, hbd⟩ : ∃ x, x = (bst s.data.toList i D).2 := ⟨_, rfl⟩
      rw [← hbl, ← hbd] at hJ hbb
      rw [← hbl] at hb2
      have HBL := Lib.hid hbl
      have HBD := Lib.hid hbd
      obtain ⟨hb3, hb4⟩ := hbb
      have c1 : wr.cell? ⟨w.heap.size + 1, 1, none⟩ = some (.int .i64 bl) := hJ.out.cell 1
      have c2 : wr.cell? ⟨w.heap.size + 1, 2, none⟩ = some (.int .i64 bd) := hJ.out.cell 2
      clear hbl hbd HI1 HJ1 HB1 HI0 HB0 HS0
      by_cases hcont : D + 1 ≤ mn ∧ bl < m
      · obtain ⟨hD1, hblm⟩ := hcont
        go_upto_region 6 with (fail)
        go_cut [33] from 23 to 33 (fun v wx => v = .bool true ∧ wr = wx)
        case first =>
          rcases Nat.lt_or_ge 512 i with h5 | h5
          · have e : mn = 512 := by have := HMN.out; omega
            subst e
            go_wp2
            all_goals (go_meet; exact ⟨rfl, rfl⟩)
          · have e : mn = i := by have := HMN.out; omega
            subst e
            go_wp2
            all_goals (go_meet; exact ⟨rfl, rfl⟩)
        case rest =>
        obtain ⟨rfl, rfl⟩ := hcut
        obtain ⟨a, ha⟩ : ∃ a, a = s.extract (i - (D + 1)) s.size := ⟨_, rfl⟩
        have hcuts : Cuts s a b i (D + 1) m := by
          rw [ha, HBE.out]; exact cuts_of s (by omega) (by omega)
        have has : bl < a.size := by rw [hcuts.la]; omega
        have hsl : ∀ w, (Instr.slice 9 (.string s) (some (.int .i64 ((i : Int) - ((D : Int) + 1)))) none none).run Tryz.prog w = .ok (.string a) w := fun w => by
          rw [run_slice_string_from_if w 9 s .i64 _ Tryz.underlying9, if_pos (by omega), ha, show ((i : Int) - ((D : Int) + 1)).toNat = i - (D + 1) by omega]
        have hbbs : bl < b.size := by omega
        have e1 : s.data.toList.getD (i + bl - (D + 1)) 0 = a[bl] := hcuts.ga bl has
        have e2 : s.data.toList.getD (i + bl) 0 = b[bl] := hcuts.gb bl hbbs
        have HC := Lib.hid hcuts
        clear ha hcuts
        by_cases he : a[bl] = b[bl]
        · have hn2 : ((a[bl].toNat : Int) != (b[bl].toNat : Int)) = false := by rw [he]; simp
          clear he e1 e2
          go_wp2
          go_quiet (fail)
          go_wp2_with fail
          refine (common_any (wr.drewN nq) HC.out (by omega) (by omega) hi HM.out hs).mono ?_
          rintro e w2 ⟨rfl, n2, rfl⟩
          have hrl := run_most (l := s.data.toList) (i := i) (D + 1) (by rw [HLL.out]; omega)
          obtain ⟨rl, hrl2⟩ : ∃ x, x = runLen s.data.toList i (D + 1) := ⟨_, rfl⟩
          rw [← hrl2] at hrl ⊢
          have HRL := Lib.hid hrl2
          have hrl3 : rl ≤ 258 := by omega
          clear hrl hrl2
          by_cases hgt : bl < rl
          · have HTK := Lib.hid (show bst s.data.toList i (D + 1) = (rl, D + 1) by rw [HRL.out]; exact bst_take (by rw [← HBL.out, ← HRL.out]; exact hgt))
            have c0 : wr.cell? ⟨w.heap.size + 1, 0, none⟩ = some (.int .i64 0) := hJ.out.cell 0
            have f0 : wr.frozen? ⟨w.heap.size + 1, 0, none⟩ = false := hJ.out.free 0
            have f1 : wr.frozen? ⟨w.heap.size + 1, 1, none⟩ = false := hJ.out.free 1
            have f2 : wr.frozen? ⟨w.heap.size + 1, 2, none⟩ = false := hJ.out.free 2
            go_wp2
            go_roundw
            case rel =>
              have hJ2 : Hid (Is ((((wr.drewN (nq + n2)).setCell ⟨w.heap.size + 1, 0, none⟩ (.int .i64 0)).setCell ⟨w.heap.size + 1, 1, none⟩ (.int .i64 rl)).setCell ⟨w.heap.size + 1, 2, none⟩ (.int .i64 ((D : Int) + 1))) (w.heap.size + 1) 63 #[.int .i64 0, .int .i64 (rl : Nat), .int .i64 ((D + 1 : Nat) : Int)]) :=
                Lib.hid ((((hJ.out.drewN (nq + n2)).put 0 (.int .i64 0)).put 1 (.int .i64 rl)).put 2 (.int .i64 ((D : Int) + 1)))
              refine ⟨D + 1, hD1, by go_num, Lib.hid ((((hI.out.drewN (nq + n2)).far (by simp) _).far (by simp) _).far (by simp) _), ?_, Lib.hid ((((hB.out.drewN (nq + n2)).setCell (.inr (by simp)) _).setCell (.inr (by simp)) _).setCell (.inr (by simp)) _)⟩
              rw [HTK.out]; exact hJ2
            case measure => simp [intOf]; omega
          · have HSK := Lib.hid (show bst s.data.toList i (D + 1) = bst s.data.toList i D from bst_skip (by rw [← HBL.out, ← HRL.out]; omega))
            go_wp2
            go_roundw
            case rel => exact ⟨D + 1, hD1, by go_num, Lib.hid (hI.out.drewN (nq + n2)), by rw [HSK.out, ← HBL.out, ← HBD.out]; exact Lib.hid (hJ.out.drewN (nq + n2)), Lib.hid (hB.out.drewN (nq + n2))⟩
            case measure => simp [intOf]; omega
        · have hn2 : ((a[bl].toNat : Int) != (b[bl].toNat : Int)) = true := by simpa using u8_ne he
          have HSK := Lib.hid (show bst s.data.toList i (D + 1) = bst s.data.toList i D from bst_skip (by rw [← HBL.out]; exact skip_of (by rw [HLL.out]; omega) (by omega) (by rw [e1, e2]; exact fun h => he h.symm)))
          clear he e1 e2
          go_wp2
          go_quiet (fail)
          go_wp2
          go_roundw
          case rel => exact ⟨D + 1, hD1, by go_num, Lib.hid (hI.out.drewN nq), by rw [HSK.out, ← HBL.out, ← HBD.out]; exact Lib.hid (hJ.out.drewN nq), Lib.hid (hB.out.drewN nq)⟩
          case measure => simp [intOf]; omega
      · have HEND := Lib.hid (show lgAt s.data.toList i = if bd = 0 then (0, 0, 0) else ((bl : Int), (bd : Int), 0) by
          rw [lgAt_of, ← HMN.out]
          have : bst s.data.toList i mn = bst s.data.toList i D := by
            by_cases h : D + 1 ≤ mn
            · have := bst_full (l := s.data.toList) (i := i) (D := D) (by rw [HLL.out]; omega) (by rw [HLL.out, ← HM.out, ← HBL.out]; omega) (mn - D)
              rw [show D + (mn - D) = mn by omega] at this; exact this
            · rw [show mn = D by omega]
          rw [this, ← HBL.out, ← HBD.out])
        go_upto_region 6 with (fail)
        go_cut [33] from 23 to 33 (fun v wx => v = .bool false ∧ wr = wx)
        case first =>
          rcases Nat.lt_or_ge 512 i with h5 | h5
          · have e : mn = 512 := by have := HMN.out; omega
            subst e
            by_cases h6 : D + 1 ≤ 512
            · have h7 : ¬ bl < m := fun h => hcont ⟨h6, h⟩
              go_wp2
              all_goals (go_meet; exact ⟨rfl, rfl⟩)
            · go_wp2
              all_goals (go_meet; exact ⟨rfl, rfl⟩)
          · have e : mn = i := by have := HMN.out; omega
            subst e
            by_cases h6 : D + 1 ≤ mn
            · have h7 : ¬ bl < m := fun h => hcont ⟨h6, h⟩
              go_wp2
              all_goals (go_meet; exact ⟨rfl, rfl⟩)
            · go_wp2
              all_goals (go_meet; exact ⟨rfl, rfl⟩)
        case rest =>
        obtain ⟨rfl, rfl⟩ := hcut
        by_cases hz : bd = 0
        · have hz' : ((bd : Int) == 0) = true := by subst hz; rfl
          have HE2 := Lib.hid (show lgAt s.data.toList i = (0, 0, 0) by rw [HEND.out, if_pos hz])
          clear hz
          have g0 : wr.cell? ⟨w.heap.size, 0, none⟩ = some (.int .i64 0) := hI.out.cell 0
          have g1 : wr.cell? ⟨w.heap.size, 1, none⟩ = some (.int .i64 0) := hI.out.cell 1
          have g2 : wr.cell? ⟨w.heap.size, 2, none⟩ = some (.int .i64 0) := hI.out.cell 2
          have f0 : wr.frozen? ⟨w.heap.size, 0, none⟩ = false := hI.out.free 0
          have f1 : wr.frozen? ⟨w.heap.size, 1, none⟩ = false := hI.out.free 1
          have f2 : wr.frozen? ⟨w.heap.size, 2, none⟩ = false := hI.out.free 2
          go_wp2
          (try simp only [Exit.inBlock, Exit.then])
          refine bodyPost_ret (results_cell_row rfl _ _ w.heap.size _ _ _ _ rfl (((hI.out.put 0 (.int .i64 0)).put 1 (.int .i64 0)).put 2 (.int .i64 0)) Tryz.underlying63 rfl (by kernel_rfl)) rfl ?_
          exact ⟨by rw [HE2.out]; rfl, ((hB.out.setCell (.inr (by simp)) _).setCell (.inr (by simp)) _).setCell (.inr (by simp)) _⟩
        · have hz' : ((bd : Int) == 0) = false := by simp; omega
          have HE2 := Lib.hid (show lgAt s.data.toList i = ((bl : Int), (bd : Int), 0) by rw [HEND.out, if_neg hz])
          clear hz
          have c0 : wr.cell? ⟨w.heap.size + 1, 0, none⟩ = some (.int .i64 0) := hJ.out.cell 0
          have g0 : wr.cell? ⟨w.heap.size, 0, none⟩ = some (.int .i64 0) := hI.out.cell 0
          have g1 : wr.cell? ⟨w.heap.size, 1, none⟩ = some (.int .i64 0) := hI.out.cell 1
          have g2 : wr.cell? ⟨w.heap.size, 2, none⟩ = some (.int .i64 0) := hI.out.cell 2
          have f0 : wr.frozen? ⟨w.heap.size, 0, none⟩ = false := hI.out.free 0
          have f1 : wr.frozen? ⟨w.heap.size, 1, none⟩ = false := hI.out.free 1
          have f2 : wr.frozen? ⟨w.heap.size, 2, none⟩ = false := hI.out.free 2
          go_wp2
          (try simp only [Exit.inBlock, Exit.then])
          refine bodyPost_ret (results_cell_row rfl _ _ w.heap.size _ _ _ _ rfl (((hI.out.put 0 (.int .i64 0)).put 1 (.int .i64 bl)).put 2 (.int .i64 bd)) Tryz.underlying63 rfl (by kernel_rfl)) rfl ?_
          exact ⟨by rw [HE2.out]; rfl, ((hB.out.setCell (.inr (by simp)) _).setCell (.inr (by simp)) _).setCell (.inr (by simp)) _⟩
end Go.Proofs.YtghegmbafbpnjaaGreatDoor
set_option maxRecDepth 100000
set_option linter.unusedVariables false
namespace Go.Proofs.YtghegmbafbpnjaaGreatDoor
set_option maxRecDepth 100000
open Go Go.RowKit
theorem OwnK.pushed {w wr w' : World} {v v' : Value} {L : List T3} {x : T3} {cs : Array Value} {t : TypeId} (hB : But [] w wr) (hO : OwnK wr w.heap.size v L)
    (h1 : w'.ownsRow w.heap.size 63 3 v' (L.length + 1) (tkCells L ++ [.int .i64 x.2.2, .int .i64 x.1, .int .i64 x.2.1])) (hg : (wr.alloc (.cells cs t)).grownBy w' v.ownBlock) :
    OwnK w' w.heap.size v' (L ++ [x]) ∧ But [] w w' := by
  refine ⟨?_, (hB.alloc _).grown hg (fun g e => .inr (hO.lt g e).1)⟩
  unfold OwnK
  rw [List.length_append, tkCells_append]
  simpa [tkCells] using h1
/-- Tokens, in a slice of the call's own. -/
def GotK (w : World) (L : List T3) (e : Ending) (w' : World) : Prop := ∃ v, e = .returned v ∧ OwnK w' w.heap.size v L ∧ But [] w w'
theorem toks_step_m {l : List UInt8} {i : Nat} (hi : i < l.length) (h : 3 ≤ (bestAt l i).1) : (toksG l (l.length - i) i).map tkI = (((bestAt l i).1 : Int), ((bestAt l i).2 : Int), (0 : Int)) :: (toksG l (l.length - (i + (bestAt l i).1)) (i + (bestAt l i).1)).map tkI := by
  obtain ⟨f, hf⟩ : ∃ f, l.length - i = f + 1 := ⟨l.length - i - 1, by omega⟩
  rw [hf, toksG, if_pos hi, if_pos h, List.map_cons, toksG_more l (l.length - (i + (bestAt l i).1)) f _ (by omega) (by omega)]; rfl
theorem toks_step_l {l : List UInt8} {i : Nat} (hi : i < l.length) (h : ¬ 3 ≤ (bestAt l i).1) : (toksG l (l.length - i) i).map tkI = ((0 : Int), (0 : Int), ((l.getD i 0).toNat : Int)) :: (toksG l (l.length - (i + 1)) (i + 1)).map tkI := by
  obtain ⟨f, hf⟩ : ∃ f, l.length - i = f + 1 := ⟨l.length - i - 1, by omega⟩
  rw [hf, toksG, if_pos hi, if_neg h, List.map_cons, toksG_more l (l.length - (i + 1)) f _ (by omega) (by omega)]; rfl
theorem toks_step_e {l : List UInt8} {i : Nat} (hi : ¬ i < l.length) : (toksG l (l.length - i) i).map tkI = [] := by
  rw [show l.length - i = 0 by omega]; rfl
set_option maxHeartbeats 2000000 in
theorem tokens_any (w : World) {s : ByteArray} (hs : s.size ≤ 1000000) :
    Calls Tryz.prog 20 #[.string s] w (GotK w ((toks s.data.toList).map tkI)) := by
  obtain ⟨i0, hi0, hz0, hz1, hz2⟩ := info_parts info_tok
  have he := tok_eql
  have HLL := Lib.hid (len_data s)
  go_enter Tryz.func20, Tryz.ntmps20
  go_wp2
  go_step3
  go_wp2
  go_step3
  go_wp2
  go_loopw [3, 4] (fun tv av wr => ∃ (i : Nat) (L : List T3), i ≤ s.size ∧ av = .int .i64 i ∧ L.length ≤ i ∧ Hid (L ++ (toksG s.data.toList (s.data.toList.length - i) i).map tkI = (toks s.data.toList).map tkI) ∧ Hid (OwnK wr w.heap.size tv L) ∧ Hid (But [] w wr)) (fun _ av _ => s.size - (intOf av).toNat)
  case atStart => exact ⟨0, [], Nat.zero_le _, rfl, Nat.le_refl _, Lib.hid rfl, Lib.hid (OwnK.nil _ _), Lib.hid (But.refl _ _)⟩
  case round =>
    obtain ⟨i, L, hi, rfl, hL, HM, HO, HB⟩ := hrel
    have hsz := HB.out.size
    by_cases hlt : i < s.size
    · go_wp2_with fail
      refine (longest_any wr hlt hs).mono ?_
      rintro e w1 ⟨rfl, hB1⟩
      have HB1 := Lib.hid (HB.out.freshZ hB1 (by simp))
      have HO1 := Lib.hid (HO.out.but hB1)
      have hsz1 := HB1.out.size
      clear hB1
      by_cases h3 : 3 ≤ (bestAt s.data.toList i).1
      · have HST := Lib.hid (toks_step_m (l := s.data.toList) (i := i) (by rw [HLL.out]; exact hlt) h3)
        obtain ⟨b1, b2, b3, b4, b5, b6⟩ := best_match (l := s.data.toList) (i := i) (by rw [HLL.out]; exact hlt) h3
        have hlg : lgAt s.data.toList i = (((bestAt s.data.toList i).1 : Int), ((bestAt s.data.toList i).2 : Int), (0 : Int)) := by unfold lgAt; rw [if_pos h3]
        rw [hlg]
        rw [HLL.out] at b5
        generalize (bestAt s.data.toList i).1 = n at *
        generalize (bestAt s.data.toList i).2 = d at *
        clear hlg b6
        unfold tkVal
        have hd0 : decide ((0 : Int) = 0 ∧ (n : Int) = 0 ∧ (d : Int) = 0) = false := by simp; omega
        have hd1 : decide ((n : Int) = 0 ∧ (d : Int) = 0) = false := by simp; omega
        have HB2 := Lib.hid (HB1.out.alloc (.cells #[.int .i64 0, .int .i64 n, .int .i64 d] 63))
        have HO2 : Hid (OwnK (w1.alloc (.cells #[.int .i64 0, .int .i64 n, .int .i64 d] 63)) w.heap.size u3 L) := Lib.hid (HO1.out.but ((But.refl [] w1).alloc _))
        have HI2 : Hid (Is (w1.alloc (.cells #[.int .i64 0, .int .i64 n, .int .i64 d] 63)) w1.heap.size 63 #[.int .i64 0, .int .i64 n, .int .i64 d]) := Lib.hid (Is.fresh w1 _ _)
        go_wp2_with (at_builtin; refine wpList_append_own _ rfl _ _ 35 rfl w.heap.size 63 i0 (.agg #[.int .i64 0, .int .i64 0, .int .i64 0]) 3 24 Tryz.underlying35 hi0 hz0 hz1 hz2 rfl (by decide) _ L.length (tkCells L) rfl (World.ownsRow.alloc HO2.out _) ⟨w1.heap.size + 1, 0, none⟩ 1 1 [.int .i64 0, .int .i64 n, .int .i64 d] rfl rfl ?c1 ?c2 ?c3 ?c4 ?c5 ?_)
        case c1 => exact World.news_of_block (cs := #[.int .i64 0, .int .i64 n, .int .i64 d]) (t := 63) (fr := (0, 0)) (heap_alloc2_new w1 _ _)
        case c2 => simp [Value.oneCell']
        case c3 => unfold maxLen; omega
        case c4 => omega
        case c5 => simp; omega
        intro v' w2 hown2 hgrow2 _
        have hP := OwnK.pushed (x := ((n : Int), (d : Int), (0 : Int))) HB2.out HO2.out hown2 hgrow2
        have HP := Lib.hid hP
        have hI3 : Is w2 w1.heap.size 63 #[.int .i64 0, .int .i64 n, .int .i64 d] := (HI2.out.alloc _).grown hgrow2 (by
          intro e
          have := (HO1.out.lt _ e.symm).2
          omega)
        have c1 : w2.cell? ⟨w1.heap.size, 1, none⟩ = some (.int .i64 n) := hI3.cell 1
        clear hown2 hgrow2 hP hI3
        go_wp2
        go_roundw
        case rel => exact ⟨i + n, L ++ [((n : Int), (d : Int), (0 : Int))], by omega, by go_num, by rw [List.length_append, List.length_singleton]; omega, Lib.hid (by rw [← HM.out, HST.out, List.append_assoc]; rfl), Lib.hid HP.out.1, Lib.hid HP.out.2⟩
        case measure => simp [intOf]; omega
      · have HST := Lib.hid (toks_step_l (l := s.data.toList) (i := i) (by rw [HLL.out]; exact hlt) h3)
        have hlg : lgAt s.data.toList i = ((0 : Int), (0 : Int), (0 : Int)) := by unfold lgAt; rw [if_neg h3]
        have HBA := Lib.hid (byteZ_at s hlt)
        have hwr : wrap64 (s[i].toNat : Int) = (s[i].toNat : Int) := by have := s[i].toNat_lt; unfold wrap64; omega
        rw [hlg]
        unfold tkVal
        have hd0 : decide ((0 : Int) = 0 ∧ (0 : Int) = 0 ∧ (0 : Int) = 0) = true := by simp
        have hi1 : (0 : Int) ≤ (i : Int) := by omega
        clear hlg h3
        have HB2 := Lib.hid (HB1.out.alloc (.cells #[.int .i64 0, .int .i64 0, .int .i64 0] 63))
        have HO2 : Hid (OwnK (w1.alloc (.cells #[.int .i64 0, .int .i64 0, .int .i64 0] 63)) w.heap.size u3 L) := Lib.hid (HO1.out.but ((But.refl [] w1).alloc _))
        go_wp2_with (at_builtin; refine wpList_append_own _ rfl _ _ 35 rfl w.heap.size 63 i0 (.agg #[.int .i64 0, .int .i64 0, .int .i64 0]) 3 24 Tryz.underlying35 hi0 hz0 hz1 hz2 rfl (by decide) _ L.length (tkCells L) rfl (World.ownsRow.alloc HO2.out _) ⟨w1.heap.size + 1, 0, none⟩ 1 1 [.int .i64 s[i].toNat, .int .i64 0, .int .i64 0] rfl rfl ?d1 ?d2 ?d3 ?d4 ?d5 ?_)
        case d1 => exact World.news_of_block (cs := #[.int .i64 s[i].toNat, .int .i64 0, .int .i64 0]) (t := 63) (fr := (0, 0)) (heap_alloc2_new w1 _ _)
        case d2 => simp [Value.oneCell']
        case d3 => unfold maxLen; omega
        case d4 => omega
        case d5 => simp; omega
        intro v' w2 hown2 hgrow2 _
        have hP := OwnK.pushed (x := ((0 : Int), (0 : Int), (s[i].toNat : Int))) HB2.out HO2.out hown2 hgrow2
        have HP := Lib.hid hP
        clear hown2 hgrow2 hP
        go_wp2
        go_roundw
        case rel => exact ⟨i + 1, L ++ [((0 : Int), (0 : Int), (s[i].toNat : Int))], by omega, by go_num, by rw [List.length_append, List.length_singleton]; omega, Lib.hid (by rw [← HM.out, HST.out, HBA.out, List.append_assoc]; rfl), Lib.hid HP.out.1, Lib.hid HP.out.2⟩
        case measure => simp [intOf]; omega
    · go_wp2
      (try rw [Exit.noGoto_ret])
      go_ret
      have e : i = s.size := by omega
      refine ⟨_, rfl, ?_, HB.out⟩
      have h := HM.out
      rw [toks_step_e (by rw [HLL.out]; exact hlt), List.append_nil] at h
      rw [← h]; exact HO.out
end Go.Proofs.YtghegmbafbpnjaaGreatDoor
set_option maxRecDepth 100000
set_option linter.unusedVariables false
namespace Go.Proofs.YtghegmbafbpnjaaGreatDoor
set_option maxRecDepth 100000
open Go Go.RowKit
/-- What the document's writer does to the world: its own blocks alone. -/
def WroteF (w w' : World) (lo b : Nat) (og : Option Nat) (r : Nat × Nat) : Prop := ∃ og', FW w' lo b og' r.1 r.2 ∧ (∀ g, og' = some g → og = some g ∨ w.heap.size ≤ g) ∧ But (b :: og.toList) w w'
section
variable {w w1 w' : World} {lo b : Nat} {og : Option Nat} {r : Nat × Nat}
theorem WroteF.refl (h : FW w lo b og r.1 r.2) : WroteF w w lo b og r := ⟨og, h, fun _ h => .inl h, But.refl _ _⟩
theorem WroteF.but (h : WroteF w w' lo b og r) : But (b :: og.toList) w w' := by
  obtain ⟨_, _, _, h⟩ := h; exact h
theorem WroteF.keep {Q : World → Prop} (h : WroteF w w' lo b og r) (k : Keep (b :: og.toList) w Q) : Q w' := k w' h.but
theorem WroteF.step {r' : Nat × Nat} {og' og2 : Option Nat} (hg : ∀ g, og' = some g → og = some g ∨ w.heap.size ≤ g) (hB : But (b :: og.toList) w w1)
    (h2 : FW w' lo b og2 r'.1 r'.2) (hg2 : ∀ g, og2 = some g → og' = some g ∨ w1.heap.size ≤ g) (hB2 : But (b :: og'.toList) w1 w') : WroteF w w' lo b og r' := by
  refine ⟨og2, h2, fun g e => ?_, hB.join hB2 fun i hi => ?_⟩
  · rcases hg2 g e with h | h
    · exact hg g h
    · exact .inr (Nat.le_trans hB.size h)
  · simp only [List.mem_cons, Option.mem_toList] at hi ⊢
    rcases hi with h | h
    · exact .inl (.inl h)
    · rcases hg i h with h | h
      · exact .inl (.inr h)
      · exact .inr h
theorem WroteF.bits (h : WroteF w w1 lo b og r) (hlo : lo ≤ w.heap.size) (hN : r.2 ≤ 100000000000) (v n : Nat) :
    Calls Tryz.prog 48 #[.pointer (some ⟨b, 0, none⟩), .int .i64 v, .int .i64 n] w1 fun e w' => e = .returned (.tuple #[]) ∧ WroteF w w' lo b og (layB r v n) := by
  obtain ⟨og', hW, hg, hB⟩ := h
  refine (hW.bits (Nat.le_trans hlo hB.size) (by omega) v n).mono ?_
  rintro e w' ⟨rfl, og2, hW2, hg2, hB2⟩
  exact ⟨rfl, WroteF.step hg hB hW2 hg2 hB2⟩
theorem WroteF.bitsI (h : WroteF w w1 lo b og r) (hlo : lo ≤ w.heap.size) (hN : r.2 ≤ 100000000000) (v n : Int) :
    Calls Tryz.prog 48 #[.pointer (some ⟨b, 0, none⟩), .int .i64 v, .int .i64 n] w1 fun e w' => e = .returned (.tuple #[]) ∧ WroteF w w' lo b og (layX r.1 r.2 v n, layN r.2 n) := by
  obtain ⟨og', hW, hg, hB⟩ := h
  refine (hW.bits (Nat.le_trans hlo hB.size) (by omega) v n).mono ?_
  rintro e w' ⟨rfl, og2, hW2, hg2, hB2⟩
  exact ⟨rfl, WroteF.step hg hB hW2 hg2 hB2⟩
theorem WroteF.bytes (h : WroteF w w1 lo b og r) (hlo : lo ≤ w.heap.size) (hN : r.2 ≤ 100000000000) (s : ByteArray) (hs : s.size ≤ 70368744177664) :
    Calls Tryz.prog 49 #[.pointer (some ⟨b, 0, none⟩), .string s] w1 fun e w' => e = .returned (.tuple #[]) ∧ WroteF w w' lo b og (bytesX r.1 r.2 s, bytesN r.2 s) := by
  obtain ⟨og', hW, hg, hB⟩ := h
  refine (hW.bytes (Nat.le_trans hlo hB.size) (by omega) s hs).mono ?_
  rintro e w' ⟨rfl, og2, hW2, hg2, hB2⟩
  exact ⟨rfl, WroteF.step hg hB hW2 hg2 hB2⟩
theorem WroteF.text (h : WroteF w w1 lo b og r) : Calls Tryz.prog 50 #[.pointer (some ⟨b, 0, none⟩)] w1 fun e w' => e = .returned (.string (textX r)) ∧ w1 = w' := by
  obtain ⟨og', hW, hg, hB⟩ := h
  exact hW.text
end
end Go.Proofs.YtghegmbafbpnjaaGreatDoor
set_option maxRecDepth 100000
set_option linter.unusedVariables false
namespace Go.Proofs.YtghegmbafbpnjaaGreatDoor
set_option maxRecDepth 100000
open Go Go.RowKit
theorem okl {l : List Int} (hc : chk l = 0) : ∀ x ∈ l, 0 ≤ x ∧ x ≤ 15 := fun x hx => chk_okay hc x hx
theorem layC_few {l : List Int} (hok : ∀ x ∈ l, 0 ≤ x ∧ x ≤ 15) (q : Nat × Nat) (t : Nat) : (layC l q t).2 ≤ q.2 + 15 := by
  unfold layC layS
  by_cases hh : has l t
  · rw [if_pos hh, layG_len, Int.toNat_natCast]
    have h8 : (t : Int) < l.length := hh.2.1
    have h9 := hok _ (List.getElem_mem (show t < l.length by omega))
    rw [← getD_get (show t < l.length by omega)] at h9
    omega
  · rw [if_neg hh]; omega
theorem layB_few (q : Nat × Nat) (v n : Nat) : (layB q v n).2 ≤ q.2 + n := by
  unfold layB layN
  dsimp only
  split
  · omega
  · rw [Int.toNat_natCast]; exact Nat.le_refl _
theorem layT_few {l d : List Int} (hl : ∀ x ∈ l, 0 ≤ x ∧ x ≤ 15) (hd : ∀ x ∈ d, 0 ≤ x ∧ x ≤ 15) {t : Tk} (ht : tkHas l d t) (q : Nat × Nat) : (layT l d q t).2 ≤ q.2 + 60 := by
  unfold tkHas at ht
  unfold layT
  by_cases h0 : t.1 = 0
  · rw [if_pos h0]; have := layC_few hl q t.2.2; omega
  · rw [if_neg h0] at ht ⊢
    obtain ⟨a1, a2, a3, a4, a5, a6⟩ := ht
    obtain ⟨b1, b2, b3, b4⟩ := lsym_all t.1 (by omega) a1
    obtain ⟨c1, c2, c3⟩ := dsym_all t.2.1 (by omega) a3
    have e1 := layC_few hl q (lsym t.1)
    have e2 := layB_few (layC l q (lsym t.1)) (t.1 - lenBase (lsym t.1)) (lenBits (lsym t.1))
    have e3 := layC_few hd (layB (layC l q (lsym t.1)) (t.1 - lenBase (lsym t.1)) (lenBits (lsym t.1))) (dsym t.2.1)
    have e4 := layB_few (layC d (layB (layC l q (lsym t.1)) (t.1 - lenBase (lsym t.1)) (lenBits (lsym t.1))) (dsym t.2.1)) (t.2.1 - dstBase (dsym t.2.1)) (dstBits (dsym t.2.1))
    have e5 := lenBase_few (lsym t.1) (by omega) b1
    have e6 := dstBase_few (dsym t.2.1) (by omega)
    omega
theorem layTs_snoc (l d : List Int) (q : Nat × Nat) (ts : List Tk) (t : Tk) : layTs l d q (ts ++ [t]) = layT l d (layTs l d q ts) t := by
  unfold layTs; rw [List.foldl_append]; rfl
section
variable {w w1 w' : World} {lo b : Nat} {og : Option Nat} {r : Nat × Nat}
end
end Go.Proofs.YtghegmbafbpnjaaGreatDoor
