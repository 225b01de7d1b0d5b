/- Several texts in one: DefQ, DefR, Rep, MkT, SmT, DyT, EfA, EfB, DgF (what Back, Best, Dynamic, Fixed, Least, Runs, Stored reach of them). -/
import Derived.Test.YtjeeiodpdfbgmaaDoorPm01
import Derived.Test.YtjeeiodpdfbgmaaDoorPm02
import Derived.Test.YtjeeiodpdfbgmaaDoorPm03
import Derived.Test.YtjeeiodpdfbgmaaDoorPm04
import Derived.Test.YtjeeiodpdfbgmaaDoorPm05
import Derived.Test.YtjeeiodpdfbgmaaDoorPm06
import Derived.Test.YtjeeiodpdfbgmaaDoorPm07
import Derived.Test.YtjeeiodpdfbgmaaDoorPm08
import Derived.Test.YtjeeiodpdfbgmaaDoorPm09
import Derived.Below
import Derived.BigQuiet
import Derived.BigRegion
import Derived.Deep.AppendLies
import Derived.Deep.CutRange
import Derived.Deep.DeepCutAuto
import Derived.Deep.Draws
import Derived.Deep.LoopGhost
import Derived.Deep.QuietTactic
import Derived.Deep.RegionLaw
import Derived.Deep.RegionWith
import Derived.Deep.Slices
import Derived.Laws.BitsAllLaws
import Derived.Laws.BitsLemmas
import Derived.Laws.CopyOwn
import Derived.Laws.IdiomStrings
import Derived.Laws.OwnMore
import Derived.Laws.Rows
import Derived.Lib.AppendStr
import Derived.Lib.Hide
import Derived.Lib.Strings
import Derived.LoopIn
import Derived.LoopNIn
import Derived.OneCell
import Derived.OpenShut
import Derived.Outline
import Derived.OwnWalk
import Derived.OwnWalkIn
import Derived.ProofKit
import Derived.RangeFuncBound
import Derived.RangeFuncCalls
import Derived.RangeFuncLeaves
import Derived.RangeFuncNested
import Derived.RegionTactic
import Derived.Shelf.Abstract
import Derived.Shelf.RegionOpen
import Derived.Shelf.SlSortCmp.QuietGrown
import Derived.StillTailTactics
import Derived.TacticsInMore
import Derived.Test.YtjeeiodpdfbgmaaDoorChecked
import Derived.WalkKit
import Derived.WalkLawsBesides
import Derived.WalkSpells
set_option maxRecDepth 100000
set_option linter.unusedVariables false
set_option linter.unusedVariables false
namespace Go.Proofs.YtjeeiodpdfbgmaaDoor
set_option maxRecDepth 100000
def inc (l : List Int) (i : Nat) : List Int := l.set i (l.getD i 0 + 1)
theorem length_inc (l : List Int) (i : Nat) : (inc l i).length = l.length := by simp [inc]
theorem inc_getD (l : List Int) (i j : Nat) : (inc l i).getD j 0 = if i = j ∧ j < l.length then l.getD j 0 + 1 else l.getD j 0 := by
  unfold inc
  rw [set_getD]
  by_cases h : i = j ∧ j < l.length
  · rw [if_pos h, if_pos h, h.1]
  · rw [if_neg h, if_neg h]
section
variable {β : Type}
/-- How often each number stands among what things tell. -/
def tally (f : β → Option Nat) (a : List Int) (ts : List β) : List Int := ts.foldl (fun a t => match f t with | none => a | some i => inc a i) a
theorem tally_cons (f : β → Option Nat) (a : List Int) (t : β) (ts : List β) : tally f a (t :: ts) = tally f (match f t with | none => a | some i => inc a i) ts := rfl
theorem tally_snoc (f : β → Option Nat) (a : List Int) (ts : List β) (t : β) : tally f a (ts ++ [t]) = match f t with | none => tally f a ts | some i => inc (tally f a ts) i := by
  unfold tally; rw [List.foldl_append]; rfl
theorem length_tally (f : β → Option Nat) : ∀ (ts : List β) (a : List Int), (tally f a ts).length = a.length
  | [], _ => rfl
  | t :: ts, a => by
    rw [tally_cons, length_tally f ts]
    cases f t with
    | none => rfl
    | some i => exact length_inc a i
theorem tally_ge (f : β → Option Nat) (j : Nat) : ∀ (ts : List β) (a : List Int), a.getD j 0 ≤ (tally f a ts).getD j 0
  | [], _ => Int.le_refl _
  | t :: ts, a => by
    rw [tally_cons]
    have ih := tally_ge f j ts (match f t with | none => a | some i => inc a i)
    refine Int.le_trans ?_ ih
    cases f t with
    | none => exact Int.le_refl _
    | some i =>
      show a.getD j 0 ≤ (inc a i).getD j 0
      rw [inc_getD]; split <;> omega
theorem tally_le (f : β → Option Nat) (j : Nat) : ∀ (ts : List β) (a : List Int), (tally f a ts).getD j 0 ≤ a.getD j 0 + ts.length
  | [], a => by show a.getD j 0 ≤ a.getD j 0 + ((0 : Nat) : Int); omega
  | t :: ts, a => by
    rw [tally_cons, List.length_cons]
    have ih := tally_le f j ts (match f t with | none => a | some i => inc a i)
    have h : (match f t with | none => a | some i => inc a i).getD j 0 ≤ a.getD j 0 + 1 := by
      cases f t with
      | none => show a.getD j 0 ≤ a.getD j 0 + 1; omega
      | some i =>
        show (inc a i).getD j 0 ≤ _
        rw [inc_getD]; split <;> omega
    omega
theorem tally_pos (f : β → Option Nat) {i : Nat} {t : β} (hf : f t = some i) : ∀ (ts : List β) (a : List Int), t ∈ ts → i < a.length → 0 ≤ a.getD i 0 → 1 ≤ (tally f a ts).getD i 0
  | [], _, h, _, _ => by cases h
  | x :: ts, a, h, hi, h0 => by
    rw [tally_cons]
    have hl : (match f x with | none => a | some i => inc a i).length = a.length := by
      cases f x with
      | none => rfl
      | some i => exact length_inc a i
    have hn : 0 ≤ (match f x with | none => a | some i => inc a i).getD i 0 := by
      cases f x with
      | none => exact h0
      | some k =>
        show 0 ≤ (inc a k).getD i 0
        rw [inc_getD]; split <;> omega
    rcases List.mem_cons.1 h with rfl | h
    · have hg := tally_ge f i ts (match f t with | none => a | some i => inc a i)
      rw [hf] at hg ⊢
      have e : (inc a i).getD i 0 = a.getD i 0 + 1 := by rw [inc_getD, if_pos ⟨rfl, hi⟩]
      have hg2 : (inc a i).getD i 0 ≤ (tally f (inc a i) ts).getD i 0 := hg
      show 1 ≤ (tally f (inc a i) ts).getD i 0
      omega
    · exact tally_pos f hf ts _ h (by rw [hl]; exact hi) hn
end
theorem zeros_at (n j : Nat) : (List.replicate n (0 : Int)).getD j 0 = 0 := by
  rw [List.getD_eq_getElem?_getD]
  by_cases h : j < n
  · rw [List.getElem?_eq_getElem (by simpa using h), List.getElem_replicate]; rfl
  · rw [List.getElem?_eq_none (by simpa using Nat.le_of_not_lt h)]; rfl
/-- There are no more coins than numbers. -/
theorem csOf_few (l : List Int) : (csOf l l.length).length ≤ l.length := by
  have h := sum_coins l (fun _ => 1)
  rw [upTo_const, Nat.mul_one] at h
  rw [← h]
  have : ∀ (g : Nat → Nat) (n : Nat), (∀ i, g i ≤ 1) → ((List.range n).map g).sum ≤ n := by
    intro g n hg
    induction n with
    | zero => simp
    | succ n ih => rw [List.range_succ, List.map_append, List.sum_append]; have := hg n; simp; omega
  exact this _ _ (fun i => by split <;> omega)

def symA (t : Tk) : Nat := if t.1 = 0 then t.2.2 else lsym t.1
def cntA (ts : List Tk) : List Int := tally (fun t => some (symA t)) ((List.replicate 286 0).set 256 1) ts
def cntB (ts : List Tk) : List Int := tally (fun t => if t.1 = 0 then none else some (dsym t.2.1)) (List.replicate 30 0) ts
def lenA (ts : List Tk) : List Int := upto0 (lims 15 (cntA ts)) 257
def lenB (ts : List Tk) : List Int := upto0 (lims 15 (cntB ts)) 1
def cntS (ls : List Int) : List Int := tally (fun c : Int × Nat => some c.1.toNat) (List.replicate 19 0) (runs ls)
def lenS (ls : List Int) : List Int := lims 7 (cntS ls)
def told (small : List Int) : List Int := upto0 (ordS.map fun k => small.getD k 0) 4
theorem start_at (j : Nat) : 0 ≤ ((List.replicate 286 (0 : Int)).set 256 1).getD j 0 := by
  rw [set_getD, zeros_at]; split <;> omega
theorem length_cntA (ts : List Tk) : (cntA ts).length = 286 := by unfold cntA; rw [length_tally]; simp
theorem length_cntB (ts : List Tk) : (cntB ts).length = 30 := by unfold cntB; rw [length_tally]; simp
theorem length_cntS (ls : List Int) : (cntS ls).length = 19 := by unfold cntS; rw [length_tally]; simp
theorem lims_chk {M : Nat} {l : List Int} (h1 : 1 ≤ M) (h2 : M ≤ 15) (hl : l.length ≤ 288) (hp : l.length ≤ 2 ^ M) : chk (lims M l) = 0 := chk_lims h1 (Nat.le_trans (csOf_few l) hp) h2 hl
theorem lims_in {M : Nat} {l : List Int} (h1 : 1 ≤ M) (hp : l.length ≤ 2 ^ M) (i : Nat) : 0 ≤ (lims M l).getD i 0 ∧ (lims M l).getD i 0 ≤ (M : Int) := by
  by_cases hi : i < l.length
  · by_cases h : 0 < l.getD i 0
    · have := lims_at (M := M) h1 (Nat.le_trans (csOf_few l) hp) hi h; omega
    · rw [lims_none h]; omega
  · rw [List.getD_eq_getElem?_getD, List.getElem?_eq_none (by rw [length_lims]; omega)]
    show (0 : Int) ≤ 0 ∧ (0 : Int) ≤ M; omega
/-- What stands has a code. -/
theorem lims_has {M least : Nat} {l : List Int} (h1 : 1 ≤ M) (hp : l.length ≤ 2 ^ M) {i : Nat} (hi : i < l.length) (h : 1 ≤ l.getD i 0) : has (upto0 (lims M l) least) (i : Nat) := by
  have h3 := lims_at (M := M) h1 (Nat.le_trans (csOf_few l) hp) hi (by omega)
  have h4 := upto0_getD (lims M l) least i
  refine show 0 ≤ (i : Int) ∧ (i : Int) < (upto0 (lims M l) least).length ∧ (upto0 (lims M l) least).getD (i : Int).toNat 0 ≠ 0 from ⟨by omega, ?_, by rw [Int.toNat_natCast, h4]; omega⟩
  apply Classical.byContradiction; intro hc
  rw [List.getD_eq_getElem?_getD, List.getElem?_eq_none (by omega)] at h4
  have h5 : (0 : Int) = (lims M l).getD i 0 := h4
  omega
theorem map_getD {f : Nat → Int} {l : List Nat} {i : Nat} (h : i < l.length) : (l.map f).getD i 0 = f (l.getD i 0) := by
  rw [List.getD_eq_getElem?_getD, List.getElem?_map, List.getD_eq_getElem?_getD, List.getElem?_eq_getElem h]; rfl
theorem pow15 : (2 : Nat) ^ 15 = 32768 := by decide
theorem pow7 : (2 : Nat) ^ 7 = 128 := by decide
theorem ordS_mem : ∀ j, j < 19 → ∃ i, i < 19 ∧ ordS.getD i 0 = j := by decide
theorem runs_15 {A B : List Int} (ha : ∀ i, 0 ≤ A.getD i 0 ∧ A.getD i 0 ≤ 15) (hb : ∀ i, 0 ≤ B.getD i 0 ∧ B.getD i 0 ≤ 15) (i : Nat) : 0 ≤ (A ++ B).getD i 0 ∧ (A ++ B).getD i 0 ≤ 15 := by
  by_cases h : i < A.length
  · have e : (A ++ B).getD i 0 = A.getD i 0 := by rw [List.getD_eq_getElem?_getD, List.getElem?_append_left h, List.getD_eq_getElem?_getD]
    rw [e]; exact ha i
  · have e : (A ++ B).getD i 0 = B.getD (i - A.length) 0 := by rw [List.getD_eq_getElem?_getD, List.getElem?_append_right (by omega), List.getD_eq_getElem?_getD]
    rw [e]; exact hb _
/-- The three codes of a dynamic block are such as may be. -/
theorem dyn_ok (l : List UInt8) : DynOk (lenA (toks l)) (lenB (toks l)) (lenS (lenA (toks l) ++ lenB (toks l))) (told (lenS (lenA (toks l) ++ lenB (toks l)))).length (toks l) := by
  have hA := length_cntA (toks l)
  have hB := length_cntB (toks l)
  have hla : (lims 15 (cntA (toks l))).length = 286 := by rw [length_lims, hA]
  have hlb : (lims 15 (cntB (toks l))).length = 30 := by rw [length_lims, hB]
  have hua := upto0_len (lims 15 (cntA (toks l))) 257
  have hub := upto0_len (lims 15 (cntB (toks l))) 1
  have ga := uptoN_ge (lims 15 (cntA (toks l))) 257 (lims 15 (cntA (toks l))).length (by omega)
  have gb := uptoN_ge (lims 15 (cntB (toks l))) 1 (lims 15 (cntB (toks l))).length (by omega)
  have wa := uptoN_le (lims 15 (cntA (toks l))) 257 (lims 15 (cntA (toks l))).length
  have wb := uptoN_le (lims 15 (cntB (toks l))) 1 (lims 15 (cntB (toks l))).length
  have ra : ∀ i, 0 ≤ (lenA (toks l)).getD i 0 ∧ (lenA (toks l)).getD i 0 ≤ 15 := fun i => by
    unfold lenA; rw [upto0_getD]; exact lims_in (by omega) (by rw [hA, pow15]; omega) i
  have rb : ∀ i, 0 ≤ (lenB (toks l)).getD i 0 ∧ (lenB (toks l)).getD i 0 ≤ 15 := fun i => by
    unfold lenB; rw [upto0_getD]; exact lims_in (by omega) (by rw [hB, pow15]; omega) i
  have rab := runs_15 ra rb
  obtain ⟨ls, hls⟩ : ∃ ls, ls = lenA (toks l) ++ lenB (toks l) := ⟨_, rfl⟩
  rw [← hls] at rab ⊢
  have hS := length_cntS ls
  have hlS : (lenS ls).length = 19 := by unfold lenS; rw [length_lims, hS]
  have ho : (ordS.map fun k => (lenS ls).getD k 0).length = 19 := by rw [List.length_map]; rfl
  have hut := upto0_len (ordS.map fun k => (lenS ls).getD k 0) 4
  have gt := uptoN_ge (ordS.map fun k => (lenS ls).getD k 0) 4 (ordS.map fun k => (lenS ls).getD k 0).length (by omega)
  have wt := uptoN_le (ordS.map fun k => (lenS ls).getD k 0) 4 (ordS.map fun k => (lenS ls).getD k 0).length
  have hta : ∀ t ∈ toks l, has (lenA (toks l)) (symA t : Nat) := fun t ht => by
    have hs : symA t < 286 := by
      unfold symA
      rcases toks_shape l _ _ t ht with ⟨h1, h2⟩ | ⟨h0, h1, h2, h3, h4⟩
      · rw [if_pos h1]; omega
      · rw [if_neg h0]; have := lsym_all t.1 (by omega) h1; omega
    exact lims_has (by omega) (by rw [hA, pow15]; omega) (by rw [hA]; exact hs) (tally_pos (fun t : Tk => some (symA t)) (t := t) rfl _ _ ht (by simp; exact hs) (start_at _))
  refine ⟨?_, ?_, ?_, ?_, ?_, ?_, ?_, hlS, ?_, ?_, ?_, ?_, ?_, ?_, ?_, ?_⟩
  · unfold lenA; omega
  · unfold lenA; omega
  · unfold lenB; omega
  · unfold lenB; omega
  · exact chk_upto (lims_chk (by omega) (by omega) (by omega) (by rw [hA, pow15]; omega)) _
  · exact chk_upto (lims_chk (by omega) (by omega) (by omega) (by rw [hB, pow15]; omega)) _
  · exact lims_chk (by omega) (by omega) (by omega) (by rw [hS, pow7]; omega)
  · intro k
    have := lims_in (M := 7) (l := cntS ls) (by omega) (by rw [hS, pow7]; omega) k
    unfold lenS; omega
  · unfold told; omega
  · unfold told; omega
  · intro j hj hn
    obtain ⟨i, hi, e⟩ := ordS_mem j hj
    have h1 : (told (lenS ls)).length ≤ i := by
      apply Classical.byContradiction; intro hc
      refine hn ?_
      rw [← e, List.getD_eq_getElem?_getD, List.getElem?_eq_getElem (show i < ordS.length from hi)]
      exact List.mem_take_iff_getElem.2 ⟨i, by show i < min _ 19; omega, rfl⟩
    have h2 := upto0_getD (ordS.map fun k => (lenS ls).getD k 0) 4 i
    have h3 : (upto0 (ordS.map fun k => (lenS ls).getD k 0) 4).getD i 0 = 0 := by
      have h1' : (upto0 (ordS.map fun k => (lenS ls).getD k 0) 4).length ≤ i := h1
      rw [List.getD_eq_getElem?_getD, List.getElem?_eq_none h1']; rfl
    have h4 : (ordS.map fun k => (lenS ls).getD k 0).getD i 0 = (lenS ls).getD (ordS.getD i 0) 0 := map_getD (f := fun k => (lenS ls).getD k 0) (show i < ordS.length from hi)
    rw [← e, ← h4, ← h2, h3]
  · rw [← hls]; exact rab
  · intro c hc
    rw [← hls] at hc
    have hcr := runsG_codes rab _ _ c hc
    have hp := tally_pos (fun c : Int × Nat => some c.1.toNat) (t := c) rfl (runs ls) (List.replicate 19 0) hc (by simp; omega) (by rw [zeros_at]; exact Int.le_refl 0)
    have h3 := lims_at (M := 7) (l := cntS ls) (i := c.1.toNat) (by omega) (Nat.le_trans (csOf_few _) (by rw [hS, pow7]; omega)) (by rw [hS]; omega) (by unfold cntS; omega)
    refine show 0 ≤ c.1 ∧ c.1 < (lenS ls).length ∧ (lenS ls).getD c.1.toNat 0 ≠ 0 from ⟨hcr.1, by rw [hlS]; omega, ?_⟩
    unfold lenS; omega
  · refine lims_has (by omega) (by rw [hA, pow15]; omega) (by rw [hA]; omega) ?_
    have h := tally_ge (fun t : Tk => some (symA t)) 256 (toks l) ((List.replicate 286 (0 : Int)).set 256 1)
    rw [set_getD, if_pos ⟨rfl, by simp⟩] at h
    exact h
  · intro t ht
    have h1 := hta t ht
    unfold tkHas
    unfold symA at h1
    rcases toks_shape l _ _ t ht with ⟨h2, h3⟩ | ⟨h0, h2, h3, h4, h5⟩
    · rw [if_pos h2] at h1 ⊢; exact ⟨h3, h1⟩
    · rw [if_neg h0] at h1 ⊢
      have hd := dsym_all t.2.1 (by omega) h4
      refine ⟨h2, h3, h4, h5, h1, ?_⟩
      refine lims_has (by omega) (by rw [hB, pow15]; omega) (by rw [hB]; omega) ?_
      exact tally_pos (fun t : Tk => if t.1 = 0 then none else some (dsym t.2.1)) (t := t) (by rw [if_neg h0]) _ _ ht (by simp; omega) (by rw [zeros_at]; exact Int.le_refl 0)
/-- The bits of the dynamic block of bytes. -/
def dynL (l : List UInt8) : Nat × Nat := dynX (lenA (toks l)) (lenB (toks l)) (lenS (lenA (toks l) ++ lenB (toks l))) (told (lenS (lenA (toks l) ++ lenB (toks l)))).length (toks l)
end Go.Proofs.YtjeeiodpdfbgmaaDoor
set_option linter.unusedVariables false
namespace Go.Proofs.YtjeeiodpdfbgmaaDoor
set_option maxRecDepth 100000
def layY (q : Nat × Nat) (bs : List UInt8) : Nat × Nat := (bytesX q.1 q.2 ⟨bs.toArray⟩, bytesN q.2 ⟨bs.toArray⟩)
theorem layY_eq (q : Nat × Nat) (bs : List UInt8) : layY q bs = (q.1 + num bs * 2 ^ (8 * ((q.2 + 7) / 8)), 8 * ((q.2 + 7) / 8) + 8 * bs.length) := by
  unfold layY bytesX bytesN
  rfl
def headY (n : Nat) : List UInt8 := [UInt8.ofNat n, UInt8.ofNat (n / 256), UInt8.ofNat (255 - n % 256), UInt8.ofNat (255 - n / 256)]
/-- The bits of one stored block. -/
def layZ (last : Nat) (q : Nat × Nat) (l : List UInt8) : Nat × Nat := layY (layB (layB q last 1) 0 2) (headY l.length ++ l)
/-- The bits of the stored blocks of bytes. -/
def storG : Nat → Nat × Nat → List UInt8 → Nat × Nat
  | 0, q, l => layZ 1 q l
  | f + 1, q, l => if l.length ≤ 65535 then layZ 1 q l else storG f (layZ 0 q (l.take 65535)) (l.drop 65535)
def storX (l : List UInt8) : Nat × Nat := storG l.length (0, 0) l
theorem storG_more : ∀ (f g : Nat) (q : Nat × Nat) (l : List UInt8), l.length ≤ 65535 + 65535 * f → f ≤ g → storG g q l = storG f q l
  | 0, 0, _, _, _, _ => rfl
  | 0, g + 1, q, l, h, _ => by
    show (if l.length ≤ 65535 then layZ 1 q l else _) = layZ 1 q l
    exact if_pos (by omega)
  | f + 1, g + 1, q, l, h, hg => by
    rw [storG, storG]
    by_cases hl : l.length ≤ 65535
    · rw [if_pos hl, if_pos hl]
    · rw [if_neg hl, if_neg hl]; exact storG_more f g _ _ (by rw [List.length_drop]; omega) (by omega)
theorem u8n (n : Nat) (h : n < 256) : (UInt8.ofNat n).toNat = n := by
  have h := UInt8.toNat_ofNat' (n := n)
  omega
def textX (r : Nat × Nat) : ByteArray := textOf r.1 r.2
/-- The shortest of the three; the first one of those. -/
def bestX (l : List UInt8) : ByteArray :=
  let a := textX (storX l); let b := textX (fixedX l); let c := textX (dynL l)
  let d := if b.size < a.size then b else a
  if c.size < d.size then c else d
end Go.Proofs.YtjeeiodpdfbgmaaDoor
namespace Go.Proofs.YtjeeiodpdfbgmaaDoor
set_option maxRecDepth 100000
open Go Go.RowKit
theorem and_low (n : Nat) (h : n ≤ 100000) : Go.bits .and .u64 (n : Int) 4294967295 = (n : Int) := by
  have h1 := u64_and_nat n 4294967295 (by omega) (by decide)
  have h2 : n &&& 4294967295 = n := by
    have := Nat.and_two_pow_sub_one_eq_mod n 32
    rw [show (4294967295 : Nat) = 2 ^ 32 - 1 from rfl, this]
    exact Nat.mod_eq_of_lt (by omega)
  rw [h2] at h1
  exact h1
theorem u64_low (n : Nat) (h : n ≤ 100000) : IntKind.u64.wrap (n : Int) = (n : Int) := by
  rw [IntKind.wrap_u64]; omega
theorem mul64_one (n : Nat) (h : n ≤ 100000) (w : World) :
    Calls Tryd.prog 103 #[.int .u64 1, .int .u64 n] w fun e w' => e = .returned (.tuple #[.int .u64 0, .int .u64 n]) ∧ w = w' := by
  have e1 := and_low n h
  have e2 : (n : Int) / 4294967296 = 0 := by omega
  have e3 : Go.bits .and .u64 1 4294967295 = 1 := and_low 1 (by omega)
  have e4 := u64_low n h
  have e5 : Go.bits .and .u64 0 4294967295 = 0 := and_low 0 (by omega)
  go_enter Tryd.func103, Tryd.ntmps103
  go_wp2
  go_ret2
  exact ⟨rfl, rfl⟩
theorem mul_one (n : Nat) (h : n ≤ 100000) (w : World) :
    Calls Tryd.prog 86 #[.int .u64 1, .int .u64 n] w fun e w' => e = .returned (.tuple #[.int .u64 0, .int .u64 n]) ∧ w = w' := by
  have e4 := u64_low n h
  have HM := Lib.hid (mul64_one n h w)
  clear h
  go_enter Tryd.func86, Tryd.ntmps86
  go_wp2_with fail
  refine HM.out.mono ?_
  rintro e w' ⟨rfl, rfl⟩
  go_wp2
  go_ret2
  exact ⟨rfl, rfl⟩

/-- A row of numbers that is known whole. -/
def Whole (w : World) (g : Nat) (l : List Int) : Prop := Is w g 3 (l.map (Value.int .i64)).toArray
theorem OwnI.whole {w : World} {base g n : Nat} {l : List Int} (h : OwnI w base (.slice (some ⟨g, 0, none⟩) n n) l) (hl : l.length = n) : Whole w g l ∧ base ≤ g := by
  unfold OwnI at h
  rcases h.2 with ⟨e, _⟩ | ⟨g', cap, cur, e, hb, hh, h1, h2, h3, h4⟩
  · cases e
  · injection e with e1 e2 e3
    injection e1 with e1
    injection e1 with e1
    subst e1 e3
    refine ⟨?_, hb⟩
    unfold Whole Is
    have : cur = (l.map (Value.int .i64)).toArray := by
      apply Array.ext'
      rw [← h4, List.take_of_length_le (by rw [Array.length_toList, h3, hl]; omega)]
    rw [← this]; exact hh
theorem Whole.own {w : World} {base g n : Nat} {l : List Int} (h : Whole w g l) (hl : l.length = n) (hb : base ≤ g) (hn : n ≤ 100000) : OwnI w base (.slice (some ⟨g, 0, none⟩) n n) l := by
  unfold OwnI
  refine ⟨by simp, .inr ⟨g, n, (l.map (Value.int .i64)).toArray, by rw [hl], hb, h, by omega, by unfold maxLen; omega, by simp; omega, by rw [List.take_of_length_le (by simp)]⟩⟩
/-- The cells of a row that is filled up to k. -/
def fillC (x : Int) (k n : Nat) : List Value := List.replicate k (.int .i64 x) ++ List.replicate (n - k) (.int .i64 0)
theorem length_fillC (x : Int) {k n : Nat} (h : k ≤ n) : (fillC x k n).length = n := by unfold fillC; simp; omega
theorem splice_fill (x : Int) (k n m : Nat) (h : k + m ≤ n) : splice (fillC x k n) k (List.replicate m (Value.int .i64 x)) = fillC x (k + m) n := by
  unfold splice fillC
  rw [List.take_append_of_le_length (by simp), List.take_of_length_le (by simp), List.length_replicate, List.drop_append]
  simp only [List.length_replicate, List.drop_replicate]
  rw [show k - (k + m) = 0 from by omega, show n - k - (k + m - k) = n - (k + m) from by omega, List.replicate_zero, List.nil_append, ← List.append_assoc, List.replicate_append_replicate]
theorem fill_at (x : Int) {k n j : Nat} (h : j < k) : (fillC x k n)[j]? = some (.int .i64 x) := by
  unfold fillC
  rw [List.getElem?_append_left (by simp; exact h), List.getElem?_replicate, if_pos h]
def Fill (w : World) (g : Nat) (x : Int) (k n : Nat) : Prop := Is w g 3 (fillC x k n).toArray
theorem fill_start {w : World} {g n : Nat} (x : Int) (h : Whole w g (List.replicate n 0)) : Fill w g x 0 n := by
  unfold Whole at h
  unfold Fill fillC
  rw [List.map_replicate] at h
  simpa using h
theorem fill_end {w : World} {g n : Nat} {x : Int} (h : Fill w g x n n) : Whole w g (List.replicate n x) := by
  unfold Fill fillC at h
  unfold Whole
  rw [List.map_replicate]
  simpa using h

theorem but_of_below {w w' : World} (h : Below w.heap.size w w') : But [] w w' := ⟨h.os, h.tape, h.output, h.size, fun k hk _ => h.block k hk⟩
theorem fill_src {w : World} {g k n m j : Nat} {x : Int} {v : Value} (h : Fill w g x k n) (hv : (List.replicate m (Value.int .i64 x))[j]? = some v) (hm : m ≤ k) : w.drew.cell? ((⟨g, 0, none⟩ : Addr).add j) = some v := by
  have hj : j < m := by
    have := (List.getElem?_eq_some_iff.1 hv).1
    simpa using this
  rw [List.getElem?_replicate, if_pos hj] at hv
  have e2 : (⟨g, 0, none⟩ : Addr).add j = ⟨g, j, none⟩ := by unfold Addr.add; split <;> simp_all
  rw [e2]
  have hc : w.cell? ⟨g, j, none⟩ = (fillC x k n).toArray[j]? := h.cell j
  show w.cell? _ = _
  rw [hc, List.getElem?_toArray, fill_at x (by omega)]
  exact hv
attribute [local irreducible] fillC
set_option maxHeartbeats 1000000 in
theorem repeat_any (x : Int) {g c n : Nat} {w : World} (hg : w.cell? ⟨g, 0, none⟩ = some (.int .i64 x)) (hn0 : 0 < n) (hn : n ≤ 100000) :
    Calls Tryd.prog 66 #[.slice (some ⟨g, 0, none⟩) 1 c, .int .i64 n] w fun e w' => ∃ gg cc, e = .returned (.slice (some ⟨gg, 0, none⟩) n cc) ∧ OwnI w' w.heap.size (.slice (some ⟨gg, 0, none⟩) n cc) (List.replicate n x) ∧ But [] w w' := by
  obtain ⟨i0, hi0, hz0, hz1, hz2⟩ := info_parts info_int
  have e4 := u64_low n hn
  have e6 : decide ((9223372036854775807 : Int) < (n : Int)) = false := by simp; omega
  have HM := Lib.hid (mul_one n hn w)
  have HG := Lib.hid hg
  clear hg
  go_enter Tryd.func66, Tryd.ntmps66
  go_wp2_with fail
  refine HM.out.mono ?_
  rintro e w' ⟨rfl, rfl⟩
  have hsz : (Tryd.prog.info? 3).map (·.size) = some 1 := by rw [hi0]; simp [hz1]
  go_wp2_with (first
    | (at_make; refine wpList_make_full _ rfl _ _ 22 rfl w.heap.size 3 i0 _ 1 Tryd.underlying22 hi0 hz0 hz1 _ _ _ _ n rfl rfl (by omega) (by omega) (by rw [hz2]; omega) (by unfold maxLen; omega) (by simp) ?_; intro w1 hown hgrow; have HW := Lib.hid (fill_start x (OwnI.whole (OwnI.made hown) (by simp)).1); have HB := Lib.hid ((But.refl [] w).grown hgrow (fun g e => by cases e)); clear hown hgrow)
    | ((with_reducible show wpList _ _ _ _ _ _); refine wpList_copy_splice (o := ⟨some 33, _, _, _, _, _⟩) rfl (.tmp 31) (.tmp 32) 22 22 rfl 3 Tryd.underlying22 hsz _ _ _ _ _ _ rfl rfl w.heap.size 0 (fillC x 0 n) 3 HW.out [.int .i64 x] ?c1 ?c2 ?c3 ?c4 w.heap.size w HB.out.belowNew (Nat.le_refl _) ?_))
  case c1 => show 1 = min 1 n; omega
  case c2 =>
    intro j v hv
    rcases j with _ | j
    · obtain rfl : Value.int .i64 x = v := by simpa using hv
      exact HB.out.cell HG.out (by simp)
    · simp at hv
  case c3 => rw [length_fillC x (by omega)]; simp; omega
  case c4 => intro v hv; simp at hv; subst hv; rfl
  intro w2 hH hB2
  have hH2 : Hid (Fill w2 w.heap.size x 1 n) := by
    have h1 := hH.out
    have h2 := splice_fill x 0 n 1 (by omega)
    rw [show [Value.int .i64 x] = List.replicate 1 (Value.int .i64 x) from rfl, h2] at h1
    exact h1
  have HB2 := Lib.hid hB2
  clear hH hB2 HW HB HM HG
  go_wp2
  go_loopw [8] (fun kv wr => ∃ k : Nat, 1 ≤ k ∧ k ≤ n ∧ kv = .int .i64 k ∧ Fill wr w.heap.size x k n ∧ Below w.heap.size w wr) (fun kv _ => n - (intOf kv).toNat)
  case atStart => exact ⟨1, Nat.le_refl _, hn0, rfl, hH2.out, HB2.out⟩
  case round =>
    obtain ⟨k, hk1, hkn, rfl, hWr, hBr⟩ := hrel
    clear hH2 HB2
    have HWR := Lib.hid hWr
    have HBR := Lib.hid hBr
    clear hWr hBr
    by_cases hlt : k < n
    · obtain ⟨m, hm⟩ : ∃ m, m = min k (n - k) := ⟨_, rfl⟩
      have hm1 : 1 ≤ m := by omega
      have hm2 : k + m ≤ n := by omega
      have HMM := Lib.hid hm
      clear hm
      have hnk : ¬ n = k := by omega
      have hwr : IntKind.i64.wrap ((k : Int) + (m : Int)) = ((k + m : Nat) : Int) := IntWalk.i64_in _ (by omega)
      have dnk : decide (n < k) = false := by simp; omega
      go_wp2
      go_region_law ((refine step_copy_splice (by rfl) _ _ _ _ (by rfl) 3 Tryd.underlying22 hsz (some ⟨w.heap.size, k, none⟩) (some ⟨w.heap.size, 0, none⟩) (n - k) (n - k) k n ?e1 ?e2 w.heap.size k (fillC x k n) 3 (show wr.drew.heap[w.heap.size]? = _ from HWR.out) (List.replicate m (.int .i64 x)) (show (List.replicate m (Value.int .i64 x)).length = min k (n - k) by rw [List.length_replicate]; exact HMM.out) (fun _ => ⟨rfl, (⟨w.heap.size, 0, none⟩ : Addr), rfl, fun j v hv => fill_src HWR.out hv (by have := HMM.out; omega)⟩) (by rw [length_fillC x hkn, List.length_replicate]; exact hm2) (fun v hv => by rw [List.eq_of_mem_replicate hv]; rfl) w.heap.size w (HBR.out.drew) (Nat.le_refl _) ?_); (case e1 => go_simp); (case e2 => go_simp); intro w3 hH hB3; have hH3 : Hid (Fill w3 w.heap.size x (k + m) n) := (by have h1 := hH.out; rw [splice_fill x k n m hm2] at h1; exact h1); have HB3 := Lib.hid hB3; clear hH hB3)
      all_goals
        go_simp
        go_wp2
        go_roundw
        case rel => exact ⟨k + m, by omega, hm2, by go_num, hH3.out, HB3.out⟩
        case measure => simp [intOf]; omega
    · obtain rfl : k = n := by omega
      go_wp2
      go_ret
      exact ⟨w.heap.size, k, rfl, (fill_end HWR.out).own (by simp) (Nat.le_refl _) hn, but_of_below HBR.out⟩

theorem own_some {w : World} {base : Nat} {v : Value} {l : List Int} (h : OwnI w base v l) (hl : 0 < l.length) : ∃ A c, v = .slice (some A) l.length c ∧ Ints w (some A) l.length l := by
  obtain ⟨A, c, rfl, hI, _⟩ := h.open
  obtain ⟨g, o, rfl, _⟩ := hI.2 hl
  exact ⟨_, c, rfl, hI⟩
end Go.Proofs.YtjeeiodpdfbgmaaDoor
namespace Go.Proofs.YtjeeiodpdfbgmaaDoor
set_option maxRecDepth 100000
open Go Go.RowKit
theorem but_alloc (w : World) (o : Obj) : But [] w (w.alloc o) := (But.refl [] w).alloc o

end Go.Proofs.YtjeeiodpdfbgmaaDoor
namespace Go.Proofs.YtjeeiodpdfbgmaaDoor
set_option maxRecDepth 100000
open Go Go.RowKit
/-- What the program's variables hold. -/
structure GL (w : World) : Prop where
  order : ∀ i, i < 19 → w.cell? ⟨1, i, none⟩ = some (.int .i64 (ordS.getD i 0 : Nat))
  bits : w.cell? ⟨2, 0, none⟩ = some (.int .i64 2) ∧ w.cell? ⟨2, 1, none⟩ = some (.int .i64 3) ∧ w.cell? ⟨2, 2, none⟩ = some (.int .i64 7)
  least : w.cell? ⟨3, 0, none⟩ = some (.int .i64 3) ∧ w.cell? ⟨3, 1, none⟩ = some (.int .i64 3) ∧ w.cell? ⟨3, 2, none⟩ = some (.int .i64 11)
theorem GL.but {w w' : World} (h : GL w) (hB : But [] w w') : GL w' :=
  ⟨fun i hi => hB.cell (h.order i hi) (by simp), ⟨hB.cell h.bits.1 (by simp), hB.cell h.bits.2.1 (by simp), hB.cell h.bits.2.2 (by simp)⟩, ⟨hB.cell h.least.1 (by simp), hB.cell h.least.2.1 (by simp), hB.cell h.least.2.2 (by simp)⟩⟩

section
variable {w w' : World} {b rb db : Nat} {og : Option Nat} {s : ByteArray} {p : Nat} {M : Int} {L : List UInt8} {fs fd : Option Nat}
theorem ordS_lt {i : Nat} (h : i < 19) : ordS.getD i 0 < 19 := by
  have : ∀ i, i < 19 → ordS.getD i 0 < 19 := by decide
  exact this i h
/-- A row of numbers of type t in block B. -/
def Row (w : World) (B : Nat) (t : TypeId) (l : List Int) : Prop := Is w B t (l.map (Value.int .i64)).toArray
theorem Row.ints {B : Nat} {t : TypeId} {l : List Int} (h : Row w B t l) : Ints w (some ⟨B, 0, none⟩) l.length l :=
  ⟨rfl, fun _ => ⟨B, 0, rfl, Is.lt h, fun i hi => by
    have := Is.cell h (0 + i)
    rw [this, Nat.zero_add]
    simp [hi]⟩⟩
theorem Row.set {B : Nat} {t : TypeId} {l : List Int} (h : Row w B t l) (i : Nat) (x : Int) : Row (w.setCell ⟨B, i, none⟩ (.int .i64 x)) B t (l.set i x) := by
  unfold Row at h ⊢
  have := h.put i (.int .i64 x)
  rw [List.map_set]
  simpa using this
theorem Row.at {B : Nat} {t : TypeId} {l : List Int} (h : Row w B t l) {i : Nat} (hi : i < l.length) : w.cell? ⟨B, i, none⟩ = some (.int .i64 (l.getD i 0)) := by
  have := Is.cell h i
  rw [this, List.getD_eq_getElem?_getD, List.getElem?_eq_getElem hi]
  simp [hi]
theorem Row.but {B : Nat} {t : TypeId} {l : List Int} {S : List Nat} (h : Row w B t l) (hB : But S w w') (hS : B ∉ S) : Row w' B t l := Is.but h hB hS

end
end Go.Proofs.YtjeeiodpdfbgmaaDoor
namespace Go.Proofs.YtjeeiodpdfbgmaaDoor
set_option maxRecDepth 100000
open Go Go.RowKit
section
variable {w w' : World} {b rb db : Nat} {og : Option Nat} {s : ByteArray} {p : Nat} {M : Int} {L : List UInt8} {fs fd : Option Nat}
theorem Ints.take {g n k : Nat} {l : List Int} (h : Ints w (some ⟨g, 0, none⟩) n l) (hk : k ≤ n) : Ints w (some ⟨g, 0, none⟩) k (l.take k) := by
  have hl := h.1
  refine ⟨by rw [List.length_take]; omega, fun hp => ?_⟩
  obtain ⟨g', o, e, hg, hc⟩ := h.2 (by omega)
  refine ⟨g', o, e, hg, fun i hi => ?_⟩
  rw [List.length_take] at hi
  rw [List.getElem_take]
  exact hc i (by omega)
theorem Ints.drop {g n k : Nat} {l : List Int} (h : Ints w (some ⟨g, 0, none⟩) n l) (hk : k ≤ n) : Ints w (some ⟨g, k, none⟩) (n - k) (l.drop k) := by
  have hl := h.1
  refine ⟨by rw [List.length_drop]; omega, fun hp => ?_⟩
  obtain ⟨g', o, e, hg, hc⟩ := h.2 (by omega)
  injection e with e
  injection e with e1 e2
  subst e1 e2
  refine ⟨g, k, rfl, hg, fun i hi => ?_⟩
  rw [List.length_drop] at hi
  have := hc (k + i) (by omega)
  rw [Nat.zero_add] at this
  rw [List.getElem_drop]
  exact this
end
end Go.Proofs.YtjeeiodpdfbgmaaDoor
set_option maxRecDepth 100000
set_option linter.unusedVariables false
namespace Go.Proofs.YtjeeiodpdfbgmaaDoor
set_option maxRecDepth 100000
open Go Go.RowKit
theorem lenBase_few : ∀ t, t < 286 → 257 ≤ t → lenBase t ≤ 258 ∧ lenBits t ≤ 5 := by decide +kernel
theorem dstBase_few : ∀ t, t < 30 → dstBase t ≤ 24577 ∧ dstBits t ≤ 13 := by decide +kernel
section
variable {w : World}
end
end Go.Proofs.YtjeeiodpdfbgmaaDoor
set_option maxRecDepth 100000
set_option linter.unusedVariables false
namespace Go.Proofs.YtjeeiodpdfbgmaaDoor
set_option maxRecDepth 100000
open Go Go.RowKit
def qCells (L : List (Int × Nat)) : List Value := L.flatMap fun c => [.int .i64 c.1, .int .i64 (c.2 : Nat)]
theorem qCells_append (L M : List (Int × Nat)) : qCells (L ++ M) = qCells L ++ qCells M := by simp [qCells]
theorem qCells_at : ∀ (L : List (Int × Nat)) (i : Nat) (h : i < L.length), (qCells L)[i * 2]? = some (.int .i64 L[i].1) ∧ (qCells L)[i * 2 + 1]? = some (.int .i64 (L[i].2 : Nat))
  | x :: L, 0, _ => by simp [qCells]
  | x :: L, i + 1, h => by
    have := qCells_at L i (by simpa using h)
    have e : qCells (x :: L) = .int .i64 x.1 :: .int .i64 (x.2 : Nat) :: qCells L := by simp [qCells]
    rw [e, show (i + 1) * 2 = i * 2 + 1 + 1 from by omega, show i * 2 + 1 + 1 + 1 = i * 2 + 1 + 1 + 1 from rfl]
    simpa using this
/-- A slice reads as these runs. -/
def Qs (w : World) (A : Option Addr) (n : Nat) (L : List (Int × Nat)) : Prop :=
  L.length = n ∧ (0 < n → ∃ g o, A = some ⟨g, o, none⟩ ∧ g < w.heap.size ∧ ∀ (i : Nat) (h : i < L.length), w.cell? ⟨g, o + i * 2, none⟩ = some (.int .i64 L[i].1) ∧ w.cell? ⟨g, o + i * 2 + 1, none⟩ = some (.int .i64 (L[i].2 : Nat)))
theorem Qs.but {w w' : World} {A : Option Addr} {n : Nat} {L : List (Int × Nat)} (h : Qs w A n L) (hw : But [] w w') : Qs w' A n L :=
  ⟨h.1, fun hn => by
    obtain ⟨g, o, e, hg, hc⟩ := h.2 hn
    exact ⟨g, o, e, Nat.lt_of_lt_of_le hg hw.size, fun i hi => ⟨hw.cell (hc i hi).1 (by simp), hw.cell (hc i hi).2 (by simp)⟩⟩⟩
theorem Qs.at {w : World} {A : Option Addr} {n : Nat} {L : List (Int × Nat)} (h : Qs w A n L) {i : Nat} (hi : i < n) :
    ∃ g o c m, A = some ⟨g, o, none⟩ ∧ g < w.heap.size ∧ w.cell? ⟨g, o + i * 2, none⟩ = some (.int .i64 c) ∧ w.cell? ⟨g, o + i * 2 + 1, none⟩ = some (.int .i64 (m : Nat)) ∧ L[i]? = some (c, m) := by
  obtain ⟨g, o, e, hg, hc⟩ := h.2 (by omega)
  have hl : i < L.length := by have := h.1; omega
  exact ⟨g, o, _, _, e, hg, (hc i hl).1, (hc i hl).2, List.getElem?_eq_getElem hl⟩
/-- A slice of the document's runs of the call's own. -/
def OwnQ (w : World) (base : Nat) (v : Value) (L : List (Int × Nat)) : Prop := w.ownsRow base 30 2 v L.length (qCells L)
theorem OwnQ.nil (w : World) (base : Nat) : OwnQ w base (.slice none 0 0) [] := World.ownsRow_nil _ _ _ _
theorem OwnQ.but {w w' : World} {base : Nat} {v : Value} {L : List (Int × Nat)} (h : OwnQ w base v L) (hw : But [] w w') : OwnQ w' base v L := by
  unfold OwnQ at h ⊢
  refine ⟨h.1, ?_⟩
  rcases h.2 with h2 | ⟨g, cap, cur, hv, hg, hh, r⟩
  · exact .inl h2
  · refine .inr ⟨g, cap, cur, hv, hg, ?_, r⟩
    have hlt : g < w.heap.size := (h.lt g (by rw [hv]; rfl)).2
    rw [hw.block g hlt (by simp)]
    exact hh
theorem OwnQ.open {w : World} {base : Nat} {v : Value} {L : List (Int × Nat)} (h : OwnQ w base v L) : ∃ A c, v = .slice A L.length c ∧ Qs w A L.length L := by
  unfold OwnQ at h
  rcases h.2 with ⟨rfl, e⟩ | ⟨g, cap, cur, rfl, hg, hh, r⟩
  · have : L = [] := List.eq_nil_of_length_eq_zero e
    subst this
    exact ⟨none, 0, rfl, rfl, fun h => absurd h (by simp)⟩
  · refine ⟨some ⟨g, 0, none⟩, cap, rfl, rfl, fun hn => ⟨g, 0, rfl, (h.lt g rfl).2, fun i hi => ?_⟩⟩
    obtain ⟨h0, h1⟩ := qCells_at L i hi
    have c0 := h.cells (g := g) rfl (i * 2) _ h0
    have c1 := h.cells (g := g) rfl (i * 2 + 1) _ h1
    rw [Go.WideShapes.add_plain] at c0 c1
    exact ⟨c0, c1⟩
theorem OwnQ.pushed {w wr w' : World} {v v' : Value} {L : List (Int × Nat)} {x : Int × Nat} {cs : Array Value} {t : TypeId} (hB : But [] w wr) (hO : OwnQ wr w.heap.size v L)
    (h1 : w'.ownsRow w.heap.size 30 2 v' (L.length + 1) (qCells L ++ [.int .i64 x.1, .int .i64 (x.2 : Nat)])) (hg : (wr.alloc (.cells cs t)).grownBy w' v.ownBlock) :
    OwnQ w' w.heap.size v' (L ++ [x]) ∧ But [] w w' := by
  refine ⟨?_, (hB.alloc _).grown hg (fun g e => .inr (hO.lt g e).1)⟩
  unfold OwnQ
  rw [List.length_append, qCells_append]
  simpa [qCells] using h1
theorem runsG_more (l : List Int) : ∀ f g i, l.length ≤ i + f → f ≤ g → runsG l g i = runsG l f i
  | 0, 0, _, _, _ => rfl
  | 0, g + 1, i, h, _ => by
    show (if i < l.length then _ else []) = []
    exact if_neg (by omega)
  | f + 1, g + 1, i, h, hg => by
    rw [runsG, runsG]
    by_cases hi : i < l.length
    · rw [if_pos hi, if_pos hi, runsG_more l f g _ (by have := runAt_pos l i; omega) (by omega)]
    · rw [if_neg hi, if_neg hi]
theorem runs_step {l : List Int} {i : Nat} (hi : i < l.length) : runsG l (l.length - i) i = ((runAt l i).1, (runAt l i).2.1) :: runsG l (l.length - (i + (runAt l i).2.2)) (i + (runAt l i).2.2) := by
  obtain ⟨f, hf⟩ : ∃ f, l.length - i = f + 1 := ⟨l.length - i - 1, by omega⟩
  have hp := runAt_pos l i
  rw [hf, runsG, if_pos hi, runsG_more l (l.length - (i + (runAt l i).2.2)) f _ (by omega) (by omega)]
theorem runN_in {l : List Int} {i : Nat} (hi : i < l.length) : 1 ≤ runN l i ∧ i + runN l i ≤ l.length := ⟨eqRun_ge l i _ 1, eqRun_in l i _ 1 (by omega)⟩
theorem runAt_in {l : List Int} {i : Nat} (hi : i < l.length) : i + (runAt l i).2.2 ≤ l.length ∧ (runAt l i).2.1 ≤ 127 := by
  have h := runN_in hi
  unfold runAt
  split
  · dsimp only; omega
  · split
    · dsimp only; omega
    · split
      · dsimp only; omega
      · dsimp only; omega
section
variable {w : World}
end
end Go.Proofs.YtjeeiodpdfbgmaaDoor
set_option maxRecDepth 100000
set_option linter.unusedVariables false
namespace Go.Proofs.YtjeeiodpdfbgmaaDoor
set_option maxRecDepth 100000
open Go Go.RowKit
theorem eqRun_top {l : List Int} {i n k : Nat} (hl : l.length = n) (h : ¬ (i + k < n ∧ l.getD (i + k) 0 = l.getD i 0)) : eqRun l i (n + 1 - k) k = k := by
  by_cases h0 : n + 1 - k = 0
  · rw [h0]; rfl
  · rw [show n + 1 - k = (n + 1 - k - 1) + 1 from by omega, eqRun, if_neg (fun h' => h ⟨by rw [← hl]; exact h'.1, h'.2⟩)]
set_option maxHeartbeats 1000000 in
theorem equal_pany {w : World} {A : Option Addr} {n c i : Nat} {l : List Int} (hl : l.length = n) (hI : Ints w A (n - i) (l.drop i)) (hi : i < n) (hn : n ≤ 1000) :
    Calls Tryd.prog 47 #[.slice A (n - i) c, .int .i64 138] w fun e w' => e = .returned (.int .i64 (min (runN l i) 138 : Nat)) ∧ But [] w w' := by
  obtain ⟨R, hR⟩ : ∃ R, R = runN l i := ⟨_, rfl⟩
  rw [← hR]
  obtain ⟨m, hm⟩ : ∃ m, m = n - i := ⟨_, rfl⟩
  rw [← hm] at hI ⊢
  have hget : ∀ k (hk : k < m), (l.drop i)[k]'(by rw [List.length_drop]; omega) = l.getD (i + k) 0 := fun k hk => by
    rw [List.getElem_drop, List.getD_eq_getElem?_getD, List.getElem?_eq_getElem (by omega)]; rfl
  obtain ⟨g, o, rfl, hgl, hj0⟩ := hI.at (show 0 < m by omega)
  clear hj0
  have hcl : ∀ k, k < m → w.cell? ⟨g, o + k, none⟩ = some (.int .i64 (l.getD (i + k) 0)) := fun k hk => by
    obtain ⟨g2, o2, e, _, hc⟩ := hI.at hk
    injection e with e
    injection e with e1 e2
    subst e1 e2
    rw [hget k hk] at hc
    exact hc
  have h0 := hcl 0 (by omega)
  rw [Nat.add_zero, Nat.add_zero] at h0
  obtain ⟨x, hx⟩ : ∃ x, x = l.getD i 0 := ⟨_, rfl⟩
  rw [← hx] at h0
  have HCL := Lib.hid hcl
  have HX := Lib.hid hx
  have HR := Lib.hid hR
  have HM := Lib.hid hm
  have HL := Lib.hid hl
  have hm1 : 1 ≤ m := by omega
  have hm2 : m ≤ 1000 := by omega
  have H0 := Lib.hid h0
  clear hcl hget hx hR hl h0
  clear hI
  clear hm
  go_enter Tryd.func47, Tryd.ntmps47
  go_wp2
  go_loopw [5] (fun nv wr => ∃ (k q : Nat), 1 ≤ k ∧ k ≤ m ∧ k ≤ 138 ∧ nv = .int .i64 k ∧ Hid (eqRun l i (n + 1 - k) k = R) ∧ wr = w.drewN q) (fun nv _ => 2000 - (intOf nv).toNat)
  case atStart => exact ⟨1, 0, Nat.le_refl _, by omega, by omega, rfl, Lib.hid (by rw [HR.out, Nat.add_sub_cancel]; unfold runN; rw [HL.out]), rfl⟩
  case round =>
    obtain ⟨k, q, hk1, hkm, hk8, rfl, HE, rfl⟩ := hrel
    have h0 := H0.out
    have k0 : (0 : Int) ≤ (k : Int) := by omega
    have p0 : (0 : Int) < (m : Int) := by omega
    obtain ⟨M, hM⟩ : ∃ M, M = min m 138 := ⟨_, rfl⟩
    have hif : (if (138 : Int) < (m : Int) then (138 : Int) else (m : Int)) = (M : Int) := by split <;> omega
    have hMm : M ≤ m := by omega
    have hM8 : M ≤ 138 := by omega
    have hM2 : M = m ∨ M = 138 := by omega
    have HM2 := Lib.hid hM2
    clear hM hM2
    by_cases hkM : k < M
    · have d1 : decide ((k : Int) < (M : Int)) = true := by simp; omega
      have d2 : decide (k < M) = true := by simp; omega
      have k1 : (k : Int) < (m : Int) := by omega
      have hk := HCL.out k (by omega)
      obtain ⟨y, hy⟩ : ∃ y, y = l.getD (i + k) 0 := ⟨_, rfl⟩
      rw [← hy] at hk
      by_cases hyx : y = x
      · have dx : (x == x) = true := by simp
        have HN := Lib.hid (show eqRun l i (n + 1 - (k + 1)) (k + 1) = R by
          rw [← HE.out, show n + 1 - k = (n + 1 - (k + 1)) + 1 from by have := HM.out; omega, eqRun, if_pos ⟨by rw [HL.out]; have := HM.out; omega, by rw [← hy, hyx, HX.out]⟩])
        rw [hyx] at hk
        clear hyx hy
        go_wp2
        go_quiet (fail)
        go_wp2
        go_roundw
        case rel => exact ⟨k + 1, q + nq, by omega, by omega, by omega, by go_num, HN, by trivial⟩
        case measure => simp [intOf]; omega
      · have dx : (y == x) = false := by simpa using hyx
        have HKR := Lib.hid (show k = R by
          rw [← HE.out, eqRun_top HL.out (fun h => hyx (by rw [hy, h.2, HX.out]))])
        clear hyx hy
        go_wp2
        go_quiet (fail)
        go_wp2
        go_ret
        exact ⟨by rw [show min R 138 = k by have := HKR.out; omega]; rfl, ((But.refl [] w).drewN _).drewN _⟩
    · have d1 : decide ((k : Int) < (M : Int)) = false := by simp; omega
      have d2 : decide (k < M) = false := by simp; omega
      have HKR := Lib.hid (show min R 138 = k by
        have h1 := eqRun_ge l i (n + 1 - k) k
        rw [HE.out] at h1
        rcases HM2.out with h | h
        · have h2 := eqRun_top HL.out (i := i) (k := k) (fun h => by have := HM.out; omega)
          rw [HE.out] at h2; omega
        · omega)
      go_wp2
      go_quiet (fail)
      go_wp2
      go_ret
      exact ⟨by rw [HKR.out]; rfl, ((But.refl [] w).drewN _).drewN _⟩
end Go.Proofs.YtjeeiodpdfbgmaaDoor
