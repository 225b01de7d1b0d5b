/- Several texts in one: DefP, DefQ, DefR, ZlM, InfW, InfX, InfY (what Unwraps, Wraps reach of them). -/
import Derived.Test.YtghegmbafbpnjaaGreatDoorPm01
import Derived.Test.YtghegmbafbpnjaaGreatDoorPm02
import Derived.Test.YtghegmbafbpnjaaGreatDoorPm03
import Derived.Test.YtghegmbafbpnjaaGreatDoorPm04
import Derived.Test.YtghegmbafbpnjaaGreatDoorPm05
import Derived.Test.YtghegmbafbpnjaaGreatDoorPm06
import Derived.Test.YtghegmbafbpnjaaGreatDoorPm07
import Derived.Test.YtghegmbafbpnjaaGreatDoorPm08
import Derived.Test.YtghegmbafbpnjaaGreatDoorPm09
import Derived.Below
import Derived.BigQuiet
import Derived.BigRegion
import Derived.Deep.AppendLies
import Derived.Deep.CutRange
import Derived.Deep.DeepCutAuto
import Derived.Deep.Draws
import Derived.Deep.LoopGhost
import Derived.Deep.QuietTactic
import Derived.Deep.RegionLaw
import Derived.Deep.RegionWith
import Derived.Deep.Slices
import Derived.Laws.BitsAllLaws
import Derived.Laws.BitsLemmas
import Derived.Laws.IdiomStrings
import Derived.Laws.OwnMore
import Derived.Laws.Rows
import Derived.Lib.AppendStr
import Derived.Lib.Hide
import Derived.Lib.Strings
import Derived.LoopIn
import Derived.LoopNIn
import Derived.OneCell
import Derived.OpenShut
import Derived.Outline
import Derived.OwnWalk
import Derived.OwnWalkIn
import Derived.ProofKit
import Derived.RangeFuncBound
import Derived.RangeFuncCalls
import Derived.RangeFuncLeaves
import Derived.RangeFuncNested
import Derived.RegionTactic
import Derived.Shelf.Abstract
import Derived.Shelf.RegionOpen
import Derived.Shelf.SlSortCmp.QuietGrown
import Derived.StillTailTactics
import Derived.TacticsInMore
import Derived.Test.YtghegmbafbpnjaaGreatDoorChecked
import Derived.WalkKit
import Derived.WalkLawsBesides
import Derived.WalkSpells
set_option maxRecDepth 100000
set_option linter.unusedVariables false
set_option linter.unusedVariables false
namespace Go.Proofs.YtghegmbafbpnjaaGreatDoor
set_option maxRecDepth 100000
theorem runsG_codes {l : List Int} (h15 : ∀ i, 0 ≤ l.getD i 0 ∧ l.getD i 0 ≤ 15) : ∀ f i, ∀ c ∈ runsG l f i, 0 ≤ c.1 ∧ c.1 ≤ 18
  | 0, _, c, h => by simp [runsG] at h
  | f + 1, i, c, h => by
    rw [runsG] at h
    by_cases hi : i < l.length
    · rw [if_pos hi] at h
      rcases List.mem_cons.1 h with rfl | h
      · have hv := h15 i
        show 0 ≤ (runAt l i).1 ∧ (runAt l i).1 ≤ 18
        unfold runAt
        split
        · dsimp only; omega
        · split
          · dsimp only; omega
          · split
            · dsimp only; omega
            · dsimp only; omega
      · exact runsG_codes h15 f _ c h
    · rw [if_neg hi] at h; cases h
/-- The bits of the stream of one dynamic block. -/
def dynX (A B small : List Int) (n : Nat) (ts : List Tk) : Nat × Nat := layD A B small n ts (layB (layB (0, 0) 1 1) 2 2)
def uptoN (l : List Int) (least : Nat) : Nat → Nat
  | 0 => 0
  | n + 1 => if least < n + 1 ∧ l.getD n 0 = 0 then uptoN l least n else n + 1
theorem uptoN_le (l : List Int) (least : Nat) : ∀ n, uptoN l least n ≤ n
  | 0 => Nat.le_refl _
  | n + 1 => by
    rw [uptoN]; split
    · have := uptoN_le l least n; omega
    · exact Nat.le_refl _
theorem uptoN_ge (l : List Int) (least : Nat) : ∀ n, least ≤ n → least ≤ uptoN l least n
  | 0, h => h
  | n + 1, h => by
    rw [uptoN]; split
    · rename_i hc; exact uptoN_ge l least n (by omega)
    · exact h
theorem uptoN_zero (l : List Int) (least : Nat) : ∀ n i, uptoN l least n ≤ i → i < n → l.getD i 0 = 0
  | 0, _, _, h => by omega
  | n + 1, i, h1, h2 => by
    rw [uptoN] at h1
    split at h1
    · rename_i hc
      by_cases e : i = n
      · subst e; exact hc.2
      · exact uptoN_zero l least n i h1 (by omega)
    · omega
def upto0 (l : List Int) (least : Nat) : List Int := l.take (uptoN l least l.length)
theorem upto0_len (l : List Int) (least : Nat) : (upto0 l least).length = uptoN l least l.length := by
  have := uptoN_le l least l.length
  unfold upto0; rw [List.length_take]; omega
theorem upto0_getD (l : List Int) (least i : Nat) : (upto0 l least).getD i 0 = l.getD i 0 := by
  unfold upto0
  by_cases h : i < uptoN l least l.length
  · rw [List.getD_eq_getElem?_getD, List.getD_eq_getElem?_getD, List.getElem?_take_of_lt h]
  · have e : (l.take (uptoN l least l.length)).getD i 0 = 0 := by
      rw [List.getD_eq_getElem?_getD, List.getElem?_eq_none (by rw [List.length_take]; omega)]; rfl
    rw [e]
    by_cases h2 : i < l.length
    · exact (uptoN_zero l least l.length i (by omega) h2).symm
    · rw [List.getD_eq_getElem?_getD, List.getElem?_eq_none (by omega)]; rfl
theorem zeros_sum : ∀ L : List Int, (∀ x ∈ L, x = 0) → ksum L = 0 ∧ many L = 0 ∧ okLens L = true
  | [], _ => ⟨rfl, rfl, rfl⟩
  | x :: L, h => by
    obtain ⟨h1, h2, h3⟩ := zeros_sum L (fun y hy => h y (by simp [hy]))
    have hx := h x (by simp)
    subst hx
    refine ⟨?_, ?_, ?_⟩
    · show kr 0 + ksum L = 0; rw [h1]; rfl
    · unfold many at h2 ⊢; rw [List.filter_cons, if_neg (by simp)]; exact h2
    · show (okLen 0 && okLens L) = true; rw [h3]; rfl
theorem chk_upto {l : List Int} (h : chk l = 0) (least : Nat) : chk (upto0 l least) = 0 := by
  obtain ⟨h1, h2, h3, h4⟩ := chk_zero h
  have hd : ∀ x ∈ l.drop (uptoN l least l.length), x = 0 := fun x hx => by
    obtain ⟨i, hi, e⟩ := List.getElem_of_mem hx
    rw [List.length_drop] at hi
    rw [List.getElem_drop] at e
    have := uptoN_zero l least l.length (uptoN l least l.length + i) (by omega) (by omega)
    rw [List.getD_eq_getElem?_getD, List.getElem?_eq_getElem (by omega)] at this
    rw [← e]; exact this
  obtain ⟨z1, z2, z3⟩ := zeros_sum _ hd
  have el := List.take_append_drop (uptoN l least l.length) l
  have k1 : ksum (upto0 l least) = ksum l := by
    have : ksum l = ksum (upto0 l least) + ksum (l.drop (uptoN l least l.length)) := by
      conv => lhs; rw [← el]
      unfold ksum upto0; rw [List.map_append, List.sum_append]
    omega
  have k2 : many (upto0 l least) = many l := by
    have : many l = many (upto0 l least) + many (l.drop (uptoN l least l.length)) := by
      conv => lhs; rw [← el]
      unfold many upto0; rw [List.filter_append, List.length_append]
    omega
  have k3 : okLens (upto0 l least) = true := by
    unfold okLens at h2 ⊢
    rw [List.all_eq_true] at h2 ⊢
    exact fun x hx => h2 x (List.mem_of_mem_take hx)
  unfold chk
  rw [if_neg (by rw [upto0_len]; have := uptoN_le l least l.length; omega), k3, if_neg (by simp), k1, if_neg (by omega), if_neg]
  rw [k2]
  unfold chk at h
  rw [if_neg (by omega), h2, if_neg (by simp), if_neg (by omega)] at h
  intro hc
  rw [if_pos hc] at h
  omega
end Go.Proofs.YtghegmbafbpnjaaGreatDoor
set_option linter.unusedVariables false
namespace Go.Proofs.YtghegmbafbpnjaaGreatDoor
set_option maxRecDepth 100000
def inc (l : List Int) (i : Nat) : List Int := l.set i (l.getD i 0 + 1)
theorem length_inc (l : List Int) (i : Nat) : (inc l i).length = l.length := by simp [inc]
theorem inc_getD (l : List Int) (i j : Nat) : (inc l i).getD j 0 = if i = j ∧ j < l.length then l.getD j 0 + 1 else l.getD j 0 := by
  unfold inc
  rw [set_getD]
  by_cases h : i = j ∧ j < l.length
  · rw [if_pos h, if_pos h, h.1]
  · rw [if_neg h, if_neg h]
section
variable {β : Type}
/-- How often each number stands among what things tell. -/
def tally (f : β → Option Nat) (a : List Int) (ts : List β) : List Int := ts.foldl (fun a t => match f t with | none => a | some i => inc a i) a
theorem tally_cons (f : β → Option Nat) (a : List Int) (t : β) (ts : List β) : tally f a (t :: ts) = tally f (match f t with | none => a | some i => inc a i) ts := rfl
theorem tally_snoc (f : β → Option Nat) (a : List Int) (ts : List β) (t : β) : tally f a (ts ++ [t]) = match f t with | none => tally f a ts | some i => inc (tally f a ts) i := by
  unfold tally; rw [List.foldl_append]; rfl
theorem length_tally (f : β → Option Nat) : ∀ (ts : List β) (a : List Int), (tally f a ts).length = a.length
  | [], _ => rfl
  | t :: ts, a => by
    rw [tally_cons, length_tally f ts]
    cases f t with
    | none => rfl
    | some i => exact length_inc a i
theorem tally_ge (f : β → Option Nat) (j : Nat) : ∀ (ts : List β) (a : List Int), a.getD j 0 ≤ (tally f a ts).getD j 0
  | [], _ => Int.le_refl _
  | t :: ts, a => by
    rw [tally_cons]
    have ih := tally_ge f j ts (match f t with | none => a | some i => inc a i)
    refine Int.le_trans ?_ ih
    cases f t with
    | none => exact Int.le_refl _
    | some i =>
      show a.getD j 0 ≤ (inc a i).getD j 0
      rw [inc_getD]; split <;> omega
theorem tally_le (f : β → Option Nat) (j : Nat) : ∀ (ts : List β) (a : List Int), (tally f a ts).getD j 0 ≤ a.getD j 0 + ts.length
  | [], a => by show a.getD j 0 ≤ a.getD j 0 + ((0 : Nat) : Int); omega
  | t :: ts, a => by
    rw [tally_cons, List.length_cons]
    have ih := tally_le f j ts (match f t with | none => a | some i => inc a i)
    have h : (match f t with | none => a | some i => inc a i).getD j 0 ≤ a.getD j 0 + 1 := by
      cases f t with
      | none => show a.getD j 0 ≤ a.getD j 0 + 1; omega
      | some i =>
        show (inc a i).getD j 0 ≤ _
        rw [inc_getD]; split <;> omega
    omega
theorem tally_pos (f : β → Option Nat) {i : Nat} {t : β} (hf : f t = some i) : ∀ (ts : List β) (a : List Int), t ∈ ts → i < a.length → 0 ≤ a.getD i 0 → 1 ≤ (tally f a ts).getD i 0
  | [], _, h, _, _ => by cases h
  | x :: ts, a, h, hi, h0 => by
    rw [tally_cons]
    have hl : (match f x with | none => a | some i => inc a i).length = a.length := by
      cases f x with
      | none => rfl
      | some i => exact length_inc a i
    have hn : 0 ≤ (match f x with | none => a | some i => inc a i).getD i 0 := by
      cases f x with
      | none => exact h0
      | some k =>
        show 0 ≤ (inc a k).getD i 0
        rw [inc_getD]; split <;> omega
    rcases List.mem_cons.1 h with rfl | h
    · have hg := tally_ge f i ts (match f t with | none => a | some i => inc a i)
      rw [hf] at hg ⊢
      have e : (inc a i).getD i 0 = a.getD i 0 + 1 := by rw [inc_getD, if_pos ⟨rfl, hi⟩]
      have hg2 : (inc a i).getD i 0 ≤ (tally f (inc a i) ts).getD i 0 := hg
      show 1 ≤ (tally f (inc a i) ts).getD i 0
      omega
    · exact tally_pos f hf ts _ h (by rw [hl]; exact hi) hn
end
theorem zeros_at (n j : Nat) : (List.replicate n (0 : Int)).getD j 0 = 0 := by
  rw [List.getD_eq_getElem?_getD]
  by_cases h : j < n
  · rw [List.getElem?_eq_getElem (by simpa using h), List.getElem_replicate]; rfl
  · rw [List.getElem?_eq_none (by simpa using Nat.le_of_not_lt h)]; rfl
/-- There are no more coins than numbers. -/
theorem csOf_few (l : List Int) : (csOf l l.length).length ≤ l.length := by
  have h := sum_coins l (fun _ => 1)
  rw [upTo_const, Nat.mul_one] at h
  rw [← h]
  have : ∀ (g : Nat → Nat) (n : Nat), (∀ i, g i ≤ 1) → ((List.range n).map g).sum ≤ n := by
    intro g n hg
    induction n with
    | zero => simp
    | succ n ih => rw [List.range_succ, List.map_append, List.sum_append]; have := hg n; simp; omega
  exact this _ _ (fun i => by split <;> omega)

def symA (t : Tk) : Nat := if t.1 = 0 then t.2.2 else lsym t.1
def cntA (ts : List Tk) : List Int := tally (fun t => some (symA t)) ((List.replicate 286 0).set 256 1) ts
def cntB (ts : List Tk) : List Int := tally (fun t => if t.1 = 0 then none else some (dsym t.2.1)) (List.replicate 30 0) ts
def lenA (ts : List Tk) : List Int := upto0 (lims 15 (cntA ts)) 257
def lenB (ts : List Tk) : List Int := upto0 (lims 15 (cntB ts)) 1
def cntS (ls : List Int) : List Int := tally (fun c : Int × Nat => some c.1.toNat) (List.replicate 19 0) (runs ls)
def lenS (ls : List Int) : List Int := lims 7 (cntS ls)
def told (small : List Int) : List Int := upto0 (ordS.map fun k => small.getD k 0) 4
theorem start_at (j : Nat) : 0 ≤ ((List.replicate 286 (0 : Int)).set 256 1).getD j 0 := by
  rw [set_getD, zeros_at]; split <;> omega
theorem length_cntA (ts : List Tk) : (cntA ts).length = 286 := by unfold cntA; rw [length_tally]; simp
theorem length_cntB (ts : List Tk) : (cntB ts).length = 30 := by unfold cntB; rw [length_tally]; simp
theorem length_cntS (ls : List Int) : (cntS ls).length = 19 := by unfold cntS; rw [length_tally]; simp
theorem lims_chk {M : Nat} {l : List Int} (h1 : 1 ≤ M) (h2 : M ≤ 15) (hl : l.length ≤ 288) (hp : l.length ≤ 2 ^ M) : chk (lims M l) = 0 := chk_lims h1 (Nat.le_trans (csOf_few l) hp) h2 hl
theorem lims_in {M : Nat} {l : List Int} (h1 : 1 ≤ M) (hp : l.length ≤ 2 ^ M) (i : Nat) : 0 ≤ (lims M l).getD i 0 ∧ (lims M l).getD i 0 ≤ (M : Int) := by
  by_cases hi : i < l.length
  · by_cases h : 0 < l.getD i 0
    · have := lims_at (M := M) h1 (Nat.le_trans (csOf_few l) hp) hi h; omega
    · rw [lims_none h]; omega
  · rw [List.getD_eq_getElem?_getD, List.getElem?_eq_none (by rw [length_lims]; omega)]
    show (0 : Int) ≤ 0 ∧ (0 : Int) ≤ M; omega
/-- What stands has a code. -/
theorem lims_has {M least : Nat} {l : List Int} (h1 : 1 ≤ M) (hp : l.length ≤ 2 ^ M) {i : Nat} (hi : i < l.length) (h : 1 ≤ l.getD i 0) : has (upto0 (lims M l) least) (i : Nat) := by
  have h3 := lims_at (M := M) h1 (Nat.le_trans (csOf_few l) hp) hi (by omega)
  have h4 := upto0_getD (lims M l) least i
  refine show 0 ≤ (i : Int) ∧ (i : Int) < (upto0 (lims M l) least).length ∧ (upto0 (lims M l) least).getD (i : Int).toNat 0 ≠ 0 from ⟨by omega, ?_, by rw [Int.toNat_natCast, h4]; omega⟩
  apply Classical.byContradiction; intro hc
  rw [List.getD_eq_getElem?_getD, List.getElem?_eq_none (by omega)] at h4
  have h5 : (0 : Int) = (lims M l).getD i 0 := h4
  omega
theorem map_getD {f : Nat → Int} {l : List Nat} {i : Nat} (h : i < l.length) : (l.map f).getD i 0 = f (l.getD i 0) := by
  rw [List.getD_eq_getElem?_getD, List.getElem?_map, List.getD_eq_getElem?_getD, List.getElem?_eq_getElem h]; rfl
theorem pow15 : (2 : Nat) ^ 15 = 32768 := by decide
theorem pow7 : (2 : Nat) ^ 7 = 128 := by decide
theorem ordS_mem : ∀ j, j < 19 → ∃ i, i < 19 ∧ ordS.getD i 0 = j := by decide
theorem runs_15 {A B : List Int} (ha : ∀ i, 0 ≤ A.getD i 0 ∧ A.getD i 0 ≤ 15) (hb : ∀ i, 0 ≤ B.getD i 0 ∧ B.getD i 0 ≤ 15) (i : Nat) : 0 ≤ (A ++ B).getD i 0 ∧ (A ++ B).getD i 0 ≤ 15 := by
  by_cases h : i < A.length
  · have e : (A ++ B).getD i 0 = A.getD i 0 := by rw [List.getD_eq_getElem?_getD, List.getElem?_append_left h, List.getD_eq_getElem?_getD]
    rw [e]; exact ha i
  · have e : (A ++ B).getD i 0 = B.getD (i - A.length) 0 := by rw [List.getD_eq_getElem?_getD, List.getElem?_append_right (by omega), List.getD_eq_getElem?_getD]
    rw [e]; exact hb _
/-- The three codes of a dynamic block are such as may be. -/
theorem dyn_ok (l : List UInt8) : DynOk (lenA (toks l)) (lenB (toks l)) (lenS (lenA (toks l) ++ lenB (toks l))) (told (lenS (lenA (toks l) ++ lenB (toks l)))).length (toks l) := by
  have hA := length_cntA (toks l)
  have hB := length_cntB (toks l)
  have hla : (lims 15 (cntA (toks l))).length = 286 := by rw [length_lims, hA]
  have hlb : (lims 15 (cntB (toks l))).length = 30 := by rw [length_lims, hB]
  have hua := upto0_len (lims 15 (cntA (toks l))) 257
  have hub := upto0_len (lims 15 (cntB (toks l))) 1
  have ga := uptoN_ge (lims 15 (cntA (toks l))) 257 (lims 15 (cntA (toks l))).length (by omega)
  have gb := uptoN_ge (lims 15 (cntB (toks l))) 1 (lims 15 (cntB (toks l))).length (by omega)
  have wa := uptoN_le (lims 15 (cntA (toks l))) 257 (lims 15 (cntA (toks l))).length
  have wb := uptoN_le (lims 15 (cntB (toks l))) 1 (lims 15 (cntB (toks l))).length
  have ra : ∀ i, 0 ≤ (lenA (toks l)).getD i 0 ∧ (lenA (toks l)).getD i 0 ≤ 15 := fun i => by
    unfold lenA; rw [upto0_getD]; exact lims_in (by omega) (by rw [hA, pow15]; omega) i
  have rb : ∀ i, 0 ≤ (lenB (toks l)).getD i 0 ∧ (lenB (toks l)).getD i 0 ≤ 15 := fun i => by
    unfold lenB; rw [upto0_getD]; exact lims_in (by omega) (by rw [hB, pow15]; omega) i
  have rab := runs_15 ra rb
  obtain ⟨ls, hls⟩ : ∃ ls, ls = lenA (toks l) ++ lenB (toks l) := ⟨_, rfl⟩
  rw [← hls] at rab ⊢
  have hS := length_cntS ls
  have hlS : (lenS ls).length = 19 := by unfold lenS; rw [length_lims, hS]
  have ho : (ordS.map fun k => (lenS ls).getD k 0).length = 19 := by rw [List.length_map]; rfl
  have hut := upto0_len (ordS.map fun k => (lenS ls).getD k 0) 4
  have gt := uptoN_ge (ordS.map fun k => (lenS ls).getD k 0) 4 (ordS.map fun k => (lenS ls).getD k 0).length (by omega)
  have wt := uptoN_le (ordS.map fun k => (lenS ls).getD k 0) 4 (ordS.map fun k => (lenS ls).getD k 0).length
  have hta : ∀ t ∈ toks l, has (lenA (toks l)) (symA t : Nat) := fun t ht => by
    have hs : symA t < 286 := by
      unfold symA
      rcases toks_shape l _ _ t ht with ⟨h1, h2⟩ | ⟨h0, h1, h2, h3, h4⟩
      · rw [if_pos h1]; omega
      · rw [if_neg h0]; have := lsym_all t.1 (by omega) h1; omega
    exact lims_has (by omega) (by rw [hA, pow15]; omega) (by rw [hA]; exact hs) (tally_pos (fun t : Tk => some (symA t)) (t := t) rfl _ _ ht (by simp; exact hs) (start_at _))
  refine ⟨?_, ?_, ?_, ?_, ?_, ?_, ?_, hlS, ?_, ?_, ?_, ?_, ?_, ?_, ?_, ?_⟩
  · unfold lenA; omega
  · unfold lenA; omega
  · unfold lenB; omega
  · unfold lenB; omega
  · exact chk_upto (lims_chk (by omega) (by omega) (by omega) (by rw [hA, pow15]; omega)) _
  · exact chk_upto (lims_chk (by omega) (by omega) (by omega) (by rw [hB, pow15]; omega)) _
  · exact lims_chk (by omega) (by omega) (by omega) (by rw [hS, pow7]; omega)
  · intro k
    have := lims_in (M := 7) (l := cntS ls) (by omega) (by rw [hS, pow7]; omega) k
    unfold lenS; omega
  · unfold told; omega
  · unfold told; omega
  · intro j hj hn
    obtain ⟨i, hi, e⟩ := ordS_mem j hj
    have h1 : (told (lenS ls)).length ≤ i := by
      apply Classical.byContradiction; intro hc
      refine hn ?_
      rw [← e, List.getD_eq_getElem?_getD, List.getElem?_eq_getElem (show i < ordS.length from hi)]
      exact List.mem_take_iff_getElem.2 ⟨i, by show i < min _ 19; omega, rfl⟩
    have h2 := upto0_getD (ordS.map fun k => (lenS ls).getD k 0) 4 i
    have h3 : (upto0 (ordS.map fun k => (lenS ls).getD k 0) 4).getD i 0 = 0 := by
      have h1' : (upto0 (ordS.map fun k => (lenS ls).getD k 0) 4).length ≤ i := h1
      rw [List.getD_eq_getElem?_getD, List.getElem?_eq_none h1']; rfl
    have h4 : (ordS.map fun k => (lenS ls).getD k 0).getD i 0 = (lenS ls).getD (ordS.getD i 0) 0 := map_getD (f := fun k => (lenS ls).getD k 0) (show i < ordS.length from hi)
    rw [← e, ← h4, ← h2, h3]
  · rw [← hls]; exact rab
  · intro c hc
    rw [← hls] at hc
    have hcr := runsG_codes rab _ _ c hc
    have hp := tally_pos (fun c : Int × Nat => some c.1.toNat) (t := c) rfl (runs ls) (List.replicate 19 0) hc (by simp; omega) (by rw [zeros_at]; exact Int.le_refl 0)
    have h3 := lims_at (M := 7) (l := cntS ls) (i := c.1.toNat) (by omega) (Nat.le_trans (csOf_few _) (by rw [hS, pow7]; omega)) (by rw [hS]; omega) (by unfold cntS; omega)
    refine show 0 ≤ c.1 ∧ c.1 < (lenS ls).length ∧ (lenS ls).getD c.1.toNat 0 ≠ 0 from ⟨hcr.1, by rw [hlS]; omega, ?_⟩
    unfold lenS; omega
  · refine lims_has (by omega) (by rw [hA, pow15]; omega) (by rw [hA]; omega) ?_
    have h := tally_ge (fun t : Tk => some (symA t)) 256 (toks l) ((List.replicate 286 (0 : Int)).set 256 1)
    rw [set_getD, if_pos ⟨rfl, by simp⟩] at h
    exact h
  · intro t ht
    have h1 := hta t ht
    unfold tkHas
    unfold symA at h1
    rcases toks_shape l _ _ t ht with ⟨h2, h3⟩ | ⟨h0, h2, h3, h4, h5⟩
    · rw [if_pos h2] at h1 ⊢; exact ⟨h3, h1⟩
    · rw [if_neg h0] at h1 ⊢
      have hd := dsym_all t.2.1 (by omega) h4
      refine ⟨h2, h3, h4, h5, h1, ?_⟩
      refine lims_has (by omega) (by rw [hB, pow15]; omega) (by rw [hB]; omega) ?_
      exact tally_pos (fun t : Tk => if t.1 = 0 then none else some (dsym t.2.1)) (t := t) (by rw [if_neg h0]) _ _ ht (by simp; omega) (by rw [zeros_at]; exact Int.le_refl 0)
/-- The bits of the dynamic block of bytes. -/
def dynL (l : List UInt8) : Nat × Nat := dynX (lenA (toks l)) (lenB (toks l)) (lenS (lenA (toks l) ++ lenB (toks l))) (told (lenS (lenA (toks l) ++ lenB (toks l)))).length (toks l)
end Go.Proofs.YtghegmbafbpnjaaGreatDoor
set_option linter.unusedVariables false
namespace Go.Proofs.YtghegmbafbpnjaaGreatDoor
set_option maxRecDepth 100000
def layY (q : Nat × Nat) (bs : List UInt8) : Nat × Nat := (bytesX q.1 q.2 ⟨bs.toArray⟩, bytesN q.2 ⟨bs.toArray⟩)
theorem layY_eq (q : Nat × Nat) (bs : List UInt8) : layY q bs = (q.1 + num bs * 2 ^ (8 * ((q.2 + 7) / 8)), 8 * ((q.2 + 7) / 8) + 8 * bs.length) := by
  unfold layY bytesX bytesN
  rfl
def headY (n : Nat) : List UInt8 := [UInt8.ofNat n, UInt8.ofNat (n / 256), UInt8.ofNat (255 - n % 256), UInt8.ofNat (255 - n / 256)]
/-- The bits of one stored block. -/
def layZ (last : Nat) (q : Nat × Nat) (l : List UInt8) : Nat × Nat := layY (layB (layB q last 1) 0 2) (headY l.length ++ l)
/-- The bits of the stored blocks of bytes. -/
def storG : Nat → Nat × Nat → List UInt8 → Nat × Nat
  | 0, q, l => layZ 1 q l
  | f + 1, q, l => if l.length ≤ 65535 then layZ 1 q l else storG f (layZ 0 q (l.take 65535)) (l.drop 65535)
def storX (l : List UInt8) : Nat × Nat := storG l.length (0, 0) l
theorem storX_one {l : List UInt8} (h : l.length ≤ 65535) : storX l = layZ 1 (0, 0) l := by
  unfold storX
  cases hl : l.length with
  | zero => rfl
  | succ n => rw [storG, if_pos h]
theorem storG_more : ∀ (f g : Nat) (q : Nat × Nat) (l : List UInt8), l.length ≤ 65535 + 65535 * f → f ≤ g → storG g q l = storG f q l
  | 0, 0, _, _, _, _ => rfl
  | 0, g + 1, q, l, h, _ => by
    show (if l.length ≤ 65535 then layZ 1 q l else _) = layZ 1 q l
    exact if_pos (by omega)
  | f + 1, g + 1, q, l, h, hg => by
    rw [storG, storG]
    by_cases hl : l.length ≤ 65535
    · rw [if_pos hl, if_pos hl]
    · rw [if_neg hl, if_neg hl]; exact storG_more f g _ _ (by rw [List.length_drop]; omega) (by omega)
theorem u8n (n : Nat) (h : n < 256) : (UInt8.ofNat n).toNat = n := by
  have h := UInt8.toNat_ofNat' (n := n)
  omega
theorem storX_size {l : List UInt8} (h : l.length ≤ 65535) : (storX l).2 = 8 * (l.length + 5) := by
  have e1 := (layB_eq (q := (0, 0)) (v := 1) (n := 1) (by omega) (by omega))
  have e2 := layB_eq (q := layB (0, 0) 1 1) (v := 0) (n := 2) (by omega) (by omega)
  rw [storX_one h]
  unfold layZ
  rw [layY_eq]
  have : (layB (layB (0, 0) 1 1) 0 2).2 = 3 := by rw [e2, e1]
  rw [this, List.length_append]
  show 8 * ((3 + 7) / 8) + 8 * (4 + l.length) = _
  omega
def textX (r : Nat × Nat) : ByteArray := textOf r.1 r.2
theorem stor_size {l : List UInt8} (h : l.length ≤ 65535) : (textX (storX l)).size = l.length + 5 := by
  unfold textX
  rw [textOf_size, storX_size h]; omega
/-- The shortest of the three; the first one of those. -/
def bestX (l : List UInt8) : ByteArray :=
  let a := textX (storX l); let b := textX (fixedX l); let c := textX (dynL l)
  let d := if b.size < a.size then b else a
  if c.size < d.size then c else d
theorem bestX_cases (l : List UInt8) : (bestX l = textX (storX l) ∨ bestX l = textX (fixedX l) ∨ bestX l = textX (dynL l)) ∧ (bestX l).size ≤ (textX (storX l)).size ∧ (bestX l).size ≤ (textX (fixedX l)).size ∧ (bestX l).size ≤ (textX (dynL l)).size := by
  unfold bestX
  dsimp only
  by_cases h1 : (textX (fixedX l)).size < (textX (storX l)).size
  · rw [if_pos h1]
    by_cases h2 : (textX (dynL l)).size < (textX (fixedX l)).size
    · rw [if_pos h2]; exact ⟨.inr (.inr rfl), by omega, by omega, by omega⟩
    · rw [if_neg h2]; exact ⟨.inr (.inl rfl), by omega, by omega, by omega⟩
  · rw [if_neg h1]
    by_cases h2 : (textX (dynL l)).size < (textX (storX l)).size
    · rw [if_pos h2]; exact ⟨.inr (.inr rfl), by omega, by omega, by omega⟩
    · rw [if_neg h2]; exact ⟨.inl rfl, by omega, by omega, by omega⟩
end Go.Proofs.YtghegmbafbpnjaaGreatDoor
set_option linter.unusedVariables false
namespace Go.Proofs.YtghegmbafbpnjaaGreatDoor
set_option maxRecDepth 100000
/-- Whether two bytes are no head. -/
def badHead (a b : Nat) : Prop := a % 16 ≠ 8 ∨ 7 < a / 16 ∨ (256 * a + b) % 31 ≠ 0 ∨ b / 32 % 2 = 1
instance badDec (a b : Nat) : Decidable (badHead a b) := by unfold badHead; infer_instance
/-- What a stream with its head and sum says. -/
def unzT (s : ByteArray) (most : Int) : List UInt8 × Int :=
  if s.size < 2 then ([], 3) else
  if badHead (s.data.toList.getD 0 0).toNat (s.data.toList.getD 1 0).toNat then ([], 16) else
  if (inflT (strL (s.data.toList.drop 2)) most).2.2 ≠ 0 then ([], (inflT (strL (s.data.toList.drop 2)) most).2.2) else
  if s.size < 2 + (inflT (strL (s.data.toList.drop 2)) most).2.1 + 4 then ([], 3) else
  if ofL ((s.data.toList.drop (2 + (inflT (strL (s.data.toList.drop 2)) most).2.1)).take 4) ≠ adSum (inflT (strL (s.data.toList.drop 2)) most).1 then ([], 17) else
  if 2 + (inflT (strL (s.data.toList.drop 2)) most).2.1 + 4 < s.size then ([], 4) else ((inflT (strL (s.data.toList.drop 2)) most).1, 0)
/-- A stream of bytes with its head, and these bytes behind it. -/
def zipL (l F : List UInt8) : ByteArray := strL (120 :: 1 :: ((bestX l).data.toList ++ F))
/-- A stream of bytes with its head and sum. -/
def wrapT (l : List UInt8) : ByteArray := zipL l (fourL (adSum l))
theorem wrapT_list (l : List UInt8) : (wrapT l).data.toList = 120 :: 1 :: ((bestX l).data.toList ++ fourL (adSum l)) := by unfold wrapT zipL; rw [strL_list]
end Go.Proofs.YtghegmbafbpnjaaGreatDoor
set_option linter.unusedVariables false
namespace Go.Proofs.YtghegmbafbpnjaaGreatDoor
set_option maxRecDepth 100000
section
variable {α β γ : Type}
theorem bind_bind (m : Rd α) (f : α → Rd β) (g : β → Rd γ) : rBind (rBind m f) g = rBind m fun a => rBind (f a) g := by
  funext s p; unfold rBind; cases m s p <;> rfl
theorem bind_pure (a : α) (f : α → Rd β) : rBind (rPure a) f = f a := rfl
theorem bind_fail (e : Int) (f : α → Rd β) : rBind (rFail e : Rd α) f = rFail e := rfl
theorem bind_when (c : Prop) [Decidable c] (e : Int) (m : Rd α) (f : α → Rd β) : rBind (rWhen c e m) f = rWhen c e (rBind m f) := by
  unfold rWhen; split <;> rfl
end
theorem bitsErr_nat (s : ByteArray) (p : Nat) {n : Nat} (h : n ≤ 24) : bitsErr s p (n : Int) = if 8 * s.size - p < n then 3 else 0 := by
  unfold bitsErr
  rw [if_neg (by omega)]
  by_cases h1 : 8 * s.size - p < n
  · rw [if_pos (by omega), if_pos h1]
  · rw [if_neg (by omega), if_neg h1]
theorem bitsAt_add (x p m n : Nat) : bitsAt x p (m + n) = bitsAt x p m + 2 ^ m * bitsAt x (p + m) n := by
  unfold bitsAt
  rw [Nat.pow_add, Nat.mod_mul, Nat.pow_add, ← Nat.div_div_eq_div_mul]
theorem rBits_small {n : Nat} (h : n ≤ 24) (s : ByteArray) (p : Nat) : rBits n s p = if 8 * s.size - p < n then .error 3 else .ok (bitsAt (num s.data.toList) p n, p + n) := by
  unfold rBits bitsVal bitsGo
  rw [bitsErr_nat s p h]
  by_cases h1 : 8 * s.size - p < n
  · simp [h1]
  · simp [h1]
/-- Bits that are read at once, and one behind the other. -/
theorem bits_split {α : Type} (m n : Nat) (h : m + n ≤ 24) (f : Nat → Nat → Rd α) : (rBind (rBits m) fun a => rBind (rBits n) fun b => f a b) = rBind (rBits (m + n)) fun v => f (v % 2 ^ m) (v / 2 ^ m) := by
  funext s p
  by_cases h1 : 8 * s.size - p < m
  · rw [bind_err (e := 3) (by rw [rBits_small (by omega), if_pos h1]), bind_err (e := 3) (by rw [rBits_small h, if_pos (by omega)])]
  · rw [bind_val (a := bitsAt (num s.data.toList) p m) (q := p + m) (by rw [rBits_small (by omega), if_neg h1])]
    by_cases h2 : 8 * s.size - (p + m) < n
    · rw [bind_err (e := 3) (by rw [rBits_small (by omega), if_pos h2]), bind_err (e := 3) (by rw [rBits_small h, if_pos (by omega)])]
    · rw [bind_val (a := bitsAt (num s.data.toList) (p + m) n) (q := p + m + n) (by rw [rBits_small (by omega), if_neg h2]),
        bind_val (a := bitsAt (num s.data.toList) p (m + n)) (q := p + (m + n)) (by rw [rBits_small h, if_neg (by omega)])]
      have hlt := bitsAt_lt (num s.data.toList) p m
      have e1 : bitsAt (num s.data.toList) p (m + n) % 2 ^ m = bitsAt (num s.data.toList) p m := by
        rw [bitsAt_add, Nat.add_mul_mod_self_left, Nat.mod_eq_of_lt hlt]
      have e2 : bitsAt (num s.data.toList) p (m + n) / 2 ^ m = bitsAt (num s.data.toList) (p + m) n := by
        rw [bitsAt_add, Nat.add_mul_div_left _ _ (Nat.two_pow_pos m), Nat.div_eq_of_lt hlt, Nat.zero_add]
      rw [e1, e2, Nat.add_assoc]

/-- A block's head: 3 bits at once. -/
theorem blk_head (most : Int) (F f : Nat) (out : List UInt8) : blkG most F (f + 1) out = rBind (rBits 3) fun h => blkK most F f (h % 2) (h / 2) out := by
  have h := bits_split 1 2 (by omega) fun last kind => blkK most F f last kind out
  exact h
/-- The head of a dynamic block: 14 bits at once. -/
theorem dyn_head (most : Int) (F : Nat) (out : List UInt8) : dynR most F out = rBind (rBits 14) fun v => rBind (smallG (ordS.take (4 + v / 1024)) (List.replicate 19 0)) (dyn3 most F out (v % 32) (v / 32 % 32)) := by
  have h1 := fun a : Nat => bits_split 5 4 (by omega) fun b c => rBind (smallG (ordS.take (c + 4)) (List.replicate 19 0)) (dyn3 most F out a b)
  have h2 := bits_split 5 9 (by omega) fun a v => rBind (smallG (ordS.take (v / 2 ^ 5 + 4)) (List.replicate 19 0)) (dyn3 most F out a (v % 2 ^ 5))
  have h3 : dynR most F out = rBind (rBits 5) fun a => rBind (rBits (5 + 4)) fun v => rBind (smallG (ordS.take (v / 2 ^ 5 + 4)) (List.replicate 19 0)) (dyn3 most F out a (v % 2 ^ 5)) := by
    show (rBind (rBits 5) fun a => _) = _
    congr 1
    funext a
    exact h1 a
  rw [h3]
  refine h2.trans ?_
  congr 1
  funext v
  rw [show v / 2 ^ 5 / 2 ^ 5 + 4 = 4 + v / 1024 from by omega]

/-- A length's symbol, its bits read. -/
def rLen (t : Nat) : Rd Nat := rWhen (285 < t) 12 (rBind (rBits (lenBits t)) fun x => rPure (lenBase t + x))
/-- A distance. -/
def rDst (d : List Int) : Rd Nat := rBind (rNext d) fun u => rWhen (29 < u) 12 (rBind (rBits (dstBits u)) fun y => rPure (dstBase u + y))
def rMatch (d : List Int) (most : Int) (t : Nat) (out : List UInt8) : Rd (List UInt8) := rBind (rLen t) fun n => rBind (rDst d) fun far =>
  rWhen (out.length < far) 15 (rWhen (most < (out.length : Int) + (n : Nat)) 5 (rPure (matchOut far n out)))
def rProd (d : List Int) (most : Int) (t : Nat) (out : List UInt8) : Rd (List UInt8) := if 256 < t then rMatch d most t out else rWhen (most < (out.length : Int) + 1) 5 (rPure (out ++ [UInt8.ofNat t]))
theorem sym_step (l d : List Int) (most : Int) (f : Nat) (out : List UInt8) : symG l d most (f + 1) out = rBind (rNext l) fun t => if t = 256 then rPure out else rBind (rProd d most t out) (symG l d most f) := by
  show (rBind (rNext l) fun t => _) = _
  congr 1
  funext t
  by_cases h1 : t = 256
  · rw [if_pos h1, if_pos h1]
  · rw [if_neg h1, if_neg h1]
    unfold rProd
    by_cases h2 : t < 256
    · rw [if_pos h2, if_neg (by omega), bind_when, bind_pure]
    · rw [if_neg h2, if_pos (by omega)]
      unfold rMatch rLen rDst
      simp only [bind_bind, bind_when, bind_pure]

/-- A symbol's value out of its group. -/
def extBits (k g : Nat) : Nat := if k < 2 * g then 0 else k / g - 1
def extVal (k g x : Nat) : Nat := if k < 2 * g then k else (g + k % g) * 2 ^ (k / g - 1) + x
def rExt (k g : Nat) : Rd Nat := rBind (rBits (extBits k g)) fun x => rPure (extVal k g x)
theorem ext_len_all : ∀ k, k < 28 → lenBits (257 + k) = extBits k 4 ∧ ∀ x, x < 32 → lenBase (257 + k) + x = if k < 8 then 3 + extVal k 4 x + x else 3 + extVal k 4 x := by decide +kernel
theorem bits_zero {s : ByteArray} {p : Nat} : rBits 0 s p = .ok (0, p) := by
  rw [rBits_small (by omega), if_neg (by omega), bitsAt_zero]; rfl
theorem ext_len {t : Nat} (h1 : 256 < t) (h2 : t < 285) : rLen t = rBind (rExt (t - 257) 4) fun n => rPure (3 + n) := by
  funext s p
  obtain ⟨e1, e2⟩ := ext_len_all (t - 257) (by omega)
  rw [show 257 + (t - 257) = t from by omega] at e1 e2
  unfold rLen rExt
  rw [when_not (by omega), bind_bind, e1]
  by_cases hk : t - 257 < 8
  · have e0 : extBits (t - 257) 4 = 0 := by unfold extBits; rw [if_pos (by omega)]
    rw [e0, bind_val bits_zero, bind_val bits_zero, bind_pure, e2 0 (by omega), if_pos hk]; rfl
  · unfold rBind
    cases h : rBits (extBits (t - 257) 4) s p with
    | error e => rfl
    | ok y =>
      obtain ⟨x, q⟩ := y
      have hb : extBits (t - 257) 4 ≤ 5 := by unfold extBits; split <;> omega
      have hx : x < 32 := by
        rw [rBits_small (by omega)] at h
        split at h
        · cases h
        · injection h with h; injection h with h _
          subst h
          exact Nat.lt_of_lt_of_le (bitsAt_lt _ _ _) (Nat.pow_le_pow_right (by decide) hb)
      show rPure _ s q = rPure _ s q
      rw [e2 x hx, if_neg hk]
theorem rLen_top : rLen 285 = rPure 258 := by
  funext s p
  unfold rLen
  rw [when_not (by omega), show lenBits 285 = 0 from by decide +kernel, bind_val bits_zero, show lenBase 285 = 258 from by decide +kernel]
theorem rLen_far {t : Nat} (h : 285 < t) : rLen t = rFail 12 := by
  funext s p
  exact when_yes h
theorem ext_dst_all : ∀ u, u < 30 → dstBits u = extBits u 2 ∧ dstBase u = if u < 4 then 1 + u else 1 + extVal u 2 0 := by decide +kernel
theorem extVal_add {k g x : Nat} (h : 2 * g ≤ k) : extVal k g x = extVal k g 0 + x := by
  unfold extVal; rw [if_neg (by omega), if_neg (by omega)]; rfl
theorem ext_dst (d : List Int) : rDst d = rBind (rNext d) fun u => rWhen (29 < u) 12 (rBind (rExt u 2) fun n => rPure (1 + n)) := by
  unfold rDst
  congr 1
  funext u
  by_cases hu : 29 < u
  · unfold rWhen; rw [if_pos hu, if_pos hu]
  · funext s p
    rw [when_not hu, when_not hu]
    obtain ⟨e1, e2⟩ := ext_dst_all u (by omega)
    unfold rExt
    rw [bind_bind, e1]
    by_cases hk : u < 4
    · have e0 : extBits u 2 = 0 := by unfold extBits; rw [if_pos (by omega)]
      rw [e0, bind_val bits_zero, bind_val bits_zero, bind_pure, e2, if_pos hk]
      show rPure _ s p = rPure _ s p
      unfold extVal; rw [if_pos (by omega)]; rfl
    · congr 1
      funext x
      show rPure _ = rPure _
      rw [e2, if_neg hk, extVal_add (x := x) (by omega)]
      congr 1
      omega

/-- The head of a stored block: 4 bytes at once. -/
def wordAt (a : ByteArray) (i : Nat) : Nat := (a.data.toList.getD i 0).toNat + 256 * (a.data.toList.getD (i + 1) 0).toNat
theorem bytesErr_nat (s : ByteArray) (p n : Nat) : bytesErr s p (n : Int) = if s.size - (p + 7) / 8 < n then 3 else 0 := by
  unfold bytesErr
  rw [if_neg (by omega)]
  by_cases h1 : s.size - (p + 7) / 8 < n
  · rw [if_pos (by omega), if_pos h1]
  · rw [if_neg (by omega), if_neg h1]
theorem rBytes_nat (n : Nat) (s : ByteArray) (p : Nat) : rBytes n s p = if s.size - (p + 7) / 8 < n then .error 3 else .ok (⟨((s.data.toList.drop ((p + 7) / 8)).take n).toArray⟩, 8 * ((p + 7) / 8 + n)) := by
  unfold rBytes bytesVal bytesGo
  rw [bytesErr_nat s p n]
  by_cases h1 : s.size - (p + 7) / 8 < n
  · simp [h1]
  · rw [if_neg h1, if_neg h1]
    simp only [if_true, ne_eq, not_true_eq_false, if_false, Int.toNat_natCast]
    rw [if_neg (show ¬ (n : Int) < 0 by omega)]
theorem stored_head (most : Int) (out : List UInt8) : storedR most out = rBind (rBytes 4) fun h => rWhen (wordAt h 2 ≠ 65535 - wordAt h 0) 14 (storedK most out (wordAt h 0)) := by
  funext s p
  by_cases h1 : s.size - (p + 7) / 8 < 2
  · have k2 : rBytes 2 s p = .error 3 := by rw [rBytes_nat, if_pos h1]
    have k4 : rBytes 4 s p = .error 3 := by rw [rBytes_nat, if_pos (by omega)]
    exact (bind_err k2).trans (bind_err k4).symm
  · have k1 : rBytes 2 s p = .ok (⟨((s.data.toList.drop ((p + 7) / 8)).take 2).toArray⟩, 8 * ((p + 7) / 8 + 2)) := by rw [rBytes_nat, if_neg h1]
    have hp : (8 * ((p + 7) / 8 + 2) + 7) / 8 = (p + 7) / 8 + 2 := by omega
    refine (bind_val k1).trans ?_
    by_cases h2 : s.size - ((p + 7) / 8 + 2) < 2
    · have k2 : rBytes 2 s (8 * ((p + 7) / 8 + 2)) = .error 3 := by rw [rBytes_nat, hp, if_pos h2]
      have k4 : rBytes 4 s p = .error 3 := by rw [rBytes_nat, if_pos (by omega)]
      exact (bind_err k2).trans (bind_err k4).symm
    · have k2 : rBytes 2 s (8 * ((p + 7) / 8 + 2)) = .ok (⟨((s.data.toList.drop ((p + 7) / 8 + 2)).take 2).toArray⟩, 8 * ((p + 7) / 8 + 2 + 2)) := by rw [rBytes_nat, hp, if_neg h2]
      have k4 : rBytes 4 s p = .ok (⟨((s.data.toList.drop ((p + 7) / 8)).take 4).toArray⟩, 8 * ((p + 7) / 8 + 4)) := by rw [rBytes_nat, if_neg (by omega)]
      refine (bind_val k2).trans (Eq.trans ?_ (bind_val k4).symm)
      have hlen : 4 ≤ (s.data.toList.drop ((p + 7) / 8)).length := by
        have hz : s.data.toList.length = s.size := Array.length_toList
        rw [List.length_drop]; omega
      rw [← List.drop_drop]
      generalize s.data.toList.drop ((p + 7) / 8) = l at *
      match l, hlen with
      | x0 :: x1 :: x2 :: x3 :: r, _ => rfl
end Go.Proofs.YtghegmbafbpnjaaGreatDoor
namespace Go.Proofs.YtghegmbafbpnjaaGreatDoor
set_option maxRecDepth 100000
open Go Go.RowKit
def Keep (F : List Nat) (w : World) (Q : World → Prop) : Prop := ∀ w', But F w w' → Q w'
theorem But.join {F F' : List Nat} {w w1 w2 : World} (h : But F w w1) (k : But F' w1 w2) (hF : ∀ i ∈ F', i ∈ F ∨ w.heap.size ≤ i) : But F w w2 :=
  ⟨k.os.trans h.os, k.tape.trans h.tape, k.output.trans h.output, Nat.le_trans h.size k.size, fun i hi hn =>
    (k.block i (Nat.lt_of_lt_of_le hi h.size) (fun e => by
      rcases hF i e with h1 | h1
      · exact hn h1
      · omega)).trans (h.block i hi hn)⟩
theorem Keep.now {F : List Nat} {w : World} {Q : World → Prop} (h : Keep F w Q) : Q w := h w (But.refl _ _)
theorem Keep.step {F F' : List Nat} {w w1 : World} {Q : World → Prop} (h : Keep F w Q) (hB : But F w w1) (hF : ∀ i ∈ F', i ∈ F ∨ w.heap.size ≤ i) : Keep F' w1 Q := fun w' hw => h w' (hB.join hw hF)
theorem NewT.keep {lo b : Nat} {w : World} {l : List Int} {F : List Nat} (h : NewT lo w b l) (hF : ∀ k ∈ F, k < lo) : Keep F w fun w' => TT w' b l := fun _ hw => (h.but hw hF).tt

/-- The blocks that a stream's steps write. -/
def Foot (b rb : Nat) (og : Option Nat) : List Nat := b :: rb :: og.toList
/-- From one world to the next: only a stream's blocks are written; its bytes lie where they lay or in new memory. -/
structure Mv (b rb : Nat) (w w' : World) (og og' : Option Nat) : Prop where
  but : But (Foot b rb og) w w'
  own : ∀ g, og' = some g → og = some g ∨ w.heap.size ≤ g
theorem Mv.foot {b rb : Nat} {w w' : World} {og og' : Option Nat} (h : Mv b rb w w' og og') : ∀ i ∈ Foot b rb og', i ∈ Foot b rb og ∨ w.heap.size ≤ i := fun i hi => by
  unfold Foot at hi ⊢
  rcases List.mem_cons.1 hi with h1 | hi
  · left; simp [h1]
  rcases List.mem_cons.1 hi with h1 | hi
  · left; simp [h1]
  rcases h.own i (by simpa using hi) with h1 | h1
  · left; simp [h1]
  · right; exact h1
theorem Mv.refl (b rb : Nat) (w : World) (og : Option Nat) : Mv b rb w w og og := ⟨But.refl _ _, fun _ h => .inl h⟩
theorem Mv.trans {b rb : Nat} {w w1 w2 : World} {og og1 og2 : Option Nat} (h : Mv b rb w w1 og og1) (k : Mv b rb w1 w2 og1 og2) : Mv b rb w w2 og og2 :=
  ⟨h.but.join k.but h.foot, fun g hg => by
    rcases k.own g hg with h1 | h1
    · exact h.own g h1
    · right; have := h.but.size; omega⟩
theorem Mv.keep {b rb : Nat} {w w1 : World} {og og1 : Option Nat} {Q : World → Prop} (h : Mv b rb w w1 og og1) (k : Keep (Foot b rb og) w Q) : Keep (Foot b rb og1) w1 Q := k.step h.but h.foot
theorem Mv.keepX {b rb : Nat} {w w1 : World} {og og1 : Option Nat} {Q : World → Prop} {X : List Nat} (h : Mv b rb w w1 og og1) (k : Keep (X ++ Foot b rb og) w Q) : Keep (X ++ Foot b rb og1) w1 Q :=
  k.step (h.but.more fun i hi => List.mem_append_right _ hi) fun i hi => by
    rcases List.mem_append.1 hi with h1 | h1
    · exact .inl (List.mem_append_left _ h1)
    · rcases h.foot i h1 with h2 | h2
      · exact .inl (List.mem_append_right _ h2)
      · exact .inr h2
/-- What writes nothing of the stream. -/
theorem Mv.of {b rb : Nat} {w w' : World} {og : Option Nat} {S : List Nat} (h : But S w w') (hS : ∀ k ∈ S, k ∈ Foot b rb og ∨ w.heap.size ≤ k) : Mv b rb w w' og og :=
  ⟨⟨h.os, h.tape, h.output, h.size, fun k hk hn => h.block k hk fun hs => by
    rcases hS k hs with h1 | h1
    · exact hn h1
    · omega⟩, fun _ h => .inl h⟩
theorem Mv.drewN {b rb : Nat} {w : World} {og : Option Nat} (n : Nat) : Mv b rb w (w.drewN n) og og := Mv.of ((But.refl [] w).drewN n) (by simp)

def ptr (o : Option Nat) : Value := .pointer (o.map fun k => ⟨k, 0, none⟩)
/-- The stream in block b, its reader in block rb over the bytes of block db: p bits are consumed, the bytes L are told, in block og. -/
structure SS (w : World) (b rb db : Nat) (og : Option Nat) (s : ByteArray) (p : Nat) (M : Int) (L : List UInt8) (fs fd : Option Nat) : Prop where
  rs : RS w rb db s p
  hd : db < b
  hr : rb < b
  hs : s.size ≤ 140737489403904
  hM : M ≤ 1099511627776
  hL : (L.length : Int) ≤ max M 0
  cells : ∃ ov, Is w b 48 #[.pointer (some ⟨rb, 0, none⟩), ov, .int .i64 M, ptr fs, ptr fd] ∧ w.ownsRow (b + 1) 5 1 ov L.length (cellsOf L) ∧ ov.ownBlock = og

section
variable {w w' : World} {b rb db : Nat} {og : Option Nat} {s : ByteArray} {p : Nat} {M : Int} {L : List UInt8} {fs fd : Option Nat}
theorem SS.at (h : SS w b rb db og s p M L fs fd) : ∃ A c, Is w b 48 #[.pointer (some ⟨rb, 0, none⟩), .slice A L.length c, .int .i64 M, ptr fs, ptr fd] ∧ w.ownsRow (b + 1) 5 1 (.slice A L.length c) L.length (cellsOf L) ∧ (Value.slice A L.length c).ownBlock = og := by
  obtain ⟨ov, h1, h2, h3⟩ := h.cells
  rcases h2.2 with ⟨rfl, e⟩ | ⟨g, cap, cur, rfl, _⟩
  · have : L = [] := by cases L with
      | nil => rfl
      | cons x l => simp at e
    subst this
    exact ⟨none, 0, h1, h2, h3⟩
  · exact ⟨_, _, h1, h2, h3⟩
theorem SS.out (h : SS w b rb db og s p M L fs fd) : ∀ g, og = some g → b < g ∧ g < w.heap.size := fun g hg => by
  obtain ⟨ov, h1, h2, h3⟩ := h.cells
  have := h2.lt g (by rw [h3]; exact hg)
  omega
theorem SS.lt (h : SS w b rb db og s p M L fs fd) : b < w.heap.size := by
  obtain ⟨ov, h1, h2, h3⟩ := h.cells
  exact h1.lt
/-- The stream when its reader alone has moved. -/
theorem SS.read {q : Nat} {S : List Nat} (h : SS w b rb db og s p M L fs fd) (hR : RS w' rb db s q) (hB : But S w w') (hS : ∀ k ∈ S, k = rb ∨ w.heap.size ≤ k) : SS w' b rb db og s q M L fs fd := by
  have hlt := h.lt
  have hout := h.out
  have hr := h.hr
  have hb : b ∉ S := fun hk => by rcases hS b hk with e | e <;> omega
  obtain ⟨ov, h1, h2, h3⟩ := h.cells
  refine ⟨hR, h.hd, h.hr, h.hs, h.hM, h.hL, ov, h1.but hB hb, ownsRow_but h2 hB fun g hg hk => ?_, h3⟩
  have := hout g (h3 ▸ hg)
  rcases hS g hk with e | e <;> omega
theorem SS.but {S : List Nat} (h : SS w b rb db og s p M L fs fd) (hB : But S w w') (hS : ∀ k ∈ S, w.heap.size ≤ k) : SS w' b rb db og s p M L fs fd := by
  have hlt := h.lt
  have h1 := h.hd
  have h2 := h.hr
  exact h.read (h.rs.but hB (fun hk => by have := hS _ hk; omega) (fun hk => by have := hS _ hk; omega)) hB fun k hk => .inr (hS k hk)
/-- The stream when only other memory is written. -/
theorem SS.away {S : List Nat} (h : SS w b rb db og s p M L fs fd) (hB : But S w w') (hS : ∀ k ∈ S, k ∉ Foot b rb og ∧ k ≠ db) : SS w' b rb db og s p M L fs fd := by
  obtain ⟨ov, h1, h2, h3⟩ := h.cells
  have f1 : b ∉ S := fun hk => (hS b hk).1 (by simp [Foot])
  have f2 : rb ∉ S := fun hk => (hS rb hk).1 (by simp [Foot])
  exact ⟨h.rs.but hB f2 (fun hk => (hS db hk).2 rfl), h.hd, h.hr, h.hs, h.hM, h.hL, ov, h1.but hB f1, ownsRow_but h2 hB fun g hg hk => (hS g hk).1 (by rw [← h3, hg]; simp [Foot]), h3⟩
theorem foot_lt (h : SS w b rb db og s p M L fs fd) : ∀ k ∈ Foot b rb og, k < w.heap.size := fun k hk => by
  have h1 := h.lt
  have h2 := h.hr
  unfold Foot at hk
  rcases List.mem_cons.1 hk with e | hk
  · omega
  rcases List.mem_cons.1 hk with e | hk
  · omega
  exact (h.out k (by simpa using hk)).2
theorem SS.drewN (h : SS w b rb db og s p M L fs fd) (n : Nat) : SS (w.drewN n) b rb db og s p M L fs fd := h.but ((But.refl [] w).drewN n) (by simp)

set_option maxHeartbeats 1000000 in
theorem SS.room (h : SS w b rb db og s p M L fs fd) (n : Nat) (hn : n ≤ 1000000) :
    Calls Tryz.prog 92 #[.pointer (some ⟨b, 0, none⟩), .int .i64 n] w fun e w' => e = .returned (.int .i64 (if M < (L.length : Int) + (n : Int) then 5 else 0)) ∧ ∃ nq, w' = w.drewN nq := by
  have hL := h.hL
  have hM := h.hM
  obtain ⟨A, c, hi, _, _⟩ := h.at
  have h1 : w.cell? ⟨b, 1, none⟩ = some (.slice A L.length c) := hi.cell 1
  have h2 : w.cell? ⟨b, 2, none⟩ = some (.int .i64 M) := hi.cell 2
  have hb : L.length ≤ 1099511627776 := by omega
  generalize L.length = k at *
  have e1 : IntKind.i64.wrap ((k : Int) + (n : Int)) = (k : Int) + (n : Int) := IntWalk.i64_in _ (by omega)
  clear h hi hL hM
  by_cases hm : M < (k : Int) + (n : Int)
  · rw [if_pos hm]
    have d : decide (M < (k : Int) + (n : Int)) = true := by simpa using hm
    clear hm
    go_enter Tryz.func92, Tryz.ntmps92
    go_wp2
    go_quiet (fail)
    go_wp2
    go_ret
    exact ⟨rfl, nq, rfl⟩
  · rw [if_neg hm]
    have d : decide (M < (k : Int) + (n : Int)) = false := by simpa using hm
    clear hm
    go_enter Tryz.func92, Tryz.ntmps92
    go_wp2
    go_quiet (fail)
    go_wp2
    go_ret
    exact ⟨rfl, nq, rfl⟩

/-- A step told a number, or an error. -/
def GotN (w : World) (b rb db : Nat) (og : Option Nat) (s : ByteArray) (M : Int) (L : List UInt8) (fs fd : Option Nat) (r : Except Int (Nat × Nat)) (e : Ending) (w' : World) : Prop :=
  ∃ (v : Nat) (er : Int) (q : Nat), e = .returned (.tuple #[.int .i64 v, .int .i64 er]) ∧ Mv b rb w w' og og ∧ (er ≠ 0 → r = .error er) ∧ (er = 0 → r = .ok (v, q) ∧ SS w' b rb db og s q M L fs fd)
theorem rb_foot : ∀ k ∈ [rb], k ∈ Foot b rb og ∨ w.heap.size ≤ k := fun k hk => .inl (by simp at hk; subst hk; simp [Foot])

/-- The reader's Bits, at a stream: what it tells, and the plain step. -/
theorem SS.bits (h : SS w b rb db og s p M L fs fd) (n : Nat) :
    Calls Tryz.prog 87 #[.pointer (some ⟨rb, 0, none⟩), .int .i64 n] w (GotN w b rb db og s M L fs fd (rBits n s p)) := by
  refine (h.rs.bits_w (by have := h.hs; omega) (n : Int)).mono ?_
  rintro e w' ⟨rfl, hR, hB⟩
  refine ⟨_, _, bitsGo s p n, rfl, Mv.of hB rb_foot, fun he => rBits_err he, fun he => ⟨rBits_val he, h.read hR hB fun k hk => .inl (by simpa using hk)⟩⟩
theorem SS.next {l : List Int} {bt : Nat} (h : SS w b rb db og s p M L fs fd) (hc : chk l = 0) (hT : Keep (Foot b rb og) w fun w' => TT w' bt l) :
    Calls Tryz.prog 62 #[.pointer (some ⟨bt, 0, none⟩), .pointer (some ⟨rb, 0, none⟩)] w (GotN w b rb db og s M L fs fd (rNext l s p)) := by
  refine (next_w (bt := bt) hc h.rs (by have := h.hs; omega) (fun w' hw => hT w' (hw.more (by simp [Foot])))).mono ?_
  rintro e w' ⟨⟨q1, q2, q3⟩, hq, rfl, hR, hB⟩
  refine ⟨_, _, q3, rfl, Mv.of hB rb_foot, fun he => rNext_err hq he, fun he => ?_⟩
  dsimp only at he
  subst he
  exact ⟨rNext_val hq, h.read hR hB fun k hk => .inl (by simpa using hk)⟩
theorem rBits_lt {n x q : Nat} (h : rBits n s p = .ok (x, q)) : x < 2 ^ n := by
  unfold rBits at h
  split at h
  · cases h
  · injection h with h; injection h with h _
    subst h
    exact bitsVal_lt s p n
end
end Go.Proofs.YtghegmbafbpnjaaGreatDoor
namespace Go.Proofs.YtghegmbafbpnjaaGreatDoor
set_option maxRecDepth 100000
open Go Go.RowKit
section
variable {w w' : World} {b rb db : Nat} {og : Option Nat} {s : ByteArray} {p : Nat} {M : Int} {L : List UInt8} {fs fd : Option Nat}
theorem SS.bitsI (h : SS w b rb db og s p M L fs fd) {i : Int} (n : Nat) (hi : i = n) :
    Calls Tryz.prog 87 #[.pointer (some ⟨rb, 0, none⟩), .int .i64 i] w (GotN w b rb db og s M L fs fd (rBits n s p)) := by
  subst hi; exact h.bits n
theorem SS.inCell (h : SS w b rb db og s p M L fs fd) : w.cell? ⟨b, 0, none⟩ = some (.pointer (some ⟨rb, 0, none⟩)) := by
  obtain ⟨ov, h1, _⟩ := h.cells
  exact h1.cell 0
theorem GotN.of {r : Except Int (Nat × Nat)} {v q : Nat} {er : Int} {e : Ending} (he : e = .returned (.tuple #[.int .i64 v, .int .i64 er])) (hM : Mv b rb w w' og og) (h1 : er ≠ 0 → r = .error er)
    (h2 : er = 0 → r = .ok (v, q) ∧ SS w' b rb db og s q M L fs fd) : GotN w b rb db og s M L fs fd r e w' := ⟨v, er, q, he, hM, h1, h2⟩

theorem ret_num {a b x : Int} (h : a = b) : Ending.returned (.tuple #[.int .i64 a, .int .i64 x]) = .returned (.tuple #[.int .i64 b, .int .i64 x]) := by rw [h]
theorem val_join {m n v : Nat} (hm : m ≤ 8) (hn : n ≤ 13) (hv : v < 2 ^ n) : wrap64 (wrap64 ((m : Int) * 2 ^ n) + (v : Int)) = ((m * 2 ^ n + v : Nat) : Int) := by
  have h1 : 2 ^ n ≤ 2 ^ 13 := Nat.pow_le_pow_right (by decide) hn
  have h2 : m * 2 ^ n ≤ 8 * 2 ^ 13 := Nat.mul_le_mul hm h1
  rw [int_pow]
  generalize m * 2 ^ n = z at *
  have e1 : wrap64 ((z : Nat) : Int) = (z : Int) := IntWalk.wrap64_in _ ⟨by omega, by omega⟩
  rw [e1]
  have e2 : wrap64 ((z : Int) + (v : Int)) = (z : Int) + (v : Int) := IntWalk.wrap64_in _ ⟨by omega, by omega⟩
  rw [e2]; omega
set_option maxHeartbeats 1000000 in
theorem ext2 (h : SS w b rb db og s p M L fs fd) (k : Nat) (hk : k < 30) :
    Calls Tryz.prog 126 #[.pointer (some ⟨b, 0, none⟩), .int .i64 k, .int .i64 2] w (GotN w b rb db og s M L fs fd (rExt k 2 s p)) := by
  have h0 := h.inCell
  by_cases hlo : k < 4
  · have d : decide ((k : Int) < 4) = true := by simp; omega
    have hr : rExt k 2 s p = .ok (k, p) := by
      unfold rExt extBits extVal
      rw [if_pos (by omega), bind_val bits_zero, if_pos (by omega)]; rfl
    have H := Lib.hid h
    have HR := Lib.hid hr
    clear h hr
    go_enter Tryz.func126, Tryz.ntmps126
    go_wp2
    go_ret2
    exact GotN.of rfl (Mv.refl _ _ _ _) (fun e => absurd rfl e) (fun _ => ⟨HR.out, H.out⟩)
  · have d : decide ((k : Int) < 4) = false := by simp; omega
    obtain ⟨n, hn⟩ : ∃ n, n = k / 2 - 1 := ⟨_, rfl⟩
    obtain ⟨m, hm⟩ : ∃ m, m = 2 + k % 2 := ⟨_, rfl⟩
    have hn14 : n ≤ 13 := by omega
    have hr : rExt k 2 s p = rBind (rBits n) (fun x => rPure (m * 2 ^ n + x)) s p := by
      unfold rExt extBits extVal
      rw [if_neg (by omega), ← hn, ← hm]
      simp only [if_neg (show ¬ k < 2 * 2 by omega)]
    have hb := h.bitsI (i := (k : Int) / 2 - 1) n (by omega)
    have H := Lib.hid h
    have HR := Lib.hid hr
    have HB := Lib.hid hb
    clear h hr hb
    go_enter Tryz.func126, Tryz.ntmps126
    go_wp2_with fail
    refine HB.out.mono ?_
    rintro e w1 ⟨v, er, q, rfl, hMv, he1, he2⟩
    have HM := Lib.hid hMv
    have HE1 := Lib.hid he1
    have HE2 := Lib.hid he2
    clear hMv he1 he2
    by_cases her : er = 0
    · obtain ⟨hr, hS⟩ := HE2.out her
      have hv := rBits_lt hr
      have HRR := Lib.hid hr
      have HS := Lib.hid hS
      have HV := Lib.hid hv
      clear hr hS hv HE1 HE2
      subst her
      go_wp2
      go_ret2
      exact GotN.of (v := m * 2 ^ n + v) (ret_num (by rw [← val_join (by omega) hn14 HV.out, hm, hn]; rfl)) HM.out (fun e => absurd rfl e) (fun _ => ⟨by rw [HR.out, bind_val HRR.out]; rfl, HS.out⟩)
    · have d2 : (er != 0) = true := by simpa using her
      have HER := Lib.hid her
      clear her
      go_wp2
      go_ret2
      exact GotN.of (q := 0) rfl HM.out (fun _ => by rw [HR.out, bind_err (HE1.out HER.out)]) (fun e => absurd e HER.out)
set_option maxHeartbeats 1000000 in
theorem ext4 (h : SS w b rb db og s p M L fs fd) (k : Nat) (hk : k < 30) :
    Calls Tryz.prog 126 #[.pointer (some ⟨b, 0, none⟩), .int .i64 k, .int .i64 4] w (GotN w b rb db og s M L fs fd (rExt k 4 s p)) := by
  have h0 := h.inCell
  by_cases hlo : k < 8
  · have d : decide ((k : Int) < 8) = true := by simp; omega
    have hr : rExt k 4 s p = .ok (k, p) := by
      unfold rExt extBits extVal
      rw [if_pos (by omega), bind_val bits_zero, if_pos (by omega)]; rfl
    have H := Lib.hid h
    have HR := Lib.hid hr
    clear h hr
    go_enter Tryz.func126, Tryz.ntmps126
    go_wp2
    go_ret2
    exact GotN.of rfl (Mv.refl _ _ _ _) (fun e => absurd rfl e) (fun _ => ⟨HR.out, H.out⟩)
  · have d : decide ((k : Int) < 8) = false := by simp; omega
    obtain ⟨n, hn⟩ : ∃ n, n = k / 4 - 1 := ⟨_, rfl⟩
    obtain ⟨m, hm⟩ : ∃ m, m = 4 + k % 4 := ⟨_, rfl⟩
    have hn14 : n ≤ 13 := by omega
    have hr : rExt k 4 s p = rBind (rBits n) (fun x => rPure (m * 2 ^ n + x)) s p := by
      unfold rExt extBits extVal
      rw [if_neg (by omega), ← hn, ← hm]
      simp only [if_neg (show ¬ k < 2 * 4 by omega)]
    have hb := h.bitsI (i := (k : Int) / 4 - 1) n (by omega)
    have H := Lib.hid h
    have HR := Lib.hid hr
    have HB := Lib.hid hb
    clear h hr hb
    go_enter Tryz.func126, Tryz.ntmps126
    go_wp2_with fail
    refine HB.out.mono ?_
    rintro e w1 ⟨v, er, q, rfl, hMv, he1, he2⟩
    have HM := Lib.hid hMv
    have HE1 := Lib.hid he1
    have HE2 := Lib.hid he2
    clear hMv he1 he2
    by_cases her : er = 0
    · obtain ⟨hr, hS⟩ := HE2.out her
      have hv := rBits_lt hr
      have HRR := Lib.hid hr
      have HS := Lib.hid hS
      have HV := Lib.hid hv
      clear hr hS hv HE1 HE2
      subst her
      go_wp2
      go_ret2
      exact GotN.of (v := m * 2 ^ n + v) (ret_num (by rw [← val_join (by omega) hn14 HV.out, hm, hn]; rfl)) HM.out (fun e => absurd rfl e) (fun _ => ⟨by rw [HR.out, bind_val HRR.out]; rfl, HS.out⟩)
    · have d2 : (er != 0) = true := by simpa using her
      have HER := Lib.hid her
      clear her
      go_wp2
      go_ret2
      exact GotN.of (q := 0) rfl HM.out (fun _ => by rw [HR.out, bind_err (HE1.out HER.out)]) (fun e => absurd e HER.out)
end
end Go.Proofs.YtghegmbafbpnjaaGreatDoor
