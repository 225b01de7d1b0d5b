/- Several texts in one: DefN, DefO, DefP, DefQ, DefR, Rep, MkT (what Back reach of them). -/
import Derived.Test.YtjeeiodpdfbgmaaDoorPm01
import Derived.Test.YtjeeiodpdfbgmaaDoorPm02
import Derived.Test.YtjeeiodpdfbgmaaDoorPm03
import Derived.Test.YtjeeiodpdfbgmaaDoorPm04
import Derived.Test.YtjeeiodpdfbgmaaDoorPm05
import Derived.Test.YtjeeiodpdfbgmaaDoorPm06
import Derived.Test.YtjeeiodpdfbgmaaDoorPm08
import Derived.Test.YtjeeiodpdfbgmaaDoorPm09
import Derived.Test.YtjeeiodpdfbgmaaDoorPm10
import Derived.Test.YtjeeiodpdfbgmaaDoorPm24
import Derived.Test.YtjeeiodpdfbgmaaDoorPm25
import Derived.Test.YtjeeiodpdfbgmaaDoorPm31
import Derived.Test.YtjeeiodpdfbgmaaDoorPm32
import Derived.Below
import Derived.BigQuiet
import Derived.BigRegion
import Derived.Deep.AppendLies
import Derived.Deep.CutRange
import Derived.Deep.DeepCutAuto
import Derived.Deep.Draws
import Derived.Deep.LoopGhost
import Derived.Deep.QuietTactic
import Derived.Deep.RegionLaw
import Derived.Deep.RegionWith
import Derived.Deep.Slices
import Derived.Laws.BitsAllLaws
import Derived.Laws.BitsLemmas
import Derived.Laws.CopyOwn
import Derived.Laws.IdiomStrings
import Derived.Laws.OwnMore
import Derived.Laws.Rows
import Derived.Lib.AppendStr
import Derived.Lib.Hide
import Derived.Lib.Strings
import Derived.LoopIn
import Derived.LoopNIn
import Derived.OneCell
import Derived.OpenShut
import Derived.Outline
import Derived.OwnWalk
import Derived.OwnWalkIn
import Derived.ProofKit
import Derived.RangeFuncBound
import Derived.RangeFuncCalls
import Derived.RangeFuncLeaves
import Derived.RangeFuncNested
import Derived.RegionTactic
import Derived.Shelf.Abstract
import Derived.Shelf.RegionOpen
import Derived.Shelf.SlSortCmp.QuietGrown
import Derived.StillTailTactics
import Derived.TacticsInMore
import Derived.Test.YtjeeiodpdfbgmaaDoorChecked
import Derived.WalkKit
import Derived.WalkLawsBesides
import Derived.WalkSpells
set_option maxRecDepth 100000
set_option linter.unusedVariables false
set_option linter.unusedVariables false
namespace Go.Proofs.YtjeeiodpdfbgmaaDoor
set_option maxRecDepth 100000
theorem eqRun_same (l : List Int) (i : Nat) : ∀ f n k, n ≤ k → k < eqRun l i f n → l.getD (i + k) 0 = l.getD i 0
  | 0, _, _, h1, h2 => by simp only [eqRun] at h2; omega
  | f + 1, n, k, h1, h2 => by
    rw [eqRun] at h2
    split at h2
    · rename_i hc
      by_cases e : k = n
      · subst e; exact hc.2
      · exact eqRun_same l i f (n + 1) k (by omega) h2
    · omega
theorem runN_same {l : List Int} {i k : Nat} (h : k < runN l i) : l.getD (i + k) 0 = l.getD i 0 := by
  by_cases e : k = 0
  · subst e; rfl
  · exact eqRun_same l i l.length 1 k (by omega) h
theorem take_same {l : List Int} {i n : Nat} {v : Int} (hi : i + n ≤ l.length) (h : ∀ k, k < n → l.getD (i + k) 0 = v) : l.take i ++ List.replicate n v = l.take (i + n) := by
  induction n with
  | zero => simp
  | succ n ih =>
    have e := ih (by omega) (fun k hk => h k (by omega))
    rw [List.replicate_succ', ← List.append_assoc, e, ← Nat.add_assoc, List.take_succ_eq_append_getElem (by omega)]
    congr 2
    have := h n (by omega)
    rw [List.getD_eq_getElem?_getD, List.getElem?_eq_getElem (by omega)] at this
    exact this.symm
def runOk (c : Int × Nat) : Prop := (c.1 = 16 → c.2 < 4) ∧ (c.1 = 17 → c.2 < 8) ∧ (c.1 = 18 → c.2 < 128)
theorem layR_ext {small : List Int} (hc : chk small = 0) {q : Nat × Nat} (hq : q.1 < 2 ^ q.2) {c : Int × Nat} (h : runOk c) : Ext q (layR small q c) := by
  unfold layR
  by_cases h1 : c.1 = 16
  · rw [if_pos h1]
    have e1 := layC_ext hc hq 16
    exact e1.trans (layB_ext (by omega) (by have := h.1 h1; omega) e1.2.2)
  · rw [if_neg h1]
    by_cases h2 : c.1 = 17
    · rw [if_pos h2]
      have e1 := layC_ext hc hq 17
      exact e1.trans (layB_ext (by omega) (by have := h.2.1 h2; omega) e1.2.2)
    · rw [if_neg h2]
      by_cases h3 : c.1 = 18
      · rw [if_pos h3]
        have e1 := layC_ext hc hq 18
        exact e1.trans (layB_ext (by omega) (by have := h.2.2 h3; omega) e1.2.2)
      · rw [if_neg h3]; exact layC_ext hc hq _
theorem layRs_ext {small : List Int} (hc : chk small = 0) : ∀ (cs : List (Int × Nat)) (q : Nat × Nat), q.1 < 2 ^ q.2 → (∀ c ∈ cs, runOk c) → Ext q (layRs small q cs)
  | [], q, hq, _ => Ext.refl hq
  | c :: cs, q, hq, h => by
    have e := layR_ext hc hq (h c (by simp))
    exact e.trans (layRs_ext hc cs _ e.2.2 (fun t ht => h t (by simp [ht])))
theorem runAt_ok {l : List Int} (h15 : ∀ i, 0 ≤ l.getD i 0 ∧ l.getD i 0 ≤ 15) (i : Nat) : runOk ((runAt l i).1, (runAt l i).2.1) := by
  have hv := h15 i
  unfold runAt runOk
  by_cases h1 : l.getD i 0 = 0 ∧ 11 ≤ runN l i
  · rw [if_pos h1]; dsimp only; omega
  · rw [if_neg h1]
    by_cases h2 : l.getD i 0 = 0 ∧ 3 ≤ runN l i
    · rw [if_pos h2]; dsimp only; omega
    · rw [if_neg h2]
      by_cases h3 : l.getD i 0 ≠ 0 ∧ 0 < i ∧ l.getD (i - 1) 0 = l.getD i 0 ∧ 3 ≤ runN l i
      · rw [if_pos h3]; dsimp only; omega
      · rw [if_neg h3]; dsimp only; omega
theorem runsG_ok {l : List Int} (h15 : ∀ i, 0 ≤ l.getD i 0 ∧ l.getD i 0 ≤ 15) : ∀ f i, ∀ c ∈ runsG l f i, runOk c
  | 0, _, c, h => by simp [runsG] at h
  | f + 1, i, c, h => by
    rw [runsG] at h
    by_cases hi : i < l.length
    · rw [if_pos hi] at h
      rcases List.mem_cons.1 h with rfl | h
      · exact runAt_ok h15 i
      · exact runsG_ok h15 f _ c h
    · rw [if_neg hi] at h; cases h
/-- Runs that were laid are read as the lengths. -/
theorem runs_read {l small : List Int} (hc : chk small = 0) (h15 : ∀ i, 0 ≤ l.getD i 0 ∧ l.getD i 0 ≤ 15) {s : ByteArray} {r : Nat × Nat} (hs : Says s r) : ∀ (g f i : Nat) (q : Nat × Nat), l.length ≤ i + g → (runsG l g i).length < f → i ≤ l.length → q.1 < 2 ^ q.2 →
    (∀ c ∈ runsG l g i, has small c.1) → Ext (layRs small q (runsG l g i)) r → lenG small l.length f (l.take i) s q.2 = .ok (l, (layRs small q (runsG l g i)).2)
  | 0, f + 1, i, q, hg, _, hi, _, _, _ => by
    have : i = l.length := by omega
    subst this
    rw [List.take_length, len_done (Nat.le_refl _)]; rfl
  | g + 1, f + 1, i, q, hg, hf, hi, hq, hh, hr => by
    by_cases hlt : i < l.length
    · have hacc : (l.take i).length = i := by simp; omega
      have hrun : runsG l (g + 1) i = ((runAt l i).1, (runAt l i).2.1) :: runsG l g (i + (runAt l i).2.2) := by rw [runsG, if_pos hlt]
      rw [hrun] at hh hr hf ⊢
      rw [List.length_cons] at hf
      have hpos := runAt_pos l i
      have hok := runAt_ok h15 i
      have h0 := hh _ (List.mem_cons_self)
      have hh' : ∀ c ∈ runsG l g (i + (runAt l i).2.2), has small c.1 := fun c hc => hh c (List.mem_cons_of_mem _ hc)
      have e0 := layR_ext hc hq hok
      have ers := layRs_ext hc (runsG l g (i + (runAt l i).2.2)) _ e0.2.2 (runsG_ok h15 _ _)
      have hr' : Ext (layRs small (layR small q ((runAt l i).1, (runAt l i).2.1)) (runsG l g (i + (runAt l i).2.2))) r := hr
      have htr := ers.trans hr'
      have hgoal : layRs small q (((runAt l i).1, (runAt l i).2.1) :: runsG l g (i + (runAt l i).2.2)) = layRs small (layR small q ((runAt l i).1, (runAt l i).2.1)) (runsG l g (i + (runAt l i).2.2)) := rfl
      rw [hgoal]
      have hin := eqRun_in l i l.length 1 (by omega)
      have hrn : i + runN l i ≤ l.length := hin
      have hv := h15 i
      have ih := fun hle => runs_read hc h15 hs g f (i + (runAt l i).2.2) (layR small q ((runAt l i).1, (runAt l i).2.1)) (by omega) (by omega) hle e0.2.2 hh' hr'
      have hopen : (l.take i).length < l.length := by omega
      by_cases h1 : l.getD i 0 = 0 ∧ 11 ≤ runN l i
      · have er : runAt l i = (18, min (runN l i) 138 - 11, min (runN l i) 138) := by unfold runAt; rw [if_pos h1]
        rw [er] at ih h0 e0 htr ⊢
        dsimp only at ih h0 e0 htr ⊢
        have el : layR small q (18, min (runN l i) 138 - 11) = layB (layC small q 18) (min (runN l i) 138 - 11) 7 := rfl
        rw [el] at htr ih ⊢
        have e1 := layC_ext hc hq 18
        have e2 := layB_ext (q := layC small q 18) (v := min (runN l i) 138 - 11) (n := 7) (by omega) (by omega) e1.2.2
        have n1 := code_back hc hs (t := 18) h0 hq (e2.trans htr)
        obtain ⟨x1, x2, x3⟩ := bits_back hs (n := 7) (by omega) (by omega) e1.2.2 htr
        rw [len_many hopen n1 (by omega), rep_goes x1 (by rw [x2, hacc]; omega), x2, x3]
        have e3 : 11 + (min (runN l i) 138 - 11) = min (runN l i) 138 := by omega
        rw [e3, take_same (by omega) (fun k hk => by rw [runN_same (by omega)]; exact h1.1)]
        exact ih (by omega)
      · by_cases h2 : l.getD i 0 = 0 ∧ 3 ≤ runN l i
        · have er : runAt l i = (17, runN l i - 3, runN l i) := by unfold runAt; rw [if_neg h1, if_pos h2]
          rw [er] at ih h0 e0 htr ⊢
          dsimp only at ih h0 e0 htr ⊢
          have el : layR small q (17, runN l i - 3) = layB (layC small q 17) (runN l i - 3) 3 := rfl
          rw [el] at htr ih ⊢
          have e1 := layC_ext hc hq 17
          have e2 := layB_ext (q := layC small q 17) (v := runN l i - 3) (n := 3) (by omega) (by omega) e1.2.2
          have n1 := code_back hc hs (t := 17) h0 hq (e2.trans htr)
          obtain ⟨x1, x2, x3⟩ := bits_back hs (n := 3) (by omega) (by omega) e1.2.2 htr
          rw [len_zeros hopen n1, rep_goes x1 (by rw [x2, hacc]; omega), x2, x3]
          have e3 : 3 + (runN l i - 3) = runN l i := by omega
          rw [e3, take_same (by omega) (fun k hk => by rw [runN_same hk]; exact h2.1)]
          exact ih (by omega)
        · by_cases h3 : l.getD i 0 ≠ 0 ∧ 0 < i ∧ l.getD (i - 1) 0 = l.getD i 0 ∧ 3 ≤ runN l i
          · have er : runAt l i = (16, min (runN l i) 6 - 3, min (runN l i) 6) := by unfold runAt; rw [if_neg h1, if_neg h2, if_pos h3]
            rw [er] at ih h0 e0 htr ⊢
            dsimp only at ih h0 e0 htr ⊢
            have el : layR small q (16, min (runN l i) 6 - 3) = layB (layC small q 16) (min (runN l i) 6 - 3) 2 := rfl
            rw [el] at htr ih ⊢
            have e1 := layC_ext hc hq 16
            have e2 := layB_ext (q := layC small q 16) (v := min (runN l i) 6 - 3) (n := 2) (by omega) (by omega) e1.2.2
            have n1 := code_back hc hs (t := 16) h0 hq (e2.trans htr)
            obtain ⟨x1, x2, x3⟩ := bits_back hs (n := 2) (by omega) (by omega) e1.2.2 htr
            rw [len_again hopen n1 (by omega), rep_goes x1 (by rw [x2, hacc]; omega), x2, x3]
            have e3 : 3 + (min (runN l i) 6 - 3) = min (runN l i) 6 := by omega
            have e4 : (l.take i).getD ((l.take i).length - 1) 0 = l.getD i 0 := by
              rw [hacc, ← h3.2.2.1, List.getD_eq_getElem?_getD, List.getD_eq_getElem?_getD, List.getElem?_take_of_lt (by omega)]
            rw [e3, e4, take_same (by omega) (fun k hk => runN_same (by omega))]
            exact ih (by omega)
          · have er : runAt l i = (l.getD i 0, 0, 1) := by unfold runAt; rw [if_neg h1, if_neg h2, if_neg h3]
            rw [er] at ih h0 e0 htr ⊢
            dsimp only at ih h0 e0 htr ⊢
            have el : layR small q (l.getD i 0, 0) = layC small q (l.getD i 0).toNat := by
              unfold layR; rw [if_neg (by dsimp only; omega), if_neg (by dsimp only; omega), if_neg (by dsimp only; omega)]
            rw [el] at htr ih ⊢
            have e5 : (((l.getD i 0).toNat : Nat) : Int) = l.getD i 0 := by omega
            have n1 := code_back hc hs (t := (l.getD i 0).toNat) (by rw [e5]; exact h0) hq htr
            rw [len_one hopen n1 (by omega), e5]
            have e6 : l.take i ++ [l.getD i 0] = l.take (i + 1) := by
              have := take_same (l := l) (i := i) (n := 1) (v := l.getD i 0) (by omega) (fun k hk => by rw [show k = 0 from by omega]; rfl)
              simpa using this
            rw [e6]
            exact ih (by omega)
    · have : i = l.length := by omega
      subst this
      have e : runsG l (g + 1) l.length = [] := by rw [runsG, if_neg (by omega)]
      rw [e, List.take_length, len_done (Nat.le_refl _)]; rfl
end Go.Proofs.YtjeeiodpdfbgmaaDoor
set_option linter.unusedVariables false
namespace Go.Proofs.YtjeeiodpdfbgmaaDoor
set_option maxRecDepth 100000
def putS (small : List Int) (acc : List Int) (ks : List Nat) : List Int := ks.foldl (fun a k => a.set k (small.getD k 0)) acc
theorem layS3_ext {small : List Int} (h7 : ∀ k, 0 ≤ small.getD k 0 ∧ small.getD k 0 ≤ 7) : ∀ (ks : List Nat) (q : Nat × Nat), q.1 < 2 ^ q.2 → Ext q (layS3 small q ks)
  | [], q, hq => Ext.refl hq
  | k :: ks, q, hq => by
    have h := h7 k
    have e := layB_ext (q := q) (v := (small.getD k 0).toNat) (n := 3) (by omega) (by omega) hq
    exact e.trans (layS3_ext h7 ks _ e.2.2)
theorem small_read {small : List Int} (h7 : ∀ k, 0 ≤ small.getD k 0 ∧ small.getD k 0 ≤ 7) {s : ByteArray} {r : Nat × Nat} (hs : Says s r) : ∀ (ks : List Nat) (acc : List Int) (q : Nat × Nat), q.1 < 2 ^ q.2 → Ext (layS3 small q ks) r →
    smallG ks acc s q.2 = .ok (putS small acc ks, (layS3 small q ks).2)
  | [], acc, q, _, _ => rfl
  | k :: ks, acc, q, hq, hr => by
    have h := h7 k
    have e := layB_ext (q := q) (v := (small.getD k 0).toNat) (n := 3) (by omega) (by omega) hq
    have e2 := layS3_ext h7 ks _ e.2.2
    have hr' : Ext (layS3 small (layB q (small.getD k 0).toNat 3) ks) r := hr
    obtain ⟨x1, x2, x3⟩ := bits_back hs (n := 3) (by omega) (by omega) hq (e2.trans hr')
    rw [small_goes x1, x2, x3, show (((small.getD k 0).toNat : Nat) : Int) = small.getD k 0 from by omega]
    exact small_read h7 hs ks _ _ e.2.2 hr'
theorem length_putS (small : List Int) : ∀ (ks : List Nat) (acc : List Int), (putS small acc ks).length = acc.length
  | [], _ => rfl
  | k :: ks, acc => by
    show (putS small (acc.set k (small.getD k 0)) ks).length = _
    rw [length_putS small ks, List.length_set]
theorem putS_at (small : List Int) (j : Nat) : ∀ (ks : List Nat) (acc : List Int), j < acc.length → (putS small acc ks).getD j 0 = if j ∈ ks then small.getD j 0 else acc.getD j 0
  | [], acc, h => by simp [putS]
  | k :: ks, acc, h => by
    show (putS small (acc.set k (small.getD k 0)) ks).getD j 0 = _
    rw [putS_at small j ks _ (by simpa using h), set_getD]
    by_cases h1 : j ∈ ks
    · rw [if_pos h1, if_pos (by simp [h1])]
    · rw [if_neg h1]
      by_cases h2 : k = j
      · subst h2; rw [if_pos ⟨rfl, h⟩, if_pos (by simp)]
      · rw [if_neg (by omega), if_neg (by simp [h1]; omega)]
theorem putS_whole {small : List Int} (hl : small.length = 19) {ks : List Nat} (h0 : ∀ j, j < 19 → j ∉ ks → small.getD j 0 = 0) : putS small (List.replicate 19 0) ks = small := by
  apply List.ext_getElem
  · rw [length_putS, List.length_replicate, hl]
  · intro j h1 h2
    have hj : j < 19 := by omega
    have e := putS_at small j ks (List.replicate 19 0) (by simpa using hj)
    have z : (List.replicate 19 (0 : Int)).getD j 0 = 0 := by
      rw [List.getD_eq_getElem?_getD, List.getElem?_eq_getElem (by rw [List.length_replicate]; exact hj), List.getElem_replicate]; rfl
    rw [z, List.getD_eq_getElem?_getD, List.getElem?_eq_getElem h1] at e
    have e2 : small.getD j 0 = small[j] := by rw [List.getD_eq_getElem?_getD, List.getElem?_eq_getElem h2]; rfl
    have e3 : (putS small (List.replicate 19 0) ks)[j] = if j ∈ ks then small.getD j 0 else 0 := e
    rw [e3]
    by_cases hk : j ∈ ks
    · rw [if_pos hk, e2]
    · rw [if_neg hk, ← e2, h0 j hj hk]

theorem dyn_read {A B small : List Int} {n : Nat} {ts : List Tk} (h : DynOk A B small n ts) {s : ByteArray} {r : Nat × Nat} (hs : Says s r) {most : Int} {F : Nat} {q : Nat × Nat} (hF1 : (runs (A ++ B)).length < F) (hF2 : ts.length < F) (hq : q.1 < 2 ^ q.2)
    (hfar : farOk [] ts) (hm : ((sayTs [] ts).length : Int) ≤ most) (hr : Ext (layD A B small n ts q) r) : dynR most F [] s q.2 = .ok (sayTs [] ts, (layD A B small n ts q).2) := by
  have ha1 := h.a1
  have ha2 := h.a2
  have hb1 := h.b1
  have hb2 := h.b2
  have hn1 := h.n1
  have hn2 := h.n2
  have e1 := layB_ext (q := q) (v := A.length - 257) (n := 5) (by omega) (by omega) hq
  have e2 := layB_ext (v := B.length - 1) (n := 5) (by omega) (by omega) e1.2.2
  have e3 := layB_ext (v := n - 4) (n := 4) (by omega) (by omega) e2.2.2
  have e4 := layS3_ext h.s7 (ordS.take n) _ e3.2.2
  have e5 := layRs_ext h.cs (runs (A ++ B)) _ e4.2.2 (runsG_ok h.ab _ _)
  have e6 := layTs_ext h.ca h.cb ts _ e5.2.2 h.tk
  have e7 := layC_ext h.ca e6.2.2 256
  have hr7 : Ext _ r := hr
  have hr6 := e7.trans hr7
  have hr5 := e6.trans hr6
  have hr4 := e5.trans hr5
  have hr3 := e4.trans hr4
  have hr2 := e3.trans hr3
  have hr1 := e2.trans hr2
  obtain ⟨x1, x2, x3⟩ := bits_back hs (n := 5) (by omega) (by omega) hq hr1
  obtain ⟨y1, y2, y3⟩ := bits_back hs (n := 5) (by omega) (by omega) e1.2.2 hr2
  obtain ⟨z1, z2, z3⟩ := bits_back hs (n := 4) (by omega) (by omega) e2.2.2 hr3
  have hsm := small_read h.s7 hs (ordS.take n) (List.replicate 19 0) _ e3.2.2 hr4
  rw [putS_whole h.sl h.s0] at hsm
  have hrd := runs_read h.cs h.ab hs (A ++ B).length F 0 _ (by omega) hF1 (Nat.zero_le _) e4.2.2 h.rs hr5
  have hab : (A ++ B).length = A.length - 257 + 257 + (B.length - 1 + 1) := by rw [List.length_append]; omega
  have hrd' : lenG small (A.length - 257 + 257 + (B.length - 1 + 1)) F [] s (layS3 small (layB (layB (layB q (A.length - 257) 5) (B.length - 1) 5) (n - 4) 4) (ordS.take n)).2 = .ok (A ++ B, (layRs small (layS3 small (layB (layB (layB q (A.length - 257) 5) (B.length - 1) 5) (n - 4) 4) (ordS.take n)) (runs (A ++ B))).2) := by
    rw [← hab]; exact hrd
  have hn4 : n - 4 + 4 = n := by omega
  rw [dyn_goes1 x1, x2, x3, dyn_goes2 y1, y2, y3, dyn_goes3 z1, z2, z3, hn4, bind_val hsm, dyn3_goes h.cs hrd']
  have ht : (A ++ B).take (A.length - 257 + 257) = A := by rw [show A.length - 257 + 257 = A.length from by omega, List.take_left]
  have hd : (A ++ B).drop (A.length - 257 + 257) = B := by rw [show A.length - 257 + 257 = A.length from by omega, List.drop_left]
  rw [ht, hd, tables_goes h.ca h.cb]
  exact toks_read h.ca h.cb h.he hs ts F [] _ hF2 e5.2.2 h.tk hfar hm hr7

theorem match_copy (far : Nat) : ∀ n out, matchOut far n out = lzCopy far n out
  | 0, _ => rfl
  | n + 1, out => by rw [matchOut, lzCopy, match_copy far n]
theorem toks_say (l : List UInt8) : ∀ f i, l.length ≤ i + f → i ≤ l.length → sayTs (l.take i) (toksG l f i) = l ∧ farOk (l.take i) (toksG l f i)
  | 0, i, h, hi => by
    have : i = l.length := by omega
    subst this; simp [toksG, sayTs, farOk]
  | f + 1, i, h, hi => by
    rw [toksG]
    by_cases hlt : i < l.length
    · rw [if_pos hlt]
      have hl : (l.take i).length = i := by simp; omega
      by_cases hb : 3 ≤ (bestAt l i).1
      · obtain ⟨b1, b2, b3, b4, b5, b6⟩ := best_match hlt hb
        rw [if_pos hb]
        have e : sayT (l.take i) ((bestAt l i).1, (bestAt l i).2, 0) = l.take (i + (bestAt l i).1) := by
          unfold sayT
          rw [if_neg (show ¬ (bestAt l i).1 = 0 by omega), match_copy]
          exact copy_take l _ b1 _ _ b3 b5 b6
        have ih := toks_say l f (i + (bestAt l i).1) (by omega) b5
        refine ⟨?_, ?_⟩
        · show sayTs (sayT (l.take i) _) _ = l
          rw [e]; exact ih.1
        · refine ⟨fun _ => by rw [hl]; exact b3, ?_⟩
          rw [e]; exact ih.2
      · rw [if_neg hb]
        have e : sayT (l.take i) (0, 0, (l.getD i 0).toNat) = l.take (i + 1) := by
          unfold sayT
          rw [if_pos rfl]
          show l.take i ++ [UInt8.ofNat (l.getD i 0).toNat] = _
          rw [UInt8.ofNat_toNat]; exact take_more hlt
        have ih := toks_say l f (i + 1) (by omega) (by omega)
        refine ⟨?_, ?_⟩
        · show sayTs (sayT (l.take i) _) _ = l
          rw [e]; exact ih.1
        · refine ⟨fun h => absurd rfl h, ?_⟩
          rw [e]; exact ih.2
    · have : i = l.length := by omega
      rw [if_neg hlt, this]; simp [sayTs, farOk]
theorem zero_ok : ((0, 0) : Nat × Nat).1 < 2 ^ ((0, 0) : Nat × Nat).2 := by decide
theorem fixedX_ext (l : List UInt8) : Ext (layB (layB (0, 0) 1 1) 1 2) (fixedX l) := by
  have e1 := layB_ext (q := (0, 0)) (v := 1) (n := 1) (by omega) (by omega) zero_ok
  have e2 := layB_ext (q := layB (0, 0) 1 1) (v := 1) (n := 2) (by omega) (by omega) e1.2.2
  have e3 := layTs_ext chk_fixL chk_fixD (toks l) _ e2.2.2 (toks_fixed l)
  exact e3.trans (layC_ext chk_fixL e3.2.2 256)
theorem toks_nil_say (l : List UInt8) : sayTs [] (toks l) = l ∧ farOk [] (toks l) := by
  have := toks_say l l.length 0 (by omega) (Nat.zero_le _)
  simpa [toks] using this
/-- What is read of the beginning of a stream of one block. -/
theorem one_block {s : ByteArray} {r : Nat × Nat} {k : Nat} {most : Int} {F f : Nat} {a : List UInt8} {q : Nat} (hs : Says s r) (hk : k < 4) (hr : Ext (layB (layB (0, 0) 1 1) k 2) r)
    (h : blockR most F k [] s (layB (layB (0, 0) 1 1) k 2).2 = .ok (a, q)) : blkG most F (f + 1) [] s 0 = .ok (a, q) := by
  have e1 := layB_ext (q := (0, 0)) (v := 1) (n := 1) (by omega) (by omega) zero_ok
  have e2 := layB_ext (q := layB (0, 0) 1 1) (v := k) (n := 2) (by omega) (by omega) e1.2.2
  obtain ⟨x1, x2, x3⟩ := bits_back hs (q := (0, 0)) (v := 1) (n := 1) (by omega) (by omega) zero_ok (e2.trans hr)
  obtain ⟨y1, y2, y3⟩ := bits_back hs (q := layB (0, 0) 1 1) (v := k) (n := 2) (by omega) (by omega) e1.2.2 hr
  have x1' : bitsErr s 0 (1 : Nat) = 0 := x1
  have x2' : bitsVal s 0 (1 : Nat) = 1 := x2
  have x3' : bitsGo s 0 (1 : Nat) = (layB (0, 0) 1 1).2 := x3
  rw [blk_goes x1' (by rw [x3']; exact y1), x2', x3', y2, y3]
  exact blkK_last h (by omega)
theorem text_size {s : ByteArray} {r : Nat × Nat} (h : Says s r) : (r.2 + 7) / 8 ≤ s.size := by
  have := h.2.size
  rwa [textOf_size] at this
/-- What the stream of one fixed block says. -/
theorem fixed_read (l : List UInt8) {s : ByteArray} (hs : Says s (fixedX l)) {most : Int} (hm : (l.length : Int) ≤ most) : inflS s most = .ok (l, (fixedX l).2) := by
  obtain ⟨h1, h2⟩ := toks_nil_say l
  have he := fixedX_ext l
  have e1 := layB_ext (q := (0, 0)) (v := 1) (n := 1) (by omega) (by omega) zero_ok
  have e2 := layB_ext (q := layB (0, 0) 1 1) (v := 1) (n := 2) (by omega) (by omega) e1.2.2
  have hrd := toks_read chk_fixL chk_fixD (hasL (by omega)) hs (most := most) (toks l) (8 * s.size + 1) [] _ ?_ e2.2.2 (toks_fixed l) h2 (by rw [h1]; exact hm) (Ext.refl hs.1)
  · rw [h1] at hrd
    unfold inflS
    refine one_block hs (k := 1) (by omega) he ?_
    rw [block_fixed]; exact hrd
  · have h3 : ∀ (ts : List Tk) (q : Nat × Nat), q.1 < 2 ^ q.2 → (∀ t ∈ ts, tkHas fixL fixD t) → q.2 + ts.length ≤ (layTs fixL fixD q ts).2 := by
      intro ts
      induction ts with
      | nil => intro q _ _; exact Nat.le_refl _
      | cons t ts ih =>
        intro q hq ht
        have e := layT_ext chk_fixL chk_fixD hq (ht t (by simp))
        have h4 := ih (layT fixL fixD q t) e.2.2 (fun t h => ht t (by simp [h]))
        have h5 : q.2 + 1 ≤ (layT fixL fixD q t).2 := by
          have hone : ∀ {s : Nat} {q : Nat × Nat}, has fixL (s : Nat) → q.2 + 1 ≤ (layC fixL q s).2 := fun {s q} hh => by
            unfold layC layS
            rw [if_pos hh, layG_len]
            have h6 : fixL.getD ((s : Nat) : Int).toNat 0 ≠ 0 := hh.2.2
            have h7 := chk_okay chk_fixL
            have h8 : (s : Int) < fixL.length := hh.2.1
            have h9 := h7 _ (List.getElem_mem (show s < fixL.length by omega))
            rw [← getD_get (show s < fixL.length by omega)] at h9
            rw [Int.toNat_natCast] at h6 ⊢
            omega
          have htt := ht t (by simp)
          unfold tkHas at htt
          unfold layT
          by_cases h0 : t.1 = 0
          · rw [if_pos h0] at htt ⊢; exact hone htt.2
          · rw [if_neg h0] at htt ⊢
            obtain ⟨a1, a2, a3, a4, a5, a6⟩ := htt
            obtain ⟨b1, b2, b3, b4⟩ := lsym_all t.1 (by omega) a1
            obtain ⟨c1, c2, c3⟩ := dsym_all t.2.1 (by omega) a3
            have f1 := hone (q := q) a5
            have g1 := layC_ext chk_fixL hq (lsym t.1)
            have g2 := layB_ext (v := t.1 - lenBase (lsym t.1)) (n := lenBits (lsym t.1)) (by have := lenBits_le (t := lsym t.1) (by omega) b2; omega) b4 g1.2.2
            have g3 := layC_ext chk_fixD g2.2.2 (dsym t.2.1)
            have g4 := layB_ext (v := t.2.1 - dstBase (dsym t.2.1)) (n := dstBits (dsym t.2.1)) (by have := dstBits_le (u := dsym t.2.1) c1; omega) c3 g3.2.2
            have k2 := g2.1
            have k3 := g3.1
            have k4 := g4.1
            omega
        show q.2 + (t :: ts).length ≤ (layTs fixL fixD (layT fixL fixD q t) ts).2
        rw [List.length_cons]; omega
    have h4 := h3 (toks l) _ e2.2.2 (toks_fixed l)
    have h5 := (layC_ext chk_fixL (layTs_ext chk_fixL chk_fixD (toks l) _ e2.2.2 (toks_fixed l)).2.2 256).1
    have h6 := text_size hs
    have h7 : (layTs fixL fixD (layB (layB (0, 0) 1 1) 1 2) (toks l)).2 ≤ (fixedX l).2 := h5
    omega
end Go.Proofs.YtjeeiodpdfbgmaaDoor
set_option linter.unusedVariables false
namespace Go.Proofs.YtjeeiodpdfbgmaaDoor
set_option maxRecDepth 100000
theorem layC_grows {l : List Int} (hc : chk l = 0) {t : Nat} {q : Nat × Nat} (hh : has l (t : Nat)) : q.2 + 1 ≤ (layC l q t).2 := by
  unfold layC layS
  rw [if_pos hh, layG_len]
  have h6 : l.getD ((t : Nat) : Int).toNat 0 ≠ 0 := hh.2.2
  have h8 : (t : Int) < l.length := hh.2.1
  have h9 := chk_okay hc _ (List.getElem_mem (show t < l.length by omega))
  rw [← getD_get (show t < l.length by omega)] at h9
  rw [Int.toNat_natCast] at h6 ⊢
  omega
theorem layTs_grows {l d : List Int} (hl : chk l = 0) (hd : chk d = 0) : ∀ (ts : List Tk) (q : Nat × Nat), q.1 < 2 ^ q.2 → (∀ t ∈ ts, tkHas l d t) → q.2 + ts.length ≤ (layTs l d q ts).2
  | [], q, _, _ => Nat.le_refl _
  | t :: ts, q, hq, ht => by
    have e := layT_ext hl hd hq (ht t (by simp))
    have h4 := layTs_grows hl hd ts _ e.2.2 (fun t h => ht t (by simp [h]))
    have h5 : q.2 + 1 ≤ (layT l d q t).2 := by
      have htt := ht t (by simp)
      unfold tkHas at htt
      unfold layT
      by_cases h0 : t.1 = 0
      · rw [if_pos h0] at htt ⊢; exact layC_grows hl htt.2
      · rw [if_neg h0] at htt ⊢
        obtain ⟨a1, a2, a3, a4, a5, a6⟩ := htt
        obtain ⟨b1, b2, b3, b4⟩ := lsym_all t.1 (by omega) a1
        obtain ⟨c1, c2, c3⟩ := dsym_all t.2.1 (by omega) a3
        have f1 := layC_grows hl (q := q) a5
        have g1 := layC_ext hl hq (lsym t.1)
        have g2 := layB_ext (v := t.1 - lenBase (lsym t.1)) (n := lenBits (lsym t.1)) (by have := lenBits_le (t := lsym t.1) (by omega) b2; omega) b4 g1.2.2
        have g3 := layC_ext hd g2.2.2 (dsym t.2.1)
        have g4 := layB_ext (v := t.2.1 - dstBase (dsym t.2.1)) (n := dstBits (dsym t.2.1)) (by have := dstBits_le (u := dsym t.2.1) c1; omega) c3 g3.2.2
        have k2 := g2.1
        have k3 := g3.1
        have k4 := g4.1
        omega
    show q.2 + (t :: ts).length ≤ (layTs l d (layT l d q t) ts).2
    rw [List.length_cons]; omega
theorem layRs_grows {small : List Int} (hc : chk small = 0) : ∀ (cs : List (Int × Nat)) (q : Nat × Nat), q.1 < 2 ^ q.2 → (∀ c ∈ cs, runOk c ∧ has small c.1 ∧ 0 ≤ c.1) → q.2 + cs.length ≤ (layRs small q cs).2
  | [], q, _, _ => Nat.le_refl _
  | c :: cs, q, hq, h => by
    obtain ⟨h1, h2, h3⟩ := h c (by simp)
    have e := layR_ext hc hq h1
    have ih := layRs_grows hc cs _ e.2.2 (fun t ht => h t (by simp [ht]))
    have h5 : q.2 + 1 ≤ (layR small q c).2 := by
      have e5 : ((c.1.toNat : Nat) : Int) = c.1 := by omega
      have f1 := layC_grows hc (t := c.1.toNat) (q := q) (by rw [e5]; exact h2)
      unfold layR
      by_cases k1 : c.1 = 16
      · rw [if_pos k1]
        rw [k1] at f1
        have e1 := layC_ext hc hq 16
        have e2 := (layB_ext (q := layC small q 16) (v := c.2) (n := 2) (by omega) (by have := h1.1 k1; omega) e1.2.2).1
        have f2 : q.2 + 1 ≤ (layC small q 16).2 := f1
        omega
      · rw [if_neg k1]
        by_cases k2 : c.1 = 17
        · rw [if_pos k2]
          rw [k2] at f1
          have e1 := layC_ext hc hq 17
          have e2 := (layB_ext (q := layC small q 17) (v := c.2) (n := 3) (by omega) (by have := h1.2.1 k2; omega) e1.2.2).1
          have f2 : q.2 + 1 ≤ (layC small q 17).2 := f1
          omega
        · rw [if_neg k2]
          by_cases k3 : c.1 = 18
          · rw [if_pos k3]
            rw [k3] at f1
            have e1 := layC_ext hc hq 18
            have e2 := (layB_ext (q := layC small q 18) (v := c.2) (n := 7) (by omega) (by have := h1.2.2 k3; omega) e1.2.2).1
            have f2 : q.2 + 1 ≤ (layC small q 18).2 := f1
            omega
          · rw [if_neg k3]; exact f1
    show q.2 + (c :: cs).length ≤ (layRs small (layR small q c) cs).2
    rw [List.length_cons]; omega
/-- What the stream of one dynamic block says. -/
theorem dynX_read {A B small : List Int} {n : Nat} {l : List UInt8} (h : DynOk A B small n (toks l)) {s : ByteArray} (hs : Says s (dynX A B small n (toks l))) {most : Int} (hm : (l.length : Int) ≤ most) :
    inflS s most = .ok (l, (dynX A B small n (toks l)).2) := by
  obtain ⟨h1, h2⟩ := toks_nil_say l
  have ha1 := h.a1
  have ha2 := h.a2
  have hb1 := h.b1
  have hb2 := h.b2
  have hn1 := h.n1
  have hn2 := h.n2
  have d1 := layB_ext (q := (0, 0)) (v := 1) (n := 1) (by omega) (by omega) zero_ok
  have d2 := layB_ext (q := layB (0, 0) 1 1) (v := 2) (n := 2) (by omega) (by omega) d1.2.2
  have e1 := layB_ext (q := layB (layB (0, 0) 1 1) 2 2) (v := A.length - 257) (n := 5) (by omega) (by omega) d2.2.2
  have e2 := layB_ext (v := B.length - 1) (n := 5) (by omega) (by omega) e1.2.2
  have e3 := layB_ext (v := n - 4) (n := 4) (by omega) (by omega) e2.2.2
  have e4 := layS3_ext h.s7 (ordS.take n) _ e3.2.2
  have e5 := layRs_ext h.cs (runs (A ++ B)) _ e4.2.2 (runsG_ok h.ab _ _)
  have e6 := layTs_ext h.ca h.cb (toks l) _ e5.2.2 h.tk
  have e7 := layC_ext h.ca e6.2.2 256
  have g5 := layRs_grows h.cs (runs (A ++ B)) _ e4.2.2 (fun c hc => ⟨runsG_ok h.ab _ _ c hc, h.rs c hc, (runsG_codes h.ab _ _ c hc).1⟩)
  have g6 := layTs_grows h.ca h.cb (toks l) _ e5.2.2 h.tk
  have hall : Ext (layB (layB (0, 0) 1 1) 2 2) (dynX A B small n (toks l)) := (((((e1.trans e2).trans e3).trans e4).trans e5).trans e6).trans e7
  have hz := text_size hs
  have l7 : (layTs A B (layRs small (layS3 small (layB (layB (layB (layB (layB (0, 0) 1 1) 2 2) (A.length - 257) 5) (B.length - 1) 5) (n - 4) 4) (ordS.take n)) (runs (A ++ B))) (toks l)).2 ≤ (dynX A B small n (toks l)).2 := e7.1
  have hF1 : (runs (A ++ B)).length < 8 * s.size + 1 := by omega
  have hF2 : (toks l).length < 8 * s.size + 1 := by omega
  have hrd := dyn_read h hs (most := most) (F := 8 * s.size + 1) hF1 hF2 d2.2.2 h2 (by rw [h1]; exact hm) (Ext.refl hs.1)
  rw [h1] at hrd
  unfold inflS
  refine one_block hs (k := 2) (by omega) hall ?_
  rw [block_dyn]; exact hrd

end Go.Proofs.YtjeeiodpdfbgmaaDoor
set_option linter.unusedVariables false
namespace Go.Proofs.YtjeeiodpdfbgmaaDoor
set_option maxRecDepth 100000
section
variable {β : Type}
end
theorem dynL_read (l : List UInt8) {s : ByteArray} (hs : Says s (dynL l)) {most : Int} (hm : (l.length : Int) ≤ most) : inflS s most = .ok (l, (dynL l).2) := dynX_read (dyn_ok l) hs hm
end Go.Proofs.YtjeeiodpdfbgmaaDoor
set_option linter.unusedVariables false
namespace Go.Proofs.YtjeeiodpdfbgmaaDoor
set_option maxRecDepth 100000
theorem layY_ext {q : Nat × Nat} (bs : List UInt8) (hq : q.1 < 2 ^ q.2) : Ext q (layY q bs) := by
  rw [layY_eq]
  refine ⟨by dsimp only; omega, ?_, ?_⟩
  · dsimp only
    have e : 2 ^ (8 * ((q.2 + 7) / 8)) = 2 ^ (8 * ((q.2 + 7) / 8) - q.2) * 2 ^ q.2 := by rw [← Nat.pow_add]; congr 1; omega
    rw [e, ← Nat.mul_assoc, Nat.add_mul_mod_self_right, Nat.mod_eq_of_lt hq]
  · dsimp only
    have h1 := num_lt bs
    rw [p256] at h1
    have h2 : q.1 < 2 ^ (8 * ((q.2 + 7) / 8)) := Nat.lt_of_lt_of_le hq (Nat.pow_le_pow_right (by decide) (by omega))
    rw [Nat.pow_add]
    generalize 2 ^ (8 * ((q.2 + 7) / 8)) = P at *
    generalize 2 ^ (8 * bs.length) = Q at *
    have := Nat.mul_le_mul_right P (show num bs + 1 ≤ Q by omega)
    rw [Nat.add_mul, Nat.mul_comm Q P] at this
    omega
/-- The bytes stand in the text. -/
theorem text_bytes {r q : Nat × Nat} {bs : List UInt8} (hr : r.1 < 2 ^ r.2) (hq : q.1 < 2 ^ q.2) (he : Ext (layY q bs) r) : ((textOf r.1 r.2).data.toList.drop ((q.2 + 7) / 8)).take bs.length = bs := by
  have hle := he.1
  rw [layY_eq] at hle
  have hle2 : 8 * ((q.2 + 7) / 8) + 8 * bs.length ≤ r.2 := hle
  have hl : (textOf r.1 r.2).data.toList.length = (r.2 + 7) / 8 := by
    have := textOf_size r.1 r.2
    rw [← this]; exact Array.length_toList
  have hll : (((textOf r.1 r.2).data.toList.drop ((q.2 + 7) / 8)).take bs.length).length = bs.length := by
    rw [List.length_take, List.length_drop, hl]; omega
  have hnum : num (((textOf r.1 r.2).data.toList.drop ((q.2 + 7) / 8)).take bs.length) = num bs := by
    have h8 : q.1 < 2 ^ (8 * ((q.2 + 7) / 8)) := Nat.lt_of_lt_of_le hq (Nat.pow_le_pow_right (by decide) (by omega))
    have hb : bitsAt r.1 (8 * ((q.2 + 7) / 8)) (8 * bs.length) = num bs := by
      rw [ext_bits he (by rw [layY_eq]; exact Nat.le_refl _), layY_eq]
      unfold bitsAt
      dsimp only
      rw [Nat.mul_comm (num _), Nat.add_mul_div_left _ _ (Nat.two_pow_pos _), Nat.div_eq_of_lt h8, Nat.zero_add]
      apply Nat.mod_eq_of_lt
      have := num_lt bs
      rw [p256] at this
      exact this
    rw [num_take, num_drop, num_textOf _ _ hr, p256, p256]
    exact hb
  rw [bytesOf_eq hll hnum]
  exact (bytesOf_eq rfl rfl).symm
/-- Bytes that were laid are read. -/
theorem bytes_back {s : ByteArray} {q r : Nat × Nat} {bs : List UInt8} (hs : Says s r) (hq : q.1 < 2 ^ q.2) (he : Ext (layY q bs) r) {i k p : Nat} (hp : (p + 7) / 8 = (q.2 + 7) / 8 + i) (hik : i + k ≤ bs.length) :
    bytesErr s p (k : Nat) = 0 ∧ bytesVal s p (k : Nat) = ⟨((bs.drop i).take k).toArray⟩ ∧ bytesGo s p (k : Nat) = 8 * ((q.2 + 7) / 8 + i + k) := by
  have hle := he.1
  rw [layY_eq] at hle
  have hle2 : 8 * ((q.2 + 7) / 8) + 8 * bs.length ≤ r.2 := hle
  have h0 : bytesErr (textOf r.1 r.2) p (k : Nat) = 0 := by
    unfold bytesErr
    rw [if_neg (by omega), if_neg]
    rw [textOf_size]; omega
  obtain ⟨x1, x2, x3⟩ := bytes_pre hs.2 (p := p) (n := (k : Nat)) (by rw [h0]; decide)
  refine ⟨x1.trans h0, ?_, ?_⟩
  · rw [x2]
    unfold bytesVal
    rw [if_pos h0, Int.toNat_natCast]
    have ht := text_bytes hs.1 hq he
    congr 2
    rw [hp, ← List.drop_drop]
    conv => rhs; rw [← ht]
    rw [List.drop_take, List.take_take, Nat.min_eq_left (by omega)]
  · rw [x3]
    unfold bytesGo
    rw [if_neg (by omega), if_pos h0, Int.toNat_natCast, hp]

theorem word_two (a b : UInt8) : wordOf ⟨[a, b].toArray⟩ = a.toNat + 256 * b.toNat := rfl
theorem storX_size {l : List UInt8} (h : l.length ≤ 65535) : (storX l).2 = 8 * (l.length + 5) := by
  have e1 := (layB_eq (q := (0, 0)) (v := 1) (n := 1) (by omega) (by omega))
  have e2 := layB_eq (q := layB (0, 0) 1 1) (v := 0) (n := 2) (by omega) (by omega)
  rw [storX_one h]
  unfold layZ
  rw [layY_eq]
  have : (layB (layB (0, 0) 1 1) 0 2).2 = 3 := by rw [e2, e1]
  rw [this, List.length_append]
  show 8 * ((3 + 7) / 8) + 8 * (4 + l.length) = _
  omega
theorem storX_read {l : List UInt8} (h : l.length ≤ 65535) {s : ByteArray} (hs : Says s (storX l)) {most : Int} (hm : (l.length : Int) ≤ most) : inflS s most = .ok (l, (storX l).2) := by
  have e1 := layB_ext (q := (0, 0)) (v := 1) (n := 1) (by omega) (by omega) zero_ok
  have e2 := layB_ext (q := layB (0, 0) 1 1) (v := 0) (n := 2) (by omega) (by omega) e1.2.2
  have eY := layY_ext (headY l.length ++ l) e2.2.2
  have hX : storX l = layY (layB (layB (0, 0) 1 1) 0 2) (headY l.length ++ l) := storX_one h
  have hq2 : (layB (layB (0, 0) 1 1) 0 2).2 = 3 := by rw [layB_eq (by omega) (by omega), layB_eq (by omega) (by omega)]
  have hsz := storX_size h
  have hlen : (headY l.length ++ l).length = 4 + l.length := by rw [List.length_append]; rfl
  have hself : Ext (layY (layB (layB (0, 0) 1 1) 0 2) (headY l.length ++ l)) (storX l) := by rw [hX]; exact Ext.refl eY.2.2
  obtain ⟨x1, x2, x3⟩ := bytes_back hs e2.2.2 hself (i := 0) (k := 2) (p := (layB (layB (0, 0) 1 1) 0 2).2) (by omega) (by rw [hlen]; omega)
  obtain ⟨y1, y2, y3⟩ := bytes_back hs e2.2.2 hself (i := 2) (k := 2) (p := 24) (by omega) (by rw [hlen]; omega)
  obtain ⟨z1, z2, z3⟩ := bytes_back hs e2.2.2 hself (i := 4) (k := l.length) (p := 40) (by omega) (by rw [hlen]; exact Nat.le_refl _)
  rw [hq2] at x1 x2 x3 y3 z3
  have hx3 : bytesGo s 3 ((2 : Nat) : Int) = 24 := x3
  have hy3 : bytesGo s 24 ((2 : Nat) : Int) = 40 := y3
  have hz3 : bytesGo s 40 ((l.length : Nat) : Int) = 8 * (l.length + 5) := by rw [z3]; omega
  have hx2 : bytesVal s 3 ((2 : Nat) : Int) = ⟨[UInt8.ofNat l.length, UInt8.ofNat (l.length / 256)].toArray⟩ := x2
  have hy2 : bytesVal s 24 ((2 : Nat) : Int) = ⟨[UInt8.ofNat (255 - l.length % 256), UInt8.ofNat (255 - l.length / 256)].toArray⟩ := y2
  have hz2 : bytesVal s 40 ((l.length : Nat) : Int) = ⟨l.toArray⟩ := by
    rw [z2]
    have : (headY l.length ++ l).drop 4 = l := rfl
    rw [this, List.take_length]
  have n1 : (UInt8.ofNat l.length).toNat = l.length % 256 := by
    have := UInt8.toNat_ofNat' (n := l.length)
    omega
  have w1 : wordOf (bytesVal s 3 ((2 : Nat) : Int)) = l.length := by
    rw [hx2, word_two, n1, u8n _ (by omega)]; omega
  have w2 : wordOf (bytesVal s 24 ((2 : Nat) : Int)) = 65535 - l.length := by
    rw [hy2, word_two, u8n _ (by omega), u8n _ (by omega)]; omega
  unfold inflS
  refine one_block hs (k := 0) (by omega) (eY.trans hself) ?_
  rw [block_stored, hq2, stored_goes x1 (by rw [hx3]; exact y1) (by rw [hx3, w1, w2]; omega), hx3, hy3, w1]
  unfold storedK
  rw [bind_val (rBytes_val z1), when_not (by show ¬ most < (([] : List UInt8).length : Int) + (l.length : Nat); simp; omega), hz3, hz2, hsz]
  show Except.ok (([] : List UInt8) ++ l, 8 * (l.length + 5)) = _
  rfl

theorem says_behind {r : Nat × Nat} (hr : r.1 < 2 ^ r.2) (b : ByteArray) : Says (textX r ++ b) r := by
  refine ⟨hr, ?_⟩
  show (textOf r.1 r.2).data.toList <+: (textX r ++ b).data.toList
  rw [show (textX r ++ b).data.toList = (textX r).data.toList ++ b.data.toList by simp]
  exact List.prefix_append _ _
/-- What a stream says, whatever stands behind it. -/
theorem stream_back {r : Nat × Nat} {l : List UInt8} (hr : r.1 < 2 ^ r.2) (h : ∀ s, Says s r → ∀ most : Int, (l.length : Int) ≤ most → inflS s most = .ok (l, r.2)) (b : ByteArray) :
    inflT (textX r ++ b) (l.length : Nat) = (l, (textX r).size, 0) := by
  rw [inflT_ok (h _ (says_behind hr b) _ (Int.le_refl _))]
  unfold textX
  rw [textOf_size]
theorem fixedX_lt (l : List UInt8) : (fixedX l).1 < 2 ^ (fixedX l).2 := (fixedX_ext l).2.2
theorem dynL_lt (l : List UInt8) : (dynL l).1 < 2 ^ (dynL l).2 := by
  have h := dyn_ok l
  have ha1 := h.a1
  have ha2 := h.a2
  have hb1 := h.b1
  have hb2 := h.b2
  have hn1 := h.n1
  have hn2 := h.n2
  have d1 := layB_ext (q := (0, 0)) (v := 1) (n := 1) (by omega) (by omega) zero_ok
  have d2 := layB_ext (q := layB (0, 0) 1 1) (v := 2) (n := 2) (by omega) (by omega) d1.2.2
  have e1 := layB_ext (q := layB (layB (0, 0) 1 1) 2 2) (v := (lenA (toks l)).length - 257) (n := 5) (by omega) (by omega) d2.2.2
  have e2 := layB_ext (v := (lenB (toks l)).length - 1) (n := 5) (by omega) (by omega) e1.2.2
  have e3 := layB_ext (v := (told (lenS (lenA (toks l) ++ lenB (toks l)))).length - 4) (n := 4) (by omega) (by omega) e2.2.2
  have e4 := layS3_ext h.s7 (ordS.take (told (lenS (lenA (toks l) ++ lenB (toks l)))).length) _ e3.2.2
  have e5 := layRs_ext h.cs (runs (lenA (toks l) ++ lenB (toks l))) _ e4.2.2 (runsG_ok h.ab _ _)
  have e6 := layTs_ext h.ca h.cb (toks l) _ e5.2.2 h.tk
  exact (layC_ext h.ca e6.2.2 256).2.2
theorem storX_lt {l : List UInt8} (h : l.length ≤ 65535) : (storX l).1 < 2 ^ (storX l).2 := by
  have e1 := layB_ext (q := (0, 0)) (v := 1) (n := 1) (by omega) (by omega) zero_ok
  have e2 := layB_ext (q := layB (0, 0) 1 1) (v := 0) (n := 2) (by omega) (by omega) e1.2.2
  rw [storX_one h]
  exact (layY_ext (headY l.length ++ l) e2.2.2).2.2
theorem stor_back {l : List UInt8} (h : l.length ≤ 65535) (b : ByteArray) : inflT (textX (storX l) ++ b) (l.length : Nat) = (l, (textX (storX l)).size, 0) := stream_back (storX_lt h) (fun s hs most hm => storX_read h hs hm) b
theorem fixed_back (l : List UInt8) (b : ByteArray) : inflT (textX (fixedX l) ++ b) (l.length : Nat) = (l, (textX (fixedX l)).size, 0) := stream_back (fixedX_lt l) (fun s hs most hm => fixed_read l hs hm) b
theorem dynL_back (l : List UInt8) (b : ByteArray) : inflT (textX (dynL l) ++ b) (l.length : Nat) = (l, (textX (dynL l)).size, 0) := stream_back (dynL_lt l) (fun s hs most hm => dynL_read l hs hm) b
theorem stor_size {l : List UInt8} (h : l.length ≤ 65535) : (textX (storX l)).size = l.length + 5 := by
  unfold textX
  rw [textOf_size, storX_size h]; omega
theorem best_back {l : List UInt8} (h : l.length ≤ 65535) (b : ByteArray) : inflT (bestX l ++ b) (l.length : Nat) = (l, (bestX l).size, 0) := by
  rcases (bestX_cases l).1 with e | e | e
  · rw [e]; exact stor_back h b
  · rw [e]; exact fixed_back l b
  · rw [e]; exact dynL_back l b
end Go.Proofs.YtjeeiodpdfbgmaaDoor
namespace Go.Proofs.YtjeeiodpdfbgmaaDoor
set_option maxRecDepth 100000
open Go Go.RowKit
attribute [local irreducible] fillC
/-- The program's repeated. -/
theorem repeated_any (x : Int) {n : Nat} (w : World) (hn0 : 0 < n) (hn : n ≤ 100000) :
    Calls Tryd.prog 96 #[.int .i64 x, .int .i64 n] w fun e w' => ∃ gg cc, e = .returned (.slice (some ⟨gg, 0, none⟩) n cc) ∧ OwnI w' w.heap.size (.slice (some ⟨gg, 0, none⟩) n cc) (List.replicate n x) ∧ But [] w w' := by
  have hr := repeat_any x (c := 1) (w := w.alloc (.cells #[.int .i64 x] 3)) (g := w.heap.size) ((Is.fresh w 3 #[.int .i64 x]).cell 0) hn0 hn
  have HR := Lib.hid hr
  clear hr
  go_enter Tryd.func96, Tryd.ntmps96
  go_wp2_with fail
  refine HR.out.mono ?_
  rintro e w' ⟨gg, cc, rfl, hO, hB⟩
  have HO := Lib.hid hO
  have HB := Lib.hid hB
  clear hO hB
  go_wp2
  go_ret
  refine ⟨gg, cc, rfl, ?_, ((But.refl [] w).alloc _).trans HB.out⟩
  have h := HO.out
  unfold OwnI at h ⊢
  refine ⟨h.1, ?_⟩
  rcases h.2 with h2 | ⟨g, cap, cur, h1, h2, h3⟩
  · exact .inl h2
  · exact .inr ⟨g, cap, cur, h1, by simp at h2; omega, h3⟩
end Go.Proofs.YtjeeiodpdfbgmaaDoor
namespace Go.Proofs.YtjeeiodpdfbgmaaDoor
set_option maxRecDepth 100000
open Go Go.RowKit
/-- Tables that a call has just made, or an error. -/
def GotT (w : World) (l d : List Int) (e : Ending) (w' : World) : Prop :=
  ∃ (p1 p2 : Value) (er : Int), e = .returned (.tuple #[.agg #[p1, p2], .int .i64 er]) ∧ But [] w w' ∧ (er ≠ 0 → p1 = .pointer none ∧ p2 = .pointer none ∧ (chk l = er ∨ (chk l = 0 ∧ chk d = er))) ∧
    (er = 0 → chk l = 0 ∧ chk d = 0 ∧ ∃ b1 b2, p1 = ptr (some b1) ∧ p2 = ptr (some b2) ∧ NewT w.heap.size w' b1 l ∧ NewT w.heap.size w' b2 d)
theorem NewT.lower {lo lo' b : Nat} {w : World} {l : List Int} (h : NewT lo w b l) (hl : lo' ≤ lo) : NewT lo' w b l := by
  obtain ⟨Ao, co, Al, cl, Ac, cc, h1, h2, h3, h4, h5, h6, h7, h8⟩ := h
  exact ⟨Ao, co, Al, cl, Ac, cc, h1, h2, h3, h4, by omega, fun a e => Nat.le_trans hl (h6 a e), fun a e => Nat.le_trans hl (h7 a e), fun a e => Nat.le_trans hl (h8 a e)⟩

/-- What a pair of tables in a block of the call's own reads as. -/
theorem pair_put {w w2 : World} {k : Nat} {t : TypeId} {x y p1 p2 : Value} (hI : Is w2 k t #[x, y]) (hB : But [] w w2) (hk : w.heap.size ≤ k) :
    Is ((w2.setCell ⟨k, 0, none⟩ p1).setCell ⟨k, 1, none⟩ p2) k t #[p1, p2] ∧ But [] w ((w2.setCell ⟨k, 0, none⟩ p1).setCell ⟨k, 1, none⟩ p2) ∧ But [k] w2 ((w2.setCell ⟨k, 0, none⟩ p1).setCell ⟨k, 1, none⟩ p2) := by
  refine ⟨?_, ?_, ?_⟩
  · simpa using (hI.put 0 p1).put 1 p2
  · exact (hB.setCell (.inr hk) _).setCell (.inr hk) _
  · exact ((But.refl [k] w2).setCell (.inl (by simp)) _).setCell (.inl (by simp)) _
theorem pair_in {w : World} {k : Nat} {t : TypeId} {x y p1 p2 : Value} (hI : Is w k t #[x, y]) :
    Is ((w.setCell ⟨k, 0, none⟩ p1).setCell ⟨k, 1, none⟩ p2) k t #[p1, p2] ∧ But [k] w ((w.setCell ⟨k, 0, none⟩ p1).setCell ⟨k, 1, none⟩ p2) :=
  ⟨by simpa using (hI.put 0 p1).put 1 p2, ((But.refl [k] w).setCell (.inl (by simp)) _).setCell (.inl (by simp)) _⟩
theorem makeTables_any {w : World} {A B : Option Addr} {n m cA cB : Nat} {l d : List Int} (hl : Ints w A n l) (hd : Ints w B m d) (hn : n * 8 ≤ 140737488351232) (hm : m * 8 ≤ 140737488351232)
    (hA : A = none → cA = 0) (hB : B = none → cB = 0) :
    Calls Tryd.prog 97 #[.slice A n cA, .slice B m cB] w (GotT w l d) := by
  have hB0 : But [] w (w.alloc (.cells #[.pointer none, .pointer none] 75)) := (But.refl [] w).alloc _
  have hI := Is.fresh w 75 #[.pointer none, .pointer none]
  have hl1 := hl.but hB0 (by simp)
  have hd1 := hd.but hB0 (by simp)
  have hn1 : n ≤ maxLen := by unfold maxLen; omega
  have hm1 : m ≤ maxLen := by unfold maxLen; omega
  by_cases hc : chk l = 0
  · have hmk := make_new (cap := cA) hl1 hn hA hc
    have HMK := Lib.hid hmk
    have HI := Lib.hid hI
    have HD := Lib.hid hd1
    have HC := Lib.hid hc
    have HHB := Lib.hid hB
    have HB0 := Lib.hid hB0
    clear hmk hl hd hl1 hd1 hA hc hI hB hB0
    go_enter Tryd.func97, Tryd.ntmps97
    go_wp2_with fail
    refine HMK.out.mono ?_
    rintro e w1 ⟨b1, rfl, hT1, hB1⟩
    have hI1 := HI.out.but hB1 (by simp)
    have hd2 := HD.out.but hB1 (by simp)
    have hB01 := HB0.out.trans hB1
    by_cases hc2 : chk d = 0
    · have hmk2 := make_new (cap := cB) hd2 hm HHB.out hc2
      have HMK2 := Lib.hid hmk2
      have HI1 := Lib.hid hI1
      have HT1 := Lib.hid hT1
      have HB01 := Lib.hid hB01
      have HC2 := Lib.hid hc2
      clear hmk2 hI1 hT1 hB01 hB1 hd2 hc2 HMK
      go_wp2_with fail
      refine HMK2.out.mono ?_
      rintro e w2 ⟨b2, rfl, hT2, hB2⟩
      have hI2 := HI1.out.but hB2 (by simp)
      have g0 : w2.cell? ⟨w.heap.size, 0, none⟩ = some (.pointer none) := hI2.cell 0
      have g1 : w2.cell? ⟨w.heap.size, 1, none⟩ = some (.pointer none) := hI2.cell 1
      have f0 : w2.frozen? ⟨w.heap.size, 0, none⟩ = false := hI2.free 0
      have f1 : w2.frozen? ⟨w.heap.size, 1, none⟩ = false := hI2.free 1
      obtain ⟨q1, q2, q3⟩ := pair_put (p1 := .pointer (some ⟨b1, 0, none⟩)) (p2 := .pointer (some ⟨b2, 0, none⟩)) hI2 (HB01.out.trans hB2) (Nat.le_refl _)
      have t1 := ((HT1.out.but hB2 (by simp)).but q3 (by simp)).lower (lo' := w.heap.size) (by simp)
      have t2 := (hT2.but q3 (by have := HB01.out.size; have := HI1.out.lt; simp; omega)).lower (lo' := w.heap.size) (by have := HB01.out.size; omega)
      have HQ1 := Lib.hid q1
      have HQ2 := Lib.hid q2
      have HT1' := Lib.hid t1
      have HT2 := Lib.hid t2
      clear hI2 hT2 hB2 q1 q2 q3 t1 t2 HT1
      go_wp2
      generalize ((w2.setCell ⟨w.heap.size, 0, none⟩ (.pointer (some ⟨b1, 0, none⟩))).setCell ⟨w.heap.size, 1, none⟩ (.pointer (some ⟨b2, 0, none⟩))) = wf at *
      have c0 : wf.cell? ⟨w.heap.size, 0, none⟩ = some (.pointer (some ⟨b1, 0, none⟩)) := HQ1.out.cell 0
      have c1 : wf.cell? ⟨w.heap.size, 1, none⟩ = some (.pointer (some ⟨b2, 0, none⟩)) := HQ1.out.cell 1
      refine bodyPost_ret (v := .tuple #[.agg #[.pointer (some ⟨b1, 0, none⟩), .pointer (some ⟨b2, 0, none⟩)], .int .i64 0]) (by simp [results, Tryd.results97, go_sem, c0, c1]) rfl ?_
      exact ⟨_, _, 0, rfl, HQ2.out, fun e => absurd rfl e, fun _ => ⟨HC.out, HC2.out, b1, b2, rfl, rfl, HT1'.out, HT2.out⟩⟩
    · have hmk2 := make_err (cap := cB) hd2 hm1 hc2
      have hx : (chk d != 0) = true := by simpa using hc2
      obtain ⟨x, hxe⟩ : ∃ x, chk d = x := ⟨_, rfl⟩
      rw [hxe] at hmk2 hx hc2
      have HXE := Lib.hid hxe
      have HNE := Lib.hid hc2
      have HMK2 := Lib.hid hmk2
      have HI1 := Lib.hid hI1
      have HB01 := Lib.hid hB01
      clear hmk2 hI1 hT1 hB01 hB1 hd2 hc2 HMK hxe
      go_wp2_with fail
      refine HMK2.out.mono ?_
      rintro e w2 ⟨rfl, rfl⟩
      have hI2 := HI1.out
      have g0 : w1.cell? ⟨w.heap.size, 0, none⟩ = some (.pointer none) := hI2.cell 0
      have g1 : w1.cell? ⟨w.heap.size, 1, none⟩ = some (.pointer none) := hI2.cell 1
      have f0 : w1.frozen? ⟨w.heap.size, 0, none⟩ = false := hI2.free 0
      have f1 : w1.frozen? ⟨w.heap.size, 1, none⟩ = false := hI2.free 1
      obtain ⟨q1, q2, q3⟩ := pair_put (p1 := .pointer none) (p2 := .pointer none) hI2 HB01.out (Nat.le_refl _)
      have HQ1 := Lib.hid q1
      have HQ2 := Lib.hid q2
      clear hI2 q1 q2 q3
      go_wp2
      generalize ((w1.setCell ⟨w.heap.size, 0, none⟩ (.pointer none)).setCell ⟨w.heap.size, 1, none⟩ (.pointer none)) = wf at *
      have c0 : wf.cell? ⟨w.heap.size, 0, none⟩ = some (.pointer none) := HQ1.out.cell 0
      have c1 : wf.cell? ⟨w.heap.size, 1, none⟩ = some (.pointer none) := HQ1.out.cell 1
      refine bodyPost_ret (v := .tuple #[.agg #[.pointer none, .pointer none], .int .i64 x]) (by simp [results, Tryd.results97, go_sem, c0, c1]) rfl ?_
      exact ⟨_, _, x, rfl, HQ2.out, fun _ => ⟨rfl, rfl, .inr ⟨HC.out, HXE.out⟩⟩, fun e => absurd e HNE.out⟩
  · have hmk2 := make_err (cap := cA) hl1 hn1 hc
    have hx : (chk l != 0) = true := by simpa using hc
    obtain ⟨x, hxe⟩ : ∃ x, chk l = x := ⟨_, rfl⟩
    rw [hxe] at hmk2 hx hc
    have HXE := Lib.hid hxe
    have HNE := Lib.hid hc
    have HMK2 := Lib.hid hmk2
    have HI1 := Lib.hid hI
    clear hmk2 hI hl hd hl1 hd1 hA hB hB0 hc hxe
    go_enter Tryd.func97, Tryd.ntmps97
    go_wp2_with fail
    refine HMK2.out.mono ?_
    rintro e w2 ⟨rfl, rfl⟩
    go_wp2
    have c0 : (w.alloc (.cells #[.pointer none, .pointer none] 75)).cell? ⟨w.heap.size, 0, none⟩ = some (.pointer none) := HI1.out.cell 0
    have c1 : (w.alloc (.cells #[.pointer none, .pointer none] 75)).cell? ⟨w.heap.size, 1, none⟩ = some (.pointer none) := HI1.out.cell 1
    have HB0 := Lib.hid (but_alloc w (.cells #[.pointer none, .pointer none] 75))
    refine bodyPost_ret (v := .tuple #[.agg #[.pointer none, .pointer none], .int .i64 x]) (by simp [results, Tryd.results97, go_sem, c0, c1]) rfl ?_
    exact ⟨_, _, x, rfl, HB0.out, fun _ => ⟨rfl, rfl, .inl HXE.out⟩, fun e => absurd e HNE.out⟩
end Go.Proofs.YtjeeiodpdfbgmaaDoor
