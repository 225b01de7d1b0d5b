/- Several texts in one, each with its own words ahead: Codes, Ints, Check, CheckB, Ord. -/
import Derived.Test.YtobmghjpfkdooaaDoorMa
import Derived.Deep.Slices
import Derived.ProofKit
import Derived.OpenShut
import Derived.WalkLawsBesides
set_option maxRecDepth 100000
/- Plain laws of lengths of codes: how much of all codes they take, and what Check tells. -/
namespace Go.Proofs.YtobmghjpfkdooaaDoor
set_option maxRecDepth 100000

/-- How much of all codes a length takes. -/
def kr (x : Int) : Nat := if 0 < x then 2 ^ (15 - x.toNat) else 0
def ksum (l : List Int) : Nat := (l.map kr).sum
/-- How many symbols have codes. -/
def many (l : List Int) : Nat := (l.filter fun x => decide (0 < x)).length
/-- The greatest length. -/
def top (l : List Int) : Int := l.foldl (fun m x => if 0 < x then max m x else m) 0
def okLen (x : Int) : Bool := decide (0 ≤ x ∧ x ≤ 15)
def okLens (l : List Int) : Bool := l.all okLen
/-- What Check tells. -/
def chk (l : List Int) : Int :=
  if 288 < l.length then 1 else if okLens l = false then 1 else if 32768 < ksum l then 10 else
  if ksum l < 32768 ∧ 0 < many l ∧ ¬ (many l = 1 ∧ ksum l = 16384) then 11 else 0

theorem ksum_snoc (l : List Int) (x : Int) : ksum (l ++ [x]) = ksum l + kr x := by simp [ksum]
theorem many_snoc (l : List Int) (x : Int) : many (l ++ [x]) = many l + (if 0 < x then 1 else 0) := by
  unfold many; rw [List.filter_append, List.length_append]; congr 1
  by_cases h : 0 < x <;> simp [h]
theorem top_snoc (l : List Int) (x : Int) : top (l ++ [x]) = if 0 < x then max (top l) x else top l := by
  unfold top; rw [List.foldl_append]; rfl
theorem okLens_snoc (l : List Int) (x : Int) : okLens (l ++ [x]) = (okLens l && okLen x) := by simp [okLens]
theorem kr_le (x : Int) : kr x ≤ 32768 := by
  unfold kr; split
  · exact Nat.le_trans (Nat.pow_le_pow_right (by decide) (Nat.sub_le _ _)) (by decide)
  · exact Nat.zero_le _
theorem ksum_le (l : List Int) : ksum l ≤ 32768 * l.length := by
  induction l with
  | nil => simp [ksum]
  | cons x l ih => have := kr_le x; simp only [ksum, List.map_cons, List.sum_cons, List.length_cons] at ih ⊢; omega
theorem many_le (l : List Int) : many l ≤ l.length := List.length_filter_le _ _
theorem top_mono (l : List Int) : ∀ m : Int, m ≤ l.foldl (fun m x => if 0 < x then max m x else m) m := by
  induction l with
  | nil => intro m; exact Int.le_refl _
  | cons x l ih =>
    intro m
    simp only [List.foldl_cons]
    refine Int.le_trans ?_ (ih _)
    split <;> omega
theorem top_nonneg (l : List Int) : 0 ≤ top l := top_mono l 0
theorem top_le (l : List Int) (h : okLens l = true) : top l ≤ 15 := by
  unfold top
  have : ∀ m : Int, m ≤ 15 → l.foldl (fun m x => if 0 < x then max m x else m) m ≤ 15 := by
    induction l with
    | nil => intro m hm; exact hm
    | cons x l ih =>
      intro m hm
      simp only [okLens, List.all_cons, Bool.and_eq_true, okLen, decide_eq_true_eq] at h
      simp only [List.foldl_cons]
      refine ih h.2 _ ?_
      split <;> omega
  exact this 0 (by decide)
theorem top_mem (l : List Int) : ∀ x ∈ l, x ≤ top l := by
  unfold top
  have : ∀ m : Int, ∀ x ∈ l, 0 < x → x ≤ l.foldl (fun m x => if 0 < x then max m x else m) m := by
    induction l with
    | nil => intro m x hx; cases hx
    | cons y l ih =>
      intro m x hx h0
      simp only [List.foldl_cons]
      rcases List.mem_cons.1 hx with rfl | hx
      · refine Int.le_trans ?_ (top_mono l _)
        rw [if_pos h0]; omega
      · exact ih _ x hx h0
  intro x hx
  by_cases h : 0 < x
  · exact this 0 x hx h
  · exact Int.le_trans (by omega) (top_nonneg l)
theorem many_pos (l : List Int) : 0 < many l ↔ ∃ x ∈ l, 0 < x := by
  unfold many
  rw [List.length_pos_iff_exists_mem]
  constructor
  · rintro ⟨x, hx⟩; rw [List.mem_filter] at hx; exact ⟨x, hx.1, by simpa using hx.2⟩
  · rintro ⟨x, hx, h⟩; exact ⟨x, List.mem_filter.2 ⟨hx, by simpa using h⟩⟩
/-- One symbol alone: how much it takes tells its length. -/
theorem one_sum : ∀ l : List Int, okLens l = true → many l = 0 → ksum l = 0 ∧ top l = 0
  | [], _, _ => ⟨rfl, rfl⟩
  | x :: l, h, hm => by
    unfold many at hm
    rw [List.filter_cons] at hm
    by_cases h0 : 0 < x
    · rw [if_pos (by simpa using h0)] at hm; simp at hm
    · rw [if_neg (by simpa using h0)] at hm
      simp only [okLens, List.all_cons, Bool.and_eq_true] at h
      obtain ⟨i1, i2⟩ := one_sum l h.2 hm
      refine ⟨?_, ?_⟩
      · simp only [ksum, List.map_cons, List.sum_cons] at i1 ⊢; rw [i1]; unfold kr; rw [if_neg h0]
      · unfold top at i2 ⊢; simp only [List.foldl_cons]; rw [if_neg h0]; exact i2
theorem foldTop_zero : ∀ (l : List Int) (m : Int), many l = 0 → l.foldl (fun m x => if 0 < x then max m x else m) m = m
  | [], _, _ => rfl
  | x :: l, m, hm => by
    unfold many at hm
    rw [List.filter_cons] at hm
    by_cases h0 : 0 < x
    · rw [if_pos (by simpa using h0)] at hm; simp at hm
    · rw [if_neg (by simpa using h0)] at hm
      simp only [List.foldl_cons]; rw [if_neg h0]; exact foldTop_zero l m hm
theorem one_sum' : ∀ l : List Int, okLens l = true → many l = 1 → ∃ m : Nat, 1 ≤ m ∧ m ≤ 15 ∧ ksum l = 2 ^ (15 - m) ∧ top l = m
  | [], _, hm => by simp [many] at hm
  | x :: l, h, hm => by
    have hm' := hm
    unfold many at hm
    rw [List.filter_cons] at hm
    simp only [okLens, List.all_cons, Bool.and_eq_true, okLen, decide_eq_true_eq] at h
    by_cases h0 : 0 < x
    · rw [if_pos (by simpa using h0)] at hm
      have hz : many l = 0 := by simpa [many] using hm
      obtain ⟨i1, _⟩ := one_sum l h.2 hz
      refine ⟨x.toNat, by omega, by omega, ?_, ?_⟩
      · simp only [ksum, List.map_cons, List.sum_cons] at i1 ⊢; rw [i1]; unfold kr; rw [if_pos h0]; rfl
      · unfold top; simp only [List.foldl_cons]; rw [if_pos h0, foldTop_zero l _ hz]; omega
    · rw [if_neg (by simpa using h0)] at hm
      obtain ⟨m, i0, i1, i2, i3⟩ := one_sum' l h.2 hm
      refine ⟨m, i0, i1, ?_, ?_⟩
      · simp only [ksum, List.map_cons, List.sum_cons] at i2 ⊢; rw [i2]; unfold kr; rw [if_neg h0]; omega
      · unfold top at i3 ⊢; simp only [List.foldl_cons]; rw [if_neg h0]; exact i3
theorem single_iff (l : List Int) (h : okLens l = true) : (many l = 1 ∧ ksum l = 16384) ↔ (many l = 1 ∧ top l = 1) := by
  constructor
  · rintro ⟨h1, h2⟩
    obtain ⟨m, h3, h4, h5, h6⟩ := one_sum' l h h1
    refine ⟨h1, ?_⟩
    rw [h6]
    have : m = 1 := by
      apply Classical.byContradiction; intro hc
      have := Nat.pow_le_pow_right (n := 2) (by decide) (show 15 - m ≤ 13 by omega)
      omega
    omega
  · rintro ⟨h1, h2⟩
    obtain ⟨m, h3, h4, h5, h6⟩ := one_sum' l h h1
    have : m = 1 := by omega
    subst this
    exact ⟨h1, h5⟩
/-- The document's test is the program's. -/
theorem chk_ref (l : List Int) : chk l = (if 288 < l.length then 1 else if okLens l = false then 1 else if 32768 < ksum l then 10 else
  if ksum l < 32768 ∧ 0 < many l ∧ ¬ (many l = 1 ∧ top l = 1) then 11 else 0) := by
  unfold chk
  by_cases h1 : 288 < l.length
  · rw [if_pos h1, if_pos h1]
  · rw [if_neg h1, if_neg h1]
    by_cases h2 : okLens l = false
    · rw [if_pos h2, if_pos h2]
    · rw [if_neg h2, if_neg h2]
      simp only [single_iff l (by simpa using h2)]
theorem chk_cases (l : List Int) : chk l = 0 ∨ chk l = 1 ∨ chk l = 10 ∨ chk l = 11 := by
  unfold chk; repeat' split
  all_goals simp
theorem chk_zero {l : List Int} (h : chk l = 0) : l.length ≤ 288 ∧ okLens l = true ∧ ksum l ≤ 32768 ∧ (ksum l = 32768 ∨ many l = 0 ∨ (many l = 1 ∧ ksum l = 16384)) := by
  unfold chk at h
  by_cases h1 : 288 < l.length
  · rw [if_pos h1] at h; omega
  rw [if_neg h1] at h
  by_cases h2 : okLens l = false
  · rw [if_pos h2] at h; omega
  rw [if_neg h2] at h
  by_cases h3 : 32768 < ksum l
  · rw [if_pos h3] at h; omega
  rw [if_neg h3] at h
  by_cases h4 : ksum l < 32768 ∧ 0 < many l ∧ ¬ (many l = 1 ∧ ksum l = 16384)
  · rw [if_pos h4] at h; omega
  refine ⟨by omega, by simpa using h2, by omega, ?_⟩
  by_cases h5 : many l = 1 ∧ ksum l = 16384
  · exact .inr (.inr h5)
  · rcases Nat.eq_zero_or_pos (many l) with h6 | h6
    · exact .inr (.inl h6)
    · left; apply Classical.byContradiction; intro h7; exact h4 ⟨by omega, h6, h5⟩
end Go.Proofs.YtobmghjpfkdooaaDoor
/- Slices of numbers that are handed in, opened to their cells; whether lengths are those of a full set of codes. -/
namespace Go.Proofs.YtobmghjpfkdooaaDoor
open Go Go.RowKit Go.ChangeShapes Go.WideShapes

/-- A slice reads as these numbers. -/
def Ints (w : World) (A : Option Addr) (n : Nat) (l : List Int) : Prop :=
  l.length = n ∧ (0 < n → ∃ g o, A = some ⟨g, o, none⟩ ∧ g < w.heap.size ∧ ∀ (i : Nat) (h : i < l.length), w.cell? ⟨g, o + i, none⟩ = some (.int .i64 l[i]))
theorem Ints.below {w w' : World} {A : Option Addr} {n : Nat} {l : List Int} (h : Ints w A n l) {B : Nat} (hb : Below B w w') (hB : w.heap.size ≤ B) : Ints w' A n l :=
  ⟨h.1, fun hn => by
    obtain ⟨g, o, e, hg, hc⟩ := h.2 hn
    exact ⟨g, o, e, Nat.lt_of_lt_of_le hg hb.size, fun i hi => (hb.cell (p := ⟨g, o + i, none⟩) (by show g < B; omega)).trans (hc i hi)⟩⟩
theorem Ints.but {w w' : World} {A : Option Addr} {n : Nat} {l : List Int} {S : List Nat} (h : Ints w A n l) (hw : But S w w') (hA : ∀ k ∈ S, Off A k) : Ints w' A n l :=
  ⟨h.1, fun hn => by
    obtain ⟨g, o, e, hg, hc⟩ := h.2 hn
    exact ⟨g, o, e, Nat.lt_of_lt_of_le hg hw.size, fun i hi => hw.cell (hc i hi) (fun hS => hA g hS _ e rfl)⟩⟩
theorem Ints.at {w : World} {A : Option Addr} {n : Nat} {l : List Int} (h : Ints w A n l) {i : Nat} (hi : i < n) :
    ∃ g o, A = some ⟨g, o, none⟩ ∧ g < w.heap.size ∧ w.cell? ⟨g, o + i, none⟩ = some (.int .i64 (l[i]'(by have := h.1; omega))) := by
  obtain ⟨g, o, e, hg, hc⟩ := h.2 (by omega)
  exact ⟨g, o, e, hg, hc i (by have := h.1; omega)⟩
/-- The numbers fit. -/
def Fits (l : List Int) : Prop := ∀ x ∈ l, -9223372036854775808 ≤ x ∧ x ≤ 9223372036854775807

theorem open_lens {H : Type} {enc : TypeId × Value → H} {W : World} {base : Nat} {v : Value} {d : DataW H} {p : List MemPlace} (hv : Value.okWide Tryd.prog W .any base 48 v)
    (hk : DataW.Trod enc Tryd.prog W 0 (fun _ => true) true 48 v d p) :
    ∃ A len cap l, v = .slice A len cap ∧ Ints W A len l ∧ len ≤ cap ∧ cap ≤ maxLen ∧ Fits l ∧ (d = .nil ∧ cap = 0 ∨ ∃ el sp, d = .slice el sp ∧ el.length + sp.length = cap) := by
  obtain ⟨a0, len, cap, rfl⟩ := okWide_slice Tryd.underlying48 hv
  obtain ⟨fuel, hf⟩ := hk
  rcases open_ints Tryd.underlying48 Tryd.underlying3 (by kernel_rfl) hf with ⟨hcs, hd⟩ | ⟨a, len', cap', zs, hcs, hb, hl, hm, hzs, hx, hc, hwf⟩
  · simp [Value.cells] at hcs
    obtain ⟨rfl, rfl, rfl⟩ := hcs
    exact ⟨none, 0, 0, [], rfl, ⟨rfl, fun h => absurd h (by omega)⟩, Nat.le_refl _, Nat.zero_le _, (by intro x hx; cases hx), .inl ⟨by injection hd, rfl⟩⟩
  · simp [Value.cells] at hcs
    obtain ⟨rfl, rfl, rfl⟩ := hcs
    have hzl : zs.length = cap := by simpa using hzs
    refine ⟨some a, len, cap, zs.take len, rfl, ⟨by rw [List.length_take]; omega, fun hn => ?_⟩, hl, hm, fun x hx' => bounds_i64 (hwf x (List.mem_of_mem_take hx')), .inr ⟨_, _, (by injection hx), by simp [lits]; omega⟩⟩
    obtain ⟨g, o, rfl, hg⟩ := ints_at hc (by omega)
    refine ⟨g, o, rfl, ?_, fun i hi => ?_⟩
    · have := World.block_lt_of_cell? W _ (hg 0 (by omega))
      exact this
    · rw [List.length_take] at hi
      rw [hg i (by omega), List.getElem_take, List.getD_eq_getElem?_getD, List.getElem?_eq_getElem (by omega)]; rfl
end Go.Proofs.YtobmghjpfkdooaaDoor
/- The contracts of Check, of the document's answer to it, and of the test that two lists are the same. -/
namespace Go.Proofs.YtobmghjpfkdooaaDoor
open Go Go.RowKit

theorem lens_take {l : List Int} {k : Nat} (h : k < l.length) : l.take (k + 1) = l.take k ++ [l[k]] := List.take_succ_eq_append_getElem h
theorem kr_pos {x : Int} {m : Nat} (h : x = m) (h0 : 0 < x) (h1 : m ≤ 15) : (32768 : Int) / 2 ^ m = (kr x : Nat) := by
  unfold kr; rw [if_pos h0]; subst h
  have e : (15 : Nat) - (m : Int).toNat = 15 - m := by omega
  rw [e]
  have : (2 : Int) ^ m * 2 ^ (15 - m) = 32768 := by rw [← Int.pow_add, show m + (15 - m) = 15 from by omega]; rfl
  rw [← this, Int.mul_ediv_cancel_left _ (by have := Int.pow_pos (n := 2) (m := m) (by decide); omega)]
  simp

set_option maxRecDepth 100000 in
theorem check_any {w : World} {A : Option Addr} {len cap : Nat} {l : List Int} (hl : Ints w A len l) (hm : len ≤ maxLen) :
    Calls Tryd.prog 56 #[.slice A len cap] w fun e w' => e = .returned (.int .i64 (chk l)) ∧ w = w' := by
  unfold maxLen at hm
  have hlen := hl.1
  by_cases h288 : 288 < len
  · have hc : chk l = 1 := by unfold chk; rw [if_pos (by omega)]
    rw [hc]
    clear hc hl hlen
    go_enter Tryd.func56, Tryd.ntmps56
    go_wp2
    go_ret
    exact ⟨rfl, rfl⟩
  · go_enter Tryd.func56, Tryd.ntmps56
    go_wp2
    go_loop [3, 4, 13] (fun sm wd i => ∃ k : Nat, k ≤ len ∧ okLens (l.take k) = true ∧ i = .int .i64 k ∧ sm = .int .i64 (ksum (l.take k)) ∧ wd = .int .i64 (many (l.take k))) (fun _ _ i => len - (intOf i).toNat)
    case atStart => exact ⟨0, Nat.zero_le _, rfl, rfl, rfl, rfl⟩
    case round =>
      obtain ⟨k, hk, hok, rfl, rfl, rfl⟩ := hrel
      have hks := ksum_le (l.take k)
      have hms := many_le (l.take k)
      rw [List.length_take] at hks hms
      by_cases hlt : k < len
      · obtain ⟨g, o, rfl, hg, hc⟩ := hl.at hlt
        have hts := lens_take (l := l) (k := k) (by omega)
        have HS := Lib.hid hts
        have HX := Lib.hid (show l[k]'(by omega) ∈ l from List.getElem_mem _)
        generalize l[k]'(by omega) = x at *
        clear hl hts
        by_cases hr : 0 ≤ x ∧ x ≤ 15
        · obtain ⟨m, rfl⟩ := Int.eq_ofNat_of_zero_le hr.1
          have hm15 : m ≤ 15 := by omega
          have HO := Lib.hid (show okLens (l.take (k + 1)) = true by rw [HS.out, okLens_snoc, hok]; simp [okLen]; omega)
          have HK := Lib.hid (show ksum (l.take (k + 1)) = ksum (l.take k) + kr m by rw [HS.out, ksum_snoc])
          have HM := Lib.hid (show many (l.take (k + 1)) = many (l.take k) + (if 0 < (m : Int) then 1 else 0) by rw [HS.out, many_snoc])
          have n0 : decide ((m : Int) < 0) = false := by simp
          have n1 : decide ((15 : Int) < (m : Int)) = false := by simp; omega
          clear hr HS hok HX
          by_cases h0 : 0 < (m : Int)
          · have HP := Lib.hid (kr_pos (m := m) rfl h0 hm15)
            have hkl := kr_le m
            go_wp2
            go_round
            case rel => exact ⟨k + 1, by omega, HO.out, by go_num, by rw [HP.out, HK.out, IntWalk.wrap64_in _ ⟨by omega, by omega⟩]; go_num, by rw [HM.out, if_pos h0]; go_num⟩
            case measure => simp [intOf]; omega
          · go_wp2
            go_round
            case rel => exact ⟨k + 1, by omega, HO.out, by go_num, by rw [HK.out]; unfold kr; rw [if_neg h0]; rfl, by rw [HM.out, if_neg h0]; rfl⟩
            case measure => simp [intOf]; omega
        · have hc1 : chk l = 1 := by
            unfold chk; split
            · rfl
            · rw [if_pos]
              apply Classical.byContradiction
              intro h
              have h2 : okLens l = true := by simpa using h
              have := List.all_eq_true.1 h2 x HX.out
              simp only [okLen, decide_eq_true_eq] at this
              exact hr this
          have HC1 := Lib.hid hc1
          clear hc1 HS hok HX hlen
          by_cases hn : x < 0
          · go_wp2
            go_ret
            rw [HC1.out]
            exact ⟨rfl, rfl⟩
          · have n0 : decide (x < 0) = false := by simp; omega
            have n1 : 15 < x := by omega
            go_wp2
            go_ret
            rw [HC1.out]
            exact ⟨rfl, rfl⟩
      · obtain rfl : k = len := by omega
        rw [List.take_of_length_le (by omega)] at hok hks hms ⊢
        have HC := Lib.hid (show chk l = (if 32768 < ksum l then 10 else if ksum l < 32768 ∧ 0 < many l ∧ ¬ (many l = 1 ∧ ksum l = 16384) then 11 else 0) by
          unfold chk; rw [if_neg (by omega), if_neg (by simp [hok])])
        generalize ksum l = S at *
        generalize many l = M at *
        clear hl hok hlen
        obtain ⟨s, hs⟩ : ∃ s : Int, s = (S : Int) := ⟨_, rfl⟩
        obtain ⟨m, hmm⟩ : ∃ m : Int, m = (M : Int) := ⟨_, rfl⟩
        have HC2 := Lib.hid (show (if 32768 < S then (10 : Int) else if S < 32768 ∧ 0 < M ∧ ¬ (M = 1 ∧ S = 16384) then 11 else 0) = (if 32768 < s then 10 else if s < 32768 ∧ 0 < m ∧ ¬ (m = 1 ∧ s = 16384) then 11 else 0) by
          have e1 : (32768 < S) = ((32768 : Int) < s) := by rw [hs]; apply propext; omega
          have e2 : (S < 32768 ∧ 0 < M ∧ ¬ (M = 1 ∧ S = 16384)) = (s < 32768 ∧ 0 < m ∧ ¬ (m = 1 ∧ s = 16384)) := by rw [hs, hmm]; apply propext; omega
          simp only [e1, e2])
        rw [← hs, ← hmm]
        clear hs hmm hks hms
        by_cases c1 : 32768 < s
        · go_wp2
          all_goals
            go_ret
            rw [HC.out, HC2.out, if_pos c1]
            exact ⟨rfl, rfl⟩
        · have C1 := Lib.hid c1
          have d1 : decide ((32768 : Int) < s) = false := by simp; omega
          clear c1
          by_cases c2 : s < 32768
          · have C2 := Lib.hid c2
            have d2 : decide (s < 32768) = true := by simp; omega
            clear c2
            by_cases c3 : 0 < m
            · have C3 := Lib.hid c3
              have d3 : decide (0 < m) = true := by simp; omega
              clear c3
              by_cases c4 : m = 1
              · have e4 : (m == 1) = true := by simp; omega
                have C4 := Lib.hid c4
                clear c4
                by_cases c5 : s = 16384
                · have e5 : (s == 16384) = true := by simp; omega
                  have C5 := Lib.hid c5
                  clear c5
                  go_wp2
                  go_ret
                  rw [HC.out, HC2.out, if_neg (by have := C1.out; omega), if_neg (by have := C4.out; have := C5.out; omega)]
                  exact ⟨rfl, rfl⟩
                · have e5 : (s == 16384) = false := by simp; omega
                  have C5 := Lib.hid c5
                  clear c5
                  go_wp2
                  go_ret
                  rw [HC.out, HC2.out, if_neg (by have := C1.out; omega), if_pos (by have := C2.out; have := C3.out; have := C5.out; omega)]
                  exact ⟨rfl, rfl⟩
              · have e4 : (m == 1) = false := by simp; omega
                have C4 := Lib.hid c4
                clear c4
                go_wp2
                go_ret
                rw [HC.out, HC2.out, if_neg (by have := C1.out; omega), if_pos (by have := C2.out; have := C3.out; have := C4.out; omega)]
                exact ⟨rfl, rfl⟩
            · have e4 : (m == 1) = false := by simp; omega
              have d3 : decide (0 < m) = false := by simp; omega
              have C3 := Lib.hid c3
              clear c3
              go_wp2
              go_ret
              rw [HC.out, HC2.out, if_neg (by have := C1.out; omega), if_neg (by have := C3.out; omega)]
              exact ⟨rfl, rfl⟩
          · have C2 := Lib.hid c2
            have d2 : decide (s < 32768) = false := by simp; omega
            clear c2
            by_cases c4 : m = 1
            · have e4 : (m == 1) = true := by simp; omega
              have C4 := Lib.hid c4
              have e5 : (s == 16384) = false := by have := C2.out; simp; omega
              clear c4
              go_wp2
              go_ret
              rw [HC.out, HC2.out, if_neg (by have := C1.out; omega), if_neg (by have := C2.out; omega)]
              exact ⟨rfl, rfl⟩
            · have e4 : (m == 1) = false := by simp; omega
              have C4 := Lib.hid c4
              clear c4
              go_wp2
              go_ret
              rw [HC.out, HC2.out, if_neg (by have := C1.out; omega), if_neg (by have := C2.out; omega)]
              exact ⟨rfl, rfl⟩
end Go.Proofs.YtobmghjpfkdooaaDoor
/- The contracts of the document's answer to Check, and of the test that two lists are the same. -/
namespace Go.Proofs.YtobmghjpfkdooaaDoor
open Go Go.RowKit

theorem kr_shl {m : Nat} (h0 : 0 < (m : Int)) : (2 : Int) ^ (15 - m) = (kr m : Nat) := by
  unfold kr; rw [if_pos h0]; simp

theorem ref_sum {w : World} {A : Option Addr} {len cap : Nat} {l : List Int} (hl : Ints w A len l) (h288 : len ≤ 288) (hok : okLens l = true) :
    Calls Tryd.prog 48 #[.slice A len cap] w fun e w' => e = .returned (.tuple #[.int .i64 (ksum l), .int .i64 (many l), .int .i64 (top l)]) ∧ w = w' := by
  have hlen := hl.1
  go_enter Tryd.func48, Tryd.ntmps48
  go_wp2
  go_loop [5, 6, 7, 8] (fun sm wd tp i => ∃ k : Nat, k ≤ len ∧ i = .int .i64 k ∧ sm = .int .i64 (ksum (l.take k)) ∧ wd = .int .i64 (many (l.take k)) ∧ tp = .int .i64 (top (l.take k))) (fun _ _ _ i => len - (intOf i).toNat)
  case atStart => exact ⟨0, Nat.zero_le _, rfl, rfl, rfl, rfl⟩
  case round =>
    obtain ⟨k, hk, rfl, rfl, rfl, rfl⟩ := hrel
    have hks := ksum_le (l.take k)
    have hms := many_le (l.take k)
    rw [List.length_take] at hks hms
    by_cases hlt : k < len
    · obtain ⟨g, o, rfl, hg, hc⟩ := hl.at hlt
      have hts := lens_take (l := l) (k := k) (by omega)
      have HS := Lib.hid hts
      have hx := List.all_eq_true.1 hok _ (List.getElem_mem (show k < l.length by omega))
      generalize l[k]'(by omega) = x at *
      clear hl hts hok
      simp only [okLen, decide_eq_true_eq] at hx
      obtain ⟨m, rfl⟩ := Int.eq_ofNat_of_zero_le hx.1
      have hm15 : m ≤ 15 := by omega
      have HK := Lib.hid (show ksum (l.take (k + 1)) = ksum (l.take k) + kr m by rw [HS.out, ksum_snoc])
      have HM := Lib.hid (show many (l.take (k + 1)) = many (l.take k) + (if 0 < (m : Int) then 1 else 0) by rw [HS.out, many_snoc])
      have HT := Lib.hid (show top (l.take (k + 1)) = if 0 < (m : Int) then max (top (l.take k)) m else top (l.take k) by rw [HS.out, top_snoc])
      clear HS hx
      generalize ksum (l.take k) = S at *
      generalize many (l.take k) = M at *
      generalize top (l.take k) = T at *
      by_cases h0 : 0 < (m : Int)
      · have HP := Lib.hid (kr_shl h0)
        have hkl := kr_le m
        have e15 : IntKind.i64.wrap (15 - (m : Int)) = ((15 - m : Nat) : Int) := by rw [IntKind.wrap_i64]; omega
        go_wp2
        all_goals
          go_round
          case rel => exact ⟨k + 1, by omega, by go_num, by rw [HK.out, HP.out, IntWalk.wrap64_in ((kr (m : Int) : Nat) : Int) ⟨by omega, by omega⟩, IntWalk.wrap64_in _ ⟨by omega, by omega⟩]; go_num, by rw [HM.out, if_pos h0]; go_num, by rw [HT.out, if_pos h0]; congr 1; split <;> omega⟩
          case measure => simp [intOf]; omega
      · go_wp2
        go_round
        case rel => exact ⟨k + 1, by omega, by go_num, by rw [HK.out]; unfold kr; rw [if_neg h0]; rfl, by rw [HM.out, if_neg h0]; rfl, by rw [HT.out, if_neg h0]⟩
        case measure => simp [intOf]; omega
    · obtain rfl : k = len := by omega
      rw [List.take_of_length_le (by omega)] at hks hms ⊢
      clear hl hok hlen
      go_wp2
      go_ret3
      exact ⟨rfl, rfl⟩

set_option maxRecDepth 100000 in
theorem ref_check {w : World} {A : Option Addr} {len cap : Nat} {l : List Int} (hl : Ints w A len l) (hm : len ≤ maxLen) :
    Calls Tryd.prog 54 #[.slice A len cap] w fun e w' => e = .returned (.int .i64 (chk l)) ∧ w = w' := by
  unfold maxLen at hm
  have hlen := hl.1
  by_cases h288 : 288 < len
  · have hc : chk l = 1 := by unfold chk; rw [if_pos (by omega)]
    rw [hc]
    clear hc hl hlen
    go_enter Tryd.func54, Tryd.ntmps54
    go_wp2
    go_ret
    exact ⟨rfl, rfl⟩
  · have hsum := fun hok => ref_sum (cap := cap) hl (by omega) hok
    have HSUM := Lib.hid hsum
    clear hsum
    go_enter Tryd.func54, Tryd.ntmps54
    go_wp2
    go_loop [3] (fun i => ∃ k : Nat, k ≤ len ∧ okLens (l.take k) = true ∧ i = .int .i64 k) (fun i => len - (intOf i).toNat)
    case atStart => exact ⟨0, Nat.zero_le _, rfl, rfl⟩
    case round =>
      obtain ⟨k, hk, hok, rfl⟩ := hrel
      by_cases hlt : k < len
      · obtain ⟨g, o, rfl, hg, hc⟩ := hl.at hlt
        have hts := lens_take (l := l) (k := k) (by omega)
        have HS := Lib.hid hts
        have HX := Lib.hid (show l[k]'(by omega) ∈ l from List.getElem_mem _)
        generalize l[k]'(by omega) = x at *
        clear hl hts
        by_cases hr : 0 ≤ x ∧ x ≤ 15
        · have HO := Lib.hid (show okLens (l.take (k + 1)) = true by rw [HS.out, okLens_snoc, hok]; simp [okLen]; omega)
          have n0 : decide (x < 0) = false := by simp; omega
          have n1 : decide ((15 : Int) < x) = false := by simp; omega
          clear hr HS hok HX
          go_wp2
          go_round
          case rel => exact ⟨k + 1, by omega, HO.out, by go_num⟩
          case measure => simp [intOf]; omega
        · have hc1 : chk l = 1 := by
            unfold chk; split
            · rfl
            · rw [if_pos]
              apply Classical.byContradiction
              intro h
              have h2 : okLens l = true := by simpa using h
              have := List.all_eq_true.1 h2 x HX.out
              simp only [okLen, decide_eq_true_eq] at this
              exact hr this
          have HC1 := Lib.hid hc1
          clear hc1 HS hok HX hlen
          by_cases hn : x < 0
          · go_wp2
            go_ret
            rw [HC1.out]
            exact ⟨rfl, rfl⟩
          · have n0 : decide (x < 0) = false := by simp; omega
            have n1 : 15 < x := by omega
            go_wp2
            go_ret
            rw [HC1.out]
            exact ⟨rfl, rfl⟩
      · obtain rfl : k = len := by omega
        rw [List.take_of_length_le (by omega)] at hok
        have HC := Lib.hid (show chk l = (if 32768 < ksum l then 10 else if ksum l < 32768 ∧ 0 < many l ∧ ¬ (many l = 1 ∧ top l = 1) then 11 else 0) by
          rw [chk_ref, if_neg (by omega), if_neg (by simp [hok])])
        have hs := HSUM.out hok
        generalize ksum l = S at *
        generalize many l = M at *
        generalize top l = T at *
        clear hl hok hlen HSUM
        obtain ⟨s, hS⟩ : ∃ s : Int, s = (S : Int) := ⟨_, rfl⟩
        obtain ⟨m, hM⟩ : ∃ m : Int, m = (M : Int) := ⟨_, rfl⟩
        have HC2 := Lib.hid (show (if 32768 < S then (10 : Int) else if S < 32768 ∧ 0 < M ∧ ¬ (M = 1 ∧ T = 1) then 11 else 0) = (if 32768 < s then 10 else if s < 32768 ∧ 0 < m ∧ ¬ (m = 1 ∧ T = 1) then 11 else 0) by
          have e1 : (32768 < S) = ((32768 : Int) < s) := by rw [hS]; apply propext; omega
          have e2 : (S < 32768 ∧ 0 < M ∧ ¬ (M = 1 ∧ T = 1)) = (s < 32768 ∧ 0 < m ∧ ¬ (m = 1 ∧ T = 1)) := by rw [hS, hM]; apply propext; omega
          simp only [e1, e2])
        rw [← hS, ← hM] at hs
        clear hS hM
        have HS := Lib.hid hs
        clear hs
        by_cases c1 : 32768 < s
        · go_wp2_with fail
          refine HS.out.mono ?_
          rintro e w' ⟨rfl, rfl⟩
          go_wp2
          go_ret
          rw [HC.out, HC2.out, if_pos c1]
          exact ⟨rfl, rfl⟩
        · have C1 := Lib.hid c1
          have d1 : decide ((32768 : Int) < s) = false := by simp; omega
          clear c1
          have fin : ∀ v : Int, v = (if s < 32768 ∧ 0 < m ∧ ¬ (m = 1 ∧ T = 1) then 11 else 0) → Ending.returned (.int .i64 v) = .returned (.int .i64 (chk l)) := by
            intro v hv; rw [HC.out, HC2.out, if_neg (by have := C1.out; omega), hv]
          have FIN := Lib.hid fin
          clear fin HC HC2
          by_cases c2 : s < 32768
          · have C2 := Lib.hid c2
            have d2 : decide (s < 32768) = true := by simp; omega
            clear c2
            by_cases c3 : 0 < m
            · have C3 := Lib.hid c3
              have d3 : decide (0 < m) = true := by simp; omega
              clear c3
              by_cases c4 : m = 1
              · have e4 : (m == 1) = true := by simp; omega
                have C4 := Lib.hid c4
                clear c4
                by_cases c5 : T = 1
                · have e5 : (T == 1) = true := by simp; omega
                  have C5 := Lib.hid c5
                  clear c5
                  go_wp2_with fail
                  refine HS.out.mono ?_
                  rintro e w' ⟨rfl, rfl⟩
                  go_wp2
                  go_ret
                  exact ⟨FIN.out _ (by rw [if_neg (by have := C4.out; have := C5.out; omega)]), rfl⟩
                · have e5 : (T == 1) = false := by simp; omega
                  have C5 := Lib.hid c5
                  clear c5
                  go_wp2_with fail
                  refine HS.out.mono ?_
                  rintro e w' ⟨rfl, rfl⟩
                  go_wp2
                  go_ret
                  exact ⟨FIN.out _ (by rw [if_pos (by have := C2.out; have := C3.out; have := C5.out; omega)]), rfl⟩
              · have e4 : (m == 1) = false := by simp; omega
                have C4 := Lib.hid c4
                clear c4
                go_wp2_with fail
                refine HS.out.mono ?_
                rintro e w' ⟨rfl, rfl⟩
                go_wp2
                go_ret
                exact ⟨FIN.out _ (by rw [if_pos (by have := C2.out; have := C3.out; have := C4.out; omega)]), rfl⟩
            · have d3 : decide (0 < m) = false := by simp; omega
              have C3 := Lib.hid c3
              clear c3
              go_wp2_with fail
              refine HS.out.mono ?_
              rintro e w' ⟨rfl, rfl⟩
              go_wp2
              go_ret
              exact ⟨FIN.out _ (by rw [if_neg (by have := C3.out; omega)]), rfl⟩
          · have C2 := Lib.hid c2
            have d2 : decide (s < 32768) = false := by simp; omega
            clear c2
            go_wp2_with fail
            refine HS.out.mono ?_
            rintro e w' ⟨rfl, rfl⟩
            go_wp2
            go_ret
            exact ⟨FIN.out _ (by rw [if_neg (by have := C2.out; omega)]), rfl⟩
end Go.Proofs.YtobmghjpfkdooaaDoor
/- Plain laws of the order of codes, and of the codes that lengths have. -/
namespace Go.Proofs.YtobmghjpfkdooaaDoor

/-- The symbols below k that have this length. -/
def inLen (l : List Int) (n k : Nat) : List Nat := (List.range k).filter fun s => decide (l.getD s 0 = (n : Int))
/-- The symbols with lengths from 1 to n, in the order of their codes. -/
def ordTo (l : List Int) : Nat → List Nat
  | 0 => []
  | n + 1 => ordTo l n ++ inLen l (n + 1) l.length
def ord (l : List Int) : List Nat := ordTo l 15
/-- Lengths to n are done, and of the next one the symbols below k. -/
def pre (l : List Int) (n k : Nat) : List Nat := ordTo l n ++ inLen l (n + 1) k
def stp (l : List Int) (st : List Int × Nat) (s : Nat) : List Int × Nat := (st.1.set s ((st.2 / 2 ^ (15 - (l.getD s 0).toNat) : Nat) : Int), st.2 + kr (l.getD s 0))
def cst (l : List Int) (p : List Nat) : List Int × Nat := p.foldl (stp l) (List.replicate l.length 0, 0)
/-- The codes when these symbols have got theirs. -/
def cds (l : List Int) (p : List Nat) : List Int := (cst l p).1
/-- How much these symbols take. -/
def kp (l : List Int) (p : List Nat) : Nat := (cst l p).2
def codes (l : List Int) : List Int := cds l (ord l)
def was (l : List Int) (p : List Nat) : Nat := match p.getLast? with
  | none => 0
  | some s => (l.getD s 0).toNat

theorem inLen_succ (l : List Int) (n k : Nat) : inLen l n (k + 1) = if l.getD k 0 = (n : Int) then inLen l n k ++ [k] else inLen l n k := by
  unfold inLen; rw [List.range_succ, List.filter_append]
  by_cases h : l.getD k 0 = (n : Int)
  · rw [if_pos h]; simp only [List.filter_cons, List.filter_nil]; rw [if_pos (by simpa using h)]
  · rw [if_neg h]; simp only [List.filter_cons, List.filter_nil]; rw [if_neg (by simpa using h)]; simp
theorem inLen_zero (l : List Int) (n : Nat) : inLen l n 0 = [] := rfl
theorem pre_zero (l : List Int) (n : Nat) : pre l n 0 = ordTo l n := by simp [pre, inLen_zero]
theorem pre_full (l : List Int) (n : Nat) : pre l n l.length = ordTo l (n + 1) := rfl
theorem pre_succ (l : List Int) (n k : Nat) : pre l n (k + 1) = if l.getD k 0 = ((n + 1 : Nat) : Int) then pre l n k ++ [k] else pre l n k := by
  unfold pre; rw [inLen_succ]; split <;> simp
theorem mem_inLen {l : List Int} {n k s : Nat} : s ∈ inLen l n k ↔ s < k ∧ l.getD s 0 = (n : Int) := by
  unfold inLen; rw [List.mem_filter, List.mem_range]; simp
theorem mem_ordTo {l : List Int} {s : Nat} : ∀ {n : Nat}, s ∈ ordTo l n ↔ s < l.length ∧ 1 ≤ l.getD s 0 ∧ l.getD s 0 ≤ (n : Int)
  | 0 => by simp [ordTo]; intro _ _; omega
  | n + 1 => by
    rw [ordTo, List.mem_append, mem_ordTo, mem_inLen]
    constructor
    · rintro (⟨h1, h2, h3⟩ | ⟨h1, h2⟩)
      · exact ⟨h1, h2, by omega⟩
      · exact ⟨h1, by omega, by omega⟩
    · rintro ⟨h1, h2, h3⟩
      by_cases h : l.getD s 0 ≤ (n : Int)
      · exact .inl ⟨h1, h2, h⟩
      · exact .inr ⟨h1, by omega⟩
theorem pre_prefix (l : List Int) (n k : Nat) (hk : k ≤ l.length) : ∃ r, ordTo l (n + 1) = pre l n k ++ r := by
  rw [← pre_full]
  have : ∀ d, ∃ r, pre l n (k + d) = pre l n k ++ r := by
    intro d
    induction d with
    | zero => exact ⟨[], by simp⟩
    | succ d ih =>
      obtain ⟨r, hr⟩ := ih
      rw [← Nat.add_assoc, pre_succ]
      split
      · exact ⟨r ++ [k + d], by rw [hr, List.append_assoc]⟩
      · exact ⟨r, hr⟩
  obtain ⟨r, hr⟩ := this (l.length - k)
  exact ⟨r, by rw [← hr]; congr 1; omega⟩
theorem ordTo_prefix (l : List Int) (n : Nat) : ∀ d, ∃ r, ordTo l (n + d) = ordTo l n ++ r
  | 0 => ⟨[], by simp⟩
  | d + 1 => by
    obtain ⟨r, hr⟩ := ordTo_prefix l n d
    exact ⟨r ++ inLen l (n + d + 1) l.length, by rw [← Nat.add_assoc, ordTo, hr, List.append_assoc]⟩
theorem pre_ord (l : List Int) (n k : Nat) (hk : k ≤ l.length) (hn : n < 15) : ∃ r, ord l = pre l n k ++ r := by
  obtain ⟨r, hr⟩ := pre_prefix l n k hk
  obtain ⟨r2, hr2⟩ := ordTo_prefix l (n + 1) (15 - (n + 1))
  refine ⟨r ++ r2, ?_⟩
  rw [← List.append_assoc, ← hr, ← hr2, ord]; congr 1; omega
theorem nodup_inLen (l : List Int) (n k : Nat) : (inLen l n k).Nodup := List.Pairwise.filter _ List.nodup_range
theorem nodup_ordTo (l : List Int) : ∀ n, (ordTo l n).Nodup
  | 0 => List.nodup_nil
  | n + 1 => by
    rw [ordTo, List.nodup_append]
    refine ⟨nodup_ordTo l n, nodup_inLen _ _ _, fun a ha b hb e => ?_⟩
    subst e
    have h1 := (mem_ordTo.1 ha).2.2
    have h2 := (mem_inLen.1 hb).2
    omega
theorem sorted_ordTo (l : List Int) : ∀ n, (ordTo l n).Pairwise fun a b => l.getD a 0 ≤ l.getD b 0
  | 0 => List.Pairwise.nil
  | n + 1 => by
    rw [ordTo, List.pairwise_append]
    refine ⟨sorted_ordTo l n, ?_, fun a ha b hb => ?_⟩
    · refine List.Pairwise.imp_of_mem (R := fun _ _ => True) ?_ (List.pairwise_of_forall (fun _ _ => trivial))
      intro a b ha hb _
      rw [(mem_inLen.1 ha).2, (mem_inLen.1 hb).2]; exact Int.le_refl _
    · have h1 := (mem_ordTo.1 ha).2.2
      have h2 := (mem_inLen.1 hb).2
      omega
theorem ord_len {l : List Int} {s : Nat} (h : s ∈ ord l) : s < l.length ∧ 1 ≤ l.getD s 0 ∧ l.getD s 0 ≤ 15 := mem_ordTo.1 h

theorem cst_snoc (l : List Int) (p : List Nat) (s : Nat) : cst l (p ++ [s]) = stp l (cst l p) s := by unfold cst; rw [List.foldl_append]; rfl
theorem cds_snoc (l : List Int) (p : List Nat) (s : Nat) : cds l (p ++ [s]) = (cds l p).set s ((kp l p / 2 ^ (15 - (l.getD s 0).toNat) : Nat) : Int) := by
  unfold cds; rw [cst_snoc]; rfl
theorem kp_snoc (l : List Int) (p : List Nat) (s : Nat) : kp l (p ++ [s]) = kp l p + kr (l.getD s 0) := by
  unfold kp; rw [cst_snoc]; rfl
theorem length_cds (l : List Int) (p : List Nat) : (cds l p).length = l.length := by
  have : ∀ st : List Int × Nat, st.1.length = l.length → (p.foldl (stp l) st).1.length = l.length := by
    induction p with
    | nil => intro st h; exact h
    | cons s p ih => intro st h; exact ih _ (by simp [stp, h])
  exact this _ (by simp)
theorem kp_eq (l : List Int) (p : List Nat) : kp l p = (p.map fun s => kr (l.getD s 0)).sum := by
  have : ∀ st : List Int × Nat, (p.foldl (stp l) st).2 = st.2 + (p.map fun s => kr (l.getD s 0)).sum := by
    induction p with
    | nil => intro st; simp
    | cons s p ih => intro st; simp only [List.foldl_cons, ih, List.map_cons, List.sum_cons]; unfold stp; simp only; omega
  have h := this (List.replicate l.length 0, 0)
  simpa [kp, cst] using h
theorem was_snoc (l : List Int) (p : List Nat) (s : Nat) : was l (p ++ [s]) = (l.getD s 0).toNat := by simp [was]

/-- Nothing is counted twice. -/
theorem sum_le_of_nodup (f : Nat → Nat) : ∀ (n : Nat) (p : List Nat), p.Nodup → (∀ s ∈ p, s < n) → (p.map f).sum ≤ ((List.range n).map f).sum
  | 0, p, _, h => by
    cases p with
    | nil => simp
    | cons s p => have := h s (by simp); omega
  | n + 1, p, hn, h => by
    have ih := sum_le_of_nodup f n (p.filter fun s => decide (s ≠ n)) (List.Pairwise.filter _ hn) (fun s hs => by
      obtain ⟨h1, h2⟩ := List.mem_filter.1 hs
      have := h s h1
      have h3 : s ≠ n := by simpa using h2
      omega)
    rw [List.range_succ, List.map_append, List.sum_append]
    have key : (p.map f).sum ≤ ((p.filter fun s => decide (s ≠ n)).map f).sum + f n := by
      clear ih h
      induction p with
      | nil => simp
      | cons s p ih =>
        have hd := List.nodup_cons.1 hn
        have := ih hd.2
        by_cases e : s = n
        · subst e
          have : p.filter (fun t => decide (t ≠ s)) = p := List.filter_eq_self.2 (fun t ht => by simp; rintro rfl; exact hd.1 ht)
          rw [List.filter_cons, if_neg (by simp), this]
          simp only [List.map_cons, List.sum_cons]; omega
        · rw [List.filter_cons, if_pos (by simpa using e)]
          simp only [List.map_cons, List.sum_cons]; omega
    simp only [List.map_cons, List.map_nil, List.sum_cons, List.sum_nil, Nat.add_zero]
    omega
theorem range_sum (l : List Int) : ((List.range l.length).map fun s => kr (l.getD s 0)).sum = ksum l := by
  unfold ksum
  congr 1
  apply List.ext_getElem
  · simp
  · intro i h1 h2
    simp only [List.getElem_map, List.getElem_range]
    rw [List.getD_eq_getElem?_getD, List.getElem?_eq_getElem (by simpa using h2)]; rfl
theorem kp_le {l : List Int} {p r : List Nat} (h : ord l = p ++ r) : kp l p ≤ ksum l := by
  rw [kp_eq, ← range_sum]
  have hn : p.Nodup := (List.nodup_append.1 (h ▸ nodup_ordTo l 15 : (p ++ r).Nodup)).1
  exact sum_le_of_nodup _ _ _ hn (fun s hs => (ord_len (h ▸ List.mem_append_left r hs)).1)
theorem next_len {l : List Int} {p r : List Nat} {s : Nat} (h : ord l = p ++ s :: r) : was l p ≤ (l.getD s 0).toNat := by
  unfold was
  cases e : p.getLast? with
  | none => exact Nat.zero_le _
  | some t =>
    have ht : t ∈ p := List.mem_of_getLast? e
    have hs := (List.pairwise_append.1 (h ▸ sorted_ordTo l 15 : (p ++ s :: r).Pairwise fun a b => l.getD a 0 ≤ l.getD b 0)).2.2 t ht s (by simp)
    show (l.getD t 0).toNat ≤ _
    omega
/-- What the symbols take is so many times what the last of them takes. -/
theorem kp_whole {l : List Int} : ∀ {p r : List Nat}, ord l = p ++ r → ∃ c, kp l p = c * 2 ^ (15 - was l p) := by
  intro p
  induction h : p.length generalizing p with
  | zero =>
    intro r _
    have : p = [] := List.eq_nil_of_length_eq_zero h
    subst this
    exact ⟨0, by simp [kp, cst]⟩
  | succ n ih =>
    intro r hr
    rcases List.eq_nil_or_concat p with e | ⟨q, s, e⟩
    · subst e; simp at h
    · subst e
      rw [List.concat_eq_append] at hr h ⊢
      rw [List.append_assoc, List.singleton_append] at hr
      obtain ⟨c, hc⟩ := ih (p := q) (by simp at h; exact h) hr
      have hl := next_len hr
      have hs := ord_len (s := s) (l := l) (by rw [hr]; simp)
      rw [was_snoc, kp_snoc, hc]
      refine ⟨c * 2 ^ ((l.getD s 0).toNat - was l q) + 1, ?_⟩
      have e1 : 15 - was l q = ((l.getD s 0).toNat - was l q) + (15 - (l.getD s 0).toNat) := by omega
      have e2 : kr (l.getD s 0) = 2 ^ (15 - (l.getD s 0).toNat) := by unfold kr; rw [if_pos (by omega)]
      rw [e2, e1, Nat.add_mul, Nat.mul_assoc, ← Nat.pow_add, Nat.one_mul]
/-- The next code: the previous one and 1, shifted. -/
theorem next_code {l : List Int} {p r : List Nat} {s : Nat} (h : ord l = p ++ s :: r) :
    kp l p / 2 ^ (15 - was l p) * 2 ^ ((l.getD s 0).toNat - was l p) = kp l p / 2 ^ (15 - (l.getD s 0).toNat) := by
  obtain ⟨c, hc⟩ := kp_whole h
  have hl := next_len h
  have hs := ord_len (s := s) (l := l) (by rw [h]; simp)
  rw [hc, Nat.mul_div_cancel _ (Nat.two_pow_pos _)]
  have e1 : 15 - was l p = ((l.getD s 0).toNat - was l p) + (15 - (l.getD s 0).toNat) := by omega
  rw [e1, Nat.pow_add, ← Nat.mul_assoc, Nat.mul_div_cancel _ (Nat.two_pow_pos _)]
/-- Behind it: one more. -/
theorem next_more {l : List Int} {p r : List Nat} {s : Nat} (h : ord l = p ++ s :: r) :
    kp l (p ++ [s]) / 2 ^ (15 - was l (p ++ [s])) = kp l p / 2 ^ (15 - (l.getD s 0).toNat) + 1 := by
  have hs := ord_len (s := s) (l := l) (by rw [h]; simp)
  have e2 : kr (l.getD s 0) = 2 ^ (15 - (l.getD s 0).toNat) := by unfold kr; rw [if_pos (by omega)]
  rw [was_snoc, kp_snoc, e2, Nat.add_div_right _ (Nat.two_pow_pos _)]
theorem code_lt {l : List Int} {p r : List Nat} {s : Nat} (h : ord l = p ++ s :: r) (hk : ksum l ≤ 32768) : kp l p / 2 ^ (15 - (l.getD s 0).toNat) < 2 ^ (l.getD s 0).toNat := by
  have hs := ord_len (s := s) (l := l) (by rw [h]; simp)
  have e2 : kr (l.getD s 0) = 2 ^ (15 - (l.getD s 0).toNat) := by unfold kr; rw [if_pos (by omega)]
  have hle := kp_le (l := l) (p := p ++ [s]) (r := r) (by rw [h]; simp)
  rw [kp_snoc, e2] at hle
  have hp := Nat.two_pow_pos (15 - (l.getD s 0).toNat)
  rw [Nat.div_lt_iff_lt_mul hp, ← Nat.pow_add]
  rw [show (l.getD s 0).toNat + (15 - (l.getD s 0).toNat) = 15 from by omega]
  omega
end Go.Proofs.YtobmghjpfkdooaaDoor
