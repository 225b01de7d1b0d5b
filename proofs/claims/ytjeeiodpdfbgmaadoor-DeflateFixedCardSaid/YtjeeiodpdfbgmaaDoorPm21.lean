/- Several texts in one: Codes, CheckB, CodesW, RfC, EfA, EfC, EfD (what Best, Dynamic, Fixed reach of them). -/
import Derived.Test.YtjeeiodpdfbgmaaDoorPm01
import Derived.Test.YtjeeiodpdfbgmaaDoorPm02
import Derived.Test.YtjeeiodpdfbgmaaDoorPm03
import Derived.Test.YtjeeiodpdfbgmaaDoorPm04
import Derived.Test.YtjeeiodpdfbgmaaDoorPm05
import Derived.Test.YtjeeiodpdfbgmaaDoorPm06
import Derived.Test.YtjeeiodpdfbgmaaDoorPm08
import Derived.Test.YtjeeiodpdfbgmaaDoorPm09
import Derived.Test.YtjeeiodpdfbgmaaDoorPm10
import Derived.Test.YtjeeiodpdfbgmaaDoorPm11
import Derived.Test.YtjeeiodpdfbgmaaDoorPm12
import Derived.Below
import Derived.BigQuiet
import Derived.BigRegion
import Derived.Deep.AppendLies
import Derived.Deep.CutRange
import Derived.Deep.DeepCutAuto
import Derived.Deep.Draws
import Derived.Deep.LoopGhost
import Derived.Deep.QuietTactic
import Derived.Deep.RegionLaw
import Derived.Deep.RegionWith
import Derived.Deep.Slices
import Derived.Handy
import Derived.Laws.BitsAllLaws
import Derived.Laws.BitsLemmas
import Derived.Laws.CopyOwn
import Derived.Laws.IdiomStrings
import Derived.Laws.OwnMore
import Derived.Laws.Rows
import Derived.Laws.Strings2
import Derived.Laws.Strings3
import Derived.Laws.StructEq
import Derived.Lib.AppendStr
import Derived.Lib.Hide
import Derived.Lib.Strings
import Derived.LoopIn
import Derived.LoopNIn
import Derived.OneCell
import Derived.OpenShut
import Derived.Outline
import Derived.OwnWalk
import Derived.OwnWalkIn
import Derived.ProofKit
import Derived.RangeFuncBound
import Derived.RangeFuncCalls
import Derived.RangeFuncLeaves
import Derived.RangeFuncNested
import Derived.RegionTactic
import Derived.ScopeJumps
import Derived.Shelf.Abstract
import Derived.Shelf.RegionOpen
import Derived.Shelf.SlSortCmp.QuietGrown
import Derived.StillTailTactics
import Derived.TacticsInMore
import Derived.Test.YtjeeiodpdfbgmaaDoorChecked
import Derived.WalkKit
import Derived.WalkLawsBesides
import Derived.WalkMore
import Derived.WalkSpells
set_option maxRecDepth 100000
set_option linter.unusedVariables false
namespace Go.Proofs.YtjeeiodpdfbgmaaDoor
set_option maxRecDepth 100000
theorem top_snoc (l : List Int) (x : Int) : top (l ++ [x]) = if 0 < x then max (top l) x else top l := by
  unfold top; rw [List.foldl_append]; rfl
/-- The document's test is the program's. -/
theorem chk_ref (l : List Int) : chk l = (if 288 < l.length then 1 else if okLens l = false then 1 else if 32768 < ksum l then 10 else
  if ksum l < 32768 ∧ 0 < many l ∧ ¬ (many l = 1 ∧ top l = 1) then 11 else 0) := by
  unfold chk
  by_cases h1 : 288 < l.length
  · rw [if_pos h1, if_pos h1]
  · rw [if_neg h1, if_neg h1]
    by_cases h2 : okLens l = false
    · rw [if_pos h2, if_pos h2]
    · rw [if_neg h2, if_neg h2]
      simp only [single_iff l (by simpa using h2)]
end Go.Proofs.YtjeeiodpdfbgmaaDoor
namespace Go.Proofs.YtjeeiodpdfbgmaaDoor
set_option maxRecDepth 100000
open Go Go.RowKit
theorem kr_shl {m : Nat} (h0 : 0 < (m : Int)) : (2 : Int) ^ (15 - m) = (kr m : Nat) := by
  unfold kr; rw [if_pos h0]; simp

theorem ref_sum {w : World} {A : Option Addr} {len cap : Nat} {l : List Int} (hl : Ints w A len l) (h288 : len ≤ 288) (hok : okLens l = true) :
    Calls Tryd.prog 91 #[.slice A len cap] w fun e w' => e = .returned (.tuple #[.int .i64 (ksum l), .int .i64 (many l), .int .i64 (top l)]) ∧ w = w' := by
  have hlen := hl.1
  go_enter Tryd.func91, Tryd.ntmps91
  go_wp2
  go_loop [5, 6, 7, 8] (fun sm wd tp i => ∃ k : Nat, k ≤ len ∧ i = .int .i64 k ∧ sm = .int .i64 (ksum (l.take k)) ∧ wd = .int .i64 (many (l.take k)) ∧ tp = .int .i64 (top (l.take k))) (fun _ _ _ i => len - (intOf i).toNat)
  case atStart => exact ⟨0, Nat.zero_le _, rfl, rfl, rfl, rfl⟩
  case round =>
    obtain ⟨k, hk, rfl, rfl, rfl, rfl⟩ := hrel
    have hks := ksum_le (l.take k)
    have hms := many_le (l.take k)
    rw [List.length_take] at hks hms
    by_cases hlt : k < len
    · obtain ⟨g, o, rfl, hg, hc⟩ := hl.at hlt
      have hts := lens_take (l := l) (k := k) (by omega)
      have HS := Lib.hid hts
      have hx := List.all_eq_true.1 hok _ (List.getElem_mem (show k < l.length by omega))
      generalize l[k]'(by omega) = x at *
      clear hl hts hok
      simp only [okLen, decide_eq_true_eq] at hx
      obtain ⟨m, rfl⟩ := Int.eq_ofNat_of_zero_le hx.1
      have hm15 : m ≤ 15 := by omega
      have HK := Lib.hid (show ksum (l.take (k + 1)) = ksum (l.take k) + kr m by rw [HS.out, ksum_snoc])
      have HM := Lib.hid (show many (l.take (k + 1)) = many (l.take k) + (if 0 < (m : Int) then 1 else 0) by rw [HS.out, many_snoc])
      have HT := Lib.hid (show top (l.take (k + 1)) = if 0 < (m : Int) then max (top (l.take k)) m else top (l.take k) by rw [HS.out, top_snoc])
      clear HS hx
      generalize ksum (l.take k) = S at *
      generalize many (l.take k) = M at *
      generalize top (l.take k) = T at *
      by_cases h0 : 0 < (m : Int)
      · have HP := Lib.hid (kr_shl h0)
        have hkl := kr_le m
        have e15 : IntKind.i64.wrap (15 - (m : Int)) = ((15 - m : Nat) : Int) := by rw [IntKind.wrap_i64]; omega
        go_wp2
        all_goals
          go_round
          case rel => exact ⟨k + 1, by omega, by go_num, by rw [HK.out, HP.out, IntWalk.wrap64_in ((kr (m : Int) : Nat) : Int) ⟨by omega, by omega⟩, IntWalk.wrap64_in _ ⟨by omega, by omega⟩]; go_num, by rw [HM.out, if_pos h0]; go_num, by rw [HT.out, if_pos h0]; congr 1; split <;> omega⟩
          case measure => simp [intOf]; omega
      · go_wp2
        go_round
        case rel => exact ⟨k + 1, by omega, by go_num, by rw [HK.out]; unfold kr; rw [if_neg h0]; rfl, by rw [HM.out, if_neg h0]; rfl, by rw [HT.out, if_neg h0]⟩
        case measure => simp [intOf]; omega
    · obtain rfl : k = len := by omega
      rw [List.take_of_length_le (by omega)] at hks hms ⊢
      clear hl hok hlen
      go_wp2
      go_ret3
      exact ⟨rfl, rfl⟩

set_option maxRecDepth 100000 in
theorem ref_check {w : World} {A : Option Addr} {len cap : Nat} {l : List Int} (hl : Ints w A len l) (hm : len ≤ maxLen) :
    Calls Tryd.prog 73 #[.slice A len cap] w fun e w' => e = .returned (.int .i64 (chk l)) ∧ w = w' := by
  unfold maxLen at hm
  have hlen := hl.1
  by_cases h288 : 288 < len
  · have hc : chk l = 1 := by unfold chk; rw [if_pos (by omega)]
    rw [hc]
    clear hc hl hlen
    go_enter Tryd.func73, Tryd.ntmps73
    go_wp2
    go_ret
    exact ⟨rfl, rfl⟩
  · have hsum := fun hok => ref_sum (cap := cap) hl (by omega) hok
    have HSUM := Lib.hid hsum
    clear hsum
    go_enter Tryd.func73, Tryd.ntmps73
    go_wp2
    go_loop [3] (fun i => ∃ k : Nat, k ≤ len ∧ okLens (l.take k) = true ∧ i = .int .i64 k) (fun i => len - (intOf i).toNat)
    case atStart => exact ⟨0, Nat.zero_le _, rfl, rfl⟩
    case round =>
      obtain ⟨k, hk, hok, rfl⟩ := hrel
      by_cases hlt : k < len
      · obtain ⟨g, o, rfl, hg, hc⟩ := hl.at hlt
        have hts := lens_take (l := l) (k := k) (by omega)
        have HS := Lib.hid hts
        have HX := Lib.hid (show l[k]'(by omega) ∈ l from List.getElem_mem _)
        generalize l[k]'(by omega) = x at *
        clear hl hts
        by_cases hr : 0 ≤ x ∧ x ≤ 15
        · have HO := Lib.hid (show okLens (l.take (k + 1)) = true by rw [HS.out, okLens_snoc, hok]; simp [okLen]; omega)
          have n0 : decide (x < 0) = false := by simp; omega
          have n1 : decide ((15 : Int) < x) = false := by simp; omega
          clear hr HS hok HX
          go_wp2
          go_round
          case rel => exact ⟨k + 1, by omega, HO.out, by go_num⟩
          case measure => simp [intOf]; omega
        · have hc1 : chk l = 1 := by
            unfold chk; split
            · rfl
            · rw [if_pos]
              apply Classical.byContradiction
              intro h
              have h2 : okLens l = true := by simpa using h
              have := List.all_eq_true.1 h2 x HX.out
              simp only [okLen, decide_eq_true_eq] at this
              exact hr this
          have HC1 := Lib.hid hc1
          clear hc1 HS hok HX hlen
          by_cases hn : x < 0
          · go_wp2
            go_ret
            rw [HC1.out]
            exact ⟨rfl, rfl⟩
          · have n0 : decide (x < 0) = false := by simp; omega
            have n1 : 15 < x := by omega
            go_wp2
            go_ret
            rw [HC1.out]
            exact ⟨rfl, rfl⟩
      · obtain rfl : k = len := by omega
        rw [List.take_of_length_le (by omega)] at hok
        have HC := Lib.hid (show chk l = (if 32768 < ksum l then 10 else if ksum l < 32768 ∧ 0 < many l ∧ ¬ (many l = 1 ∧ top l = 1) then 11 else 0) by
          rw [chk_ref, if_neg (by omega), if_neg (by simp [hok])])
        have hs := HSUM.out hok
        generalize ksum l = S at *
        generalize many l = M at *
        generalize top l = T at *
        clear hl hok hlen HSUM
        obtain ⟨s, hS⟩ : ∃ s : Int, s = (S : Int) := ⟨_, rfl⟩
        obtain ⟨m, hM⟩ : ∃ m : Int, m = (M : Int) := ⟨_, rfl⟩
        have HC2 := Lib.hid (show (if 32768 < S then (10 : Int) else if S < 32768 ∧ 0 < M ∧ ¬ (M = 1 ∧ T = 1) then 11 else 0) = (if 32768 < s then 10 else if s < 32768 ∧ 0 < m ∧ ¬ (m = 1 ∧ T = 1) then 11 else 0) by
          have e1 : (32768 < S) = ((32768 : Int) < s) := by rw [hS]; apply propext; omega
          have e2 : (S < 32768 ∧ 0 < M ∧ ¬ (M = 1 ∧ T = 1)) = (s < 32768 ∧ 0 < m ∧ ¬ (m = 1 ∧ T = 1)) := by rw [hS, hM]; apply propext; omega
          simp only [e1, e2])
        rw [← hS, ← hM] at hs
        clear hS hM
        have HS := Lib.hid hs
        clear hs
        by_cases c1 : 32768 < s
        · go_wp2_with fail
          refine HS.out.mono ?_
          rintro e w' ⟨rfl, rfl⟩
          go_wp2
          go_ret
          rw [HC.out, HC2.out, if_pos c1]
          exact ⟨rfl, rfl⟩
        · have C1 := Lib.hid c1
          have d1 : decide ((32768 : Int) < s) = false := by simp; omega
          clear c1
          have fin : ∀ v : Int, v = (if s < 32768 ∧ 0 < m ∧ ¬ (m = 1 ∧ T = 1) then 11 else 0) → Ending.returned (.int .i64 v) = .returned (.int .i64 (chk l)) := by
            intro v hv; rw [HC.out, HC2.out, if_neg (by have := C1.out; omega), hv]
          have FIN := Lib.hid fin
          clear fin HC HC2
          by_cases c2 : s < 32768
          · have C2 := Lib.hid c2
            have d2 : decide (s < 32768) = true := by simp; omega
            clear c2
            by_cases c3 : 0 < m
            · have C3 := Lib.hid c3
              have d3 : decide (0 < m) = true := by simp; omega
              clear c3
              by_cases c4 : m = 1
              · have e4 : (m == 1) = true := by simp; omega
                have C4 := Lib.hid c4
                clear c4
                by_cases c5 : T = 1
                · have e5 : (T == 1) = true := by simp; omega
                  have C5 := Lib.hid c5
                  clear c5
                  go_wp2_with fail
                  refine HS.out.mono ?_
                  rintro e w' ⟨rfl, rfl⟩
                  go_wp2
                  go_ret
                  exact ⟨FIN.out _ (by rw [if_neg (by have := C4.out; have := C5.out; omega)]), rfl⟩
                · have e5 : (T == 1) = false := by simp; omega
                  have C5 := Lib.hid c5
                  clear c5
                  go_wp2_with fail
                  refine HS.out.mono ?_
                  rintro e w' ⟨rfl, rfl⟩
                  go_wp2
                  go_ret
                  exact ⟨FIN.out _ (by rw [if_pos (by have := C2.out; have := C3.out; have := C5.out; omega)]), rfl⟩
              · have e4 : (m == 1) = false := by simp; omega
                have C4 := Lib.hid c4
                clear c4
                go_wp2_with fail
                refine HS.out.mono ?_
                rintro e w' ⟨rfl, rfl⟩
                go_wp2
                go_ret
                exact ⟨FIN.out _ (by rw [if_pos (by have := C2.out; have := C3.out; have := C4.out; omega)]), rfl⟩
            · have d3 : decide (0 < m) = false := by simp; omega
              have C3 := Lib.hid c3
              clear c3
              go_wp2_with fail
              refine HS.out.mono ?_
              rintro e w' ⟨rfl, rfl⟩
              go_wp2
              go_ret
              exact ⟨FIN.out _ (by rw [if_neg (by have := C3.out; omega)]), rfl⟩
          · have C2 := Lib.hid c2
            have d2 : decide (s < 32768) = false := by simp; omega
            clear c2
            go_wp2_with fail
            refine HS.out.mono ?_
            rintro e w' ⟨rfl, rfl⟩
            go_wp2
            go_ret
            exact ⟨FIN.out _ (by rw [if_neg (by have := C2.out; omega)]), rfl⟩
end Go.Proofs.YtjeeiodpdfbgmaaDoor
namespace Go.Proofs.YtjeeiodpdfbgmaaDoor
set_option maxRecDepth 100000
open Go Go.RowKit
def lastCode (l : List Int) (p : List Nat) : Nat := kp l p / 2 ^ (15 - was l p) - 1
theorem was_zero {l : List Int} {p r : List Nat} (h : ord l = p ++ r) (hw : was l p = 0) : p = [] := by
  unfold was at hw
  cases e : p.getLast? with
  | none => exact List.getLast?_eq_none_iff.1 e
  | some t =>
    rw [e] at hw
    have := ord_len (l := l) (s := t) (h ▸ List.mem_append_left r (List.mem_of_getLast? e))
    have hw : (l.getD t 0).toNat = 0 := hw
    omega
theorem lastCode_pos {l : List Int} {p r : List Nat} (h : ord l = p ++ r) (hw : was l p ≠ 0) : lastCode l p + 1 = kp l p / 2 ^ (15 - was l p) := by
  rcases List.eq_nil_or_concat p with e | ⟨q, s, e⟩
  · subst e; exact absurd rfl hw
  · rw [List.concat_eq_append] at e
    subst e
    rw [List.append_assoc, List.singleton_append] at h
    unfold lastCode
    rw [next_more h, Nat.add_sub_cancel]
theorem lastCode_snoc {l : List Int} {p r : List Nat} {s : Nat} (h : ord l = p ++ s :: r) : lastCode l (p ++ [s]) = kp l p / 2 ^ (15 - (l.getD s 0).toNat) := by
  unfold lastCode; rw [next_more h, Nat.add_sub_cancel]
theorem lastCode_lt {l : List Int} {p r : List Nat} (h : ord l = p ++ r) (hk : ksum l ≤ 32768) : lastCode l p < 32768 := by
  have h1 := kp_le h
  have h2 : kp l p / 2 ^ (15 - was l p) ≤ kp l p := Nat.div_le_self _ _
  unfold lastCode
  omega

set_option maxRecDepth 100000 in
set_option maxHeartbeats 1000000 in
theorem ref_codes {w : World} {A : Option Addr} {len cap : Nat} {l : List Int} (hl : Ints w A len l) (hm : len ≤ maxLen) (hc : chk l = 0) :
    Calls Tryd.prog 54 #[.slice A len cap] w fun e w' => e = .returned (.tuple #[.slice (some ⟨w.heap.size, 0, none⟩) len len, .int .i64 0]) ∧ OwnI w' w.heap.size (.slice (some ⟨w.heap.size, 0, none⟩) len len) (codes l) ∧ But [] w w' := by
  obtain ⟨i0, hi0, hz0, hz1, hz2⟩ := info_parts info_int
  obtain ⟨h1, h2, hk, h4⟩ := chk_zero hc
  have hlen := hl.1
  have h288 : len ≤ 288 := by omega
  have hck := ref_check (cap := cap) hl hm
  rw [hc] at hck
  have HC := Lib.hid hck
  clear hck h2 h4 h1 hc hm
  go_enter Tryd.func54, Tryd.ntmps54
  go_wp2_with fail
  refine HC.out.mono ?_
  rintro e w' ⟨rfl, rfl⟩
  go_wp2_with (at_make; refine wpList_make_full _ rfl _ _ 22 rfl w.heap.size 3 i0 _ 1 Tryd.underlying22 hi0 hz0 hz1 _ _ _ _ len rfl rfl (by omega) (by omega) (by rw [hz2]; omega) (by unfold maxLen; omega) (by simp) ?_; intro w1 hown hgrow)
  have hO1 := OwnI.made hown
  have hB1 : But [] w w1 := (But.refl [] w).grown hgrow (by simp)
  clear hown hgrow HC
  go_loopw [6, 7, 8] (fun cd la n wr => ∃ m : Nat, m ≤ 15 ∧ n = .int .i64 ((m : Int) + 1) ∧ cd = .int .i64 (lastCode l (ordTo l m)) ∧ la = .int .i64 (was l (ordTo l m)) ∧
    OwnI wr w.heap.size (.slice (some ⟨w.heap.size, 0, none⟩) len len) (cds l (ordTo l m)) ∧ But [] w wr) (fun _ _ n _ => 16 - (intOf n).toNat)
  case atStart => exact ⟨0, by omega, rfl, by simp [lastCode, kp, cst, ordTo], rfl, by rw [ordTo, cds_zero, hlen]; exact hO1, hB1⟩
  case round =>
    obtain ⟨m, hm, rfl, rfl, rfl, hO, hB⟩ := hrel
    clear hO1 hB1
    by_cases hlt : m < 15
    · obtain ⟨wo, rfl⟩ : ∃ wo : World, wo = wr := ⟨_, rfl⟩
      have t15 : decide ((m : Int) + 1 ≤ 15) = true := by simp; omega
      have HS := Lib.hid (show lastCode l (ordTo l m) = lastCode l (pre l m 0) ∧ was l (ordTo l m) = was l (pre l m 0) by rw [pre_zero]; exact ⟨rfl, rfl⟩)
      rw [← pre_zero] at hO
      go_wp2
      go_loopw [6, 7, 9] (fun cd la i wr => ∃ k : Nat, k ≤ len ∧ i = .int .i64 k ∧ cd = .int .i64 (lastCode l (pre l m k)) ∧ la = .int .i64 (was l (pre l m k)) ∧
        OwnI wr w.heap.size (.slice (some ⟨w.heap.size, 0, none⟩) len len) (cds l (pre l m k)) ∧ But [] w wr) (fun _ _ i _ => len - (intOf i).toNat)
      case atStart => exact ⟨0, Nat.zero_le _, rfl, by rw [HS.out.1], by rw [HS.out.2], hO, hB⟩
      case round =>
        clear hO hB HS
        obtain ⟨k, hk2, rfl, rfl, rfl, hO, hB⟩ := hrel
        by_cases hlt2 : k < len
        · obtain ⟨g, o, rfl, hg, hc⟩ := hl.at hlt2
          replace hc := hB.cell hc (by simp)
          have hgd : l.getD k 0 = l[k]'(by omega) := by rw [List.getD_eq_getElem?_getD, List.getElem?_eq_getElem (by omega)]; rfl
          have hps := pre_succ l m k
          obtain ⟨r, hr⟩ := pre_ord l m (k + 1) (by omega) hlt
          have hlc := length_cds l (pre l m k)
          rw [← hgd] at hc
          by_cases he : l.getD k 0 = ((m + 1 : Nat) : Int)
          · rw [if_pos he] at hps
            rw [hps, List.append_assoc, List.singleton_append] at hr
            have hce := hO.cell (show k < (cds l (pre l m k)).length by omega)
            have hcf := hO.free k
            generalize (cds l (pre l m k))[k]'_ = cv at hce
            have h1 := next_len hr
            have h2 := next_code hr
            have h5 := cds_snoc l (pre l m k) k
            have h6 := was_snoc l (pre l m k) k
            have h7 := lastCode_snoc hr
            have h8 := code_lt hr hk
            have h9 := lastCode_lt hr hk
            have h10 := lastCode_pos hr
            have h11 := was_zero hr
            have en : (l.getD k 0).toNat = m + 1 := by omega
            rw [← hps] at h5 h6 h7
            rw [en] at h1 h2 h5 h6 h7 h8
            rw [he] at hc
            have H5 := Lib.hid h5
            have H6 := Lib.hid h6
            have H7 := Lib.hid h7
            have HO := Lib.hid hO
            have HB := Lib.hid hB
            have hp15 : 2 ^ (m + 1) ≤ 2 ^ 15 := Nat.pow_le_pow_right (by decide) (by omega)
            have hc15 : kp l (pre l m k) / 2 ^ (15 - (m + 1)) < 32768 := Nat.lt_of_lt_of_le h8 hp15
            have h12 : was l (pre l m k) = 0 → lastCode l (pre l m k) = 0 ∧ kp l (pre l m k) / 2 ^ (15 - (m + 1)) = 0 := fun h => by
              have := h11 h
              rw [this]; simp [lastCode, kp, cst]
            clear h5 h6 h7 hO hB hps hr hgd he h8 h11 hp15 hlc hlen en
            generalize kp l (pre l m k) / 2 ^ (15 - (m + 1)) = c at *
            generalize lastCode l (pre l m k) = lc at *
            generalize was l (pre l m k) = W at *
            by_cases hW : W = 0
            · obtain ⟨rfl, rfl⟩ := h12 hW
              subst hW
              clear h10 h2 h12
              go_wp2
              go_roundw
              case rel => exact ⟨k + 1, by omega, by go_num, by rw [H7.out], by rw [H6.out]; go_num, by rw [H5.out]; exact HO.out.set k _, HB.out.setCell (.inr (Nat.le_refl _)) _⟩
              case measure => simp [intOf]; omega
            · have h13 := h10 hW
              rw [← h13] at h2
              obtain ⟨d, hd⟩ : ∃ d, d = m + 1 - W := ⟨_, rfl⟩
              rw [← hd] at h2
              have hsh : ((lc : Int) + 1) * 2 ^ d = (c : Int) := by rw [← h2]; simp
              have esub2 : (m : Int) + 1 - (W : Int) = (d : Int) := by omega
              have hd15 : d ≤ 15 := by omega
              have d0 : 0 < (W : Int) := by omega
              clear h10 h12 h13 h2 hd
              go_wp2
              go_roundw
              case rel => exact ⟨k + 1, by omega, by go_num, by rw [H7.out], by rw [H6.out]; go_num, by rw [H5.out]; exact HO.out.set k _, HB.out.setCell (.inr (Nat.le_refl _)) _⟩
              case measure => simp [intOf]; omega
          · rw [if_neg he] at hps
            have HPS := Lib.hid hps
            generalize l.getD k 0 = x at *
            have he2 : (x == (m : Int) + 1) = false := by simp; omega
            have he3 : (x != (m : Int) + 1) = true := by simp; omega
            clear hps he hgd hlc hr hlen
            generalize hlc2 : lastCode l (pre l m k) = lc at *
            generalize hW2 : was l (pre l m k) = W at *
            have HX := Lib.hid hlc2
            have HY := Lib.hid hW2
            clear hlc2 hW2
            go_wp2
            go_roundw
            case rel => exact ⟨k + 1, by omega, by go_num, by rw [HPS.out, HX.out], by rw [HPS.out, HY.out], by rw [HPS.out]; exact hO, hB⟩
            case measure => simp [intOf]; omega
        · obtain rfl : k = len := by omega
          have HE := Lib.hid (show pre l m k = ordTo l (m + 1) by rw [← hlen, pre_full])
          go_wp2
          go_roundw
          case rel => exact ⟨m + 1, by omega, by go_num, by rw [HE.out], by rw [HE.out], by rw [← HE.out]; exact hO, hB⟩
          case measure => simp [intOf]; omega
    · obtain rfl : m = 15 := by omega
      go_wp2
      go_ret2
      exact ⟨rfl, hO, hB⟩
end Go.Proofs.YtjeeiodpdfbgmaaDoor
namespace Go.Proofs.YtjeeiodpdfbgmaaDoor
set_option maxRecDepth 100000
open Go Go.RowKit
theorem ret_one {a b : Int} (h : a = b) : Ending.returned (.int .i64 a) = .returned (.int .i64 b) := by rw [h]
theorem lengthBits_any {w : World} (t : Nat) (ht : t ≤ 100000) :
    Calls Tryd.prog 78 #[.int .i64 t] w fun e w' => e = .returned (.int .i64 (lenBits t : Nat)) ∧ w = w' := by
  by_cases h1 : t < 265
  · have d1 : decide ((t : Int) < 265) = true := by simp; omega
    have hr : lenBits t = 0 := if_pos (.inl h1)
    have HR := Lib.hid hr
    clear hr h1
    go_enter Tryd.func78, Tryd.ntmps78
    go_wp2
    go_ret
    exact ⟨by rw [HR.out]; rfl, rfl⟩
  · have d1 : decide ((t : Int) < 265) = false := by simp; omega
    by_cases h2 : t = 285
    · subst h2
      have hr : lenBits 285 = 0 := if_pos (.inr rfl)
      have HR := Lib.hid hr
      clear hr h1
      go_enter Tryd.func78, Tryd.ntmps78
      go_wp2
      go_ret
      exact ⟨by rw [HR.out]; rfl, rfl⟩
    · have d2 : ((t : Int) == 285) = false := by simp; omega
      have hr : lenBits t = (t - 261) / 4 := if_neg (by omega)
      obtain ⟨m, hm⟩ : ∃ m, m = t - 261 := ⟨_, rfl⟩
      rw [← hm] at hr
      have e1 : wrap64 ((t : Int) - 261) = (m : Int) := by rw [IntWalk.wrap64_in _ ⟨by omega, by omega⟩]; omega
      have HR := Lib.hid hr
      have HM := Lib.hid (show m = t - 261 ∧ 265 ≤ t from ⟨hm, by omega⟩)
      clear hr h1 h2 hm
      go_enter Tryd.func78, Tryd.ntmps78
      go_wp2
      go_ret
      exact ⟨ret_one (by rw [HR.out, Int.tdiv_eq_ediv_of_nonneg (by have := HM.out; omega)]; have := HM.out; omega), rfl⟩
theorem distanceBits_any {w : World} (t : Nat) (ht : t ≤ 100000) :
    Calls Tryd.prog 79 #[.int .i64 t] w fun e w' => e = .returned (.int .i64 (dstBits t : Nat)) ∧ w = w' := by
  by_cases h1 : t < 4
  · have d1 : decide ((t : Int) < 4) = true := by simp; omega
    have hr : dstBits t = 0 := if_pos h1
    have HR := Lib.hid hr
    clear hr h1
    go_enter Tryd.func79, Tryd.ntmps79
    go_wp2
    go_ret
    exact ⟨by rw [HR.out]; rfl, rfl⟩
  · have d1 : decide ((t : Int) < 4) = false := by simp; omega
    have hr : dstBits t = t / 2 - 1 := if_neg h1
    have HR := Lib.hid hr
    have H1 := Lib.hid h1
    clear hr h1
    go_enter Tryd.func79, Tryd.ntmps79
    go_wp2
    go_ret
    exact ⟨ret_one (by rw [HR.out]; have := H1.out; omega), rfl⟩

/-- The least length below symbol 257 + k. -/
def lenSum (k : Nat) : Nat := 3 + ((List.range k).map fun k => 2 ^ lenBits (257 + k)).sum
theorem lenSum_succ (k : Nat) : lenSum (k + 1) = lenSum k + 2 ^ lenBits (257 + k) := by unfold lenSum; rw [List.range_succ, List.map_append, List.sum_append]; simp; omega
def dstSum (k : Nat) : Nat := 1 + ((List.range k).map fun k => 2 ^ dstBits k).sum
theorem dstSum_succ (k : Nat) : dstSum (k + 1) = dstSum k + 2 ^ dstBits k := by unfold dstSum; rw [List.range_succ, List.map_append, List.sum_append]; simp; omega
theorem lenB5 {k : Nat} (h : k ≤ 28) : lenBits (257 + k) ≤ 5 := by unfold lenBits; split <;> omega
theorem dstB13 {k : Nat} (h : k ≤ 29) : dstBits k ≤ 13 := by unfold dstBits; split <;> omega
theorem pow5 {b : Nat} (h : b ≤ 13) : 2 ^ b ≤ 8192 := Nat.pow_le_pow_right (n := 2) (by decide) h
theorem two_pow (b : Nat) : (2 : Int) ^ b = ((2 ^ b : Nat) : Int) := by simp
theorem shl_one {b : Nat} (h : b ≤ 13) : wrap64 ((2 : Int) ^ b) = ((2 ^ b : Nat) : Int) := by
  have := pow5 h
  rw [two_pow]
  generalize 2 ^ b = z at *
  rw [IntWalk.wrap64_in _ ⟨by omega, by omega⟩]
theorem length_any {w : World} (t : Nat) (h1 : 257 ≤ t) (h2 : t ≤ 285) :
    Calls Tryd.prog 59 #[.int .i64 t] w fun e w' => e = .returned (.tuple #[.int .i64 (lenBase t : Nat), .int .i64 (lenBits t : Nat)]) ∧ w = w' := by
  by_cases h3 : t = 285
  · subst h3
    have hr : lenBits 285 = 0 := if_pos (.inr rfl)
    have hb : lenBase 285 = 258 := if_pos rfl
    have HR := Lib.hid hr
    have HB := Lib.hid hb
    clear hr hb h1 h2
    go_enter Tryd.func59, Tryd.ntmps59
    go_wp2
    go_ret2
    exact ⟨by rw [HR.out, HB.out]; rfl, rfl⟩
  · have d : ((t : Int) == 285) = false := by simp; omega
    have hb : lenBase t = lenSum (t - 257) := if_neg h3
    have HB := Lib.hid hb
    clear hb h3
    go_enter Tryd.func59, Tryd.ntmps59
    go_wp2
    go_loopw [4, 5] (fun nv sv wr => ∃ k : Nat, 257 + k ≤ t ∧ nv = .int .i64 (lenSum k : Nat) ∧ sv = .int .i64 ((257 + k : Nat) : Int) ∧ lenSum k ≤ 3 + k * 32 ∧ w = wr) (fun _ sv _ => t - (intOf sv).toNat)
    case atStart => exact ⟨0, by omega, rfl, rfl, by decide, rfl⟩
    case round =>
      obtain ⟨k, hk, rfl, rfl, hle, rfl⟩ := hrel
      obtain ⟨u, hu⟩ : ∃ u, u = 257 + k := ⟨_, rfl⟩
      rw [← hu]
      by_cases hlt : u < t
      · have hs := lenSum_succ k
        have hbb := lenB5 (k := k) (by omega)
        have hc := lengthBits_any (w := w) u (by omega)
        rw [← hu] at hs hbb
        generalize hB : lenBits u = B at *
        have hp : 2 ^ B ≤ 32 := Nat.pow_le_pow_right (n := 2) (by decide) hbb
        have e1 := shl_one (b := B) (by omega)
        generalize hX : lenSum k = X at *
        have HS := Lib.hid hs
        have HC := Lib.hid hc
        have HU := Lib.hid hu
        have e1b := two_pow B
        generalize 2 ^ B = P at *
        have e2 : wrap64 ((X : Int) + (P : Int)) = (X : Int) + (P : Int) := IntWalk.wrap64_in _ ⟨by omega, by omega⟩
        have hB13 : (B : Int) < 64 := by omega
        clear hs hc hu hB hX
        go_wp2_with fail
        refine HC.out.mono ?_
        rintro e w2 ⟨rfl, rfl⟩
        go_wp2
        go_roundw
        case rel => exact ⟨k + 1, by have := HU.out; omega, by rw [HS.out]; go_num, by have := HU.out; go_num, by rw [HS.out]; omega, by trivial⟩
        case measure => simp [intOf]; have := HU.out; omega
      · obtain rfl : u = t := by omega
        have hc := lengthBits_any (w := w) u (by omega)
        have HC := Lib.hid hc
        have HU := Lib.hid hu
        clear hc hu
        go_wp2_with fail
        refine HC.out.mono ?_
        rintro e w2 ⟨rfl, rfl⟩
        go_wp2
        go_ret2
        have e : lenBase u = lenSum k := HB.out.trans (by rw [HU.out, Nat.add_sub_cancel_left])
        exact ⟨by rw [e]; rfl, rfl⟩
theorem distance_any {w : World} (t : Nat) (h2 : t ≤ 29) :
    Calls Tryd.prog 60 #[.int .i64 t] w fun e w' => e = .returned (.tuple #[.int .i64 (dstBase t : Nat), .int .i64 (dstBits t : Nat)]) ∧ w = w' := by
  have hb : dstBase t = dstSum t := rfl
  have HB := Lib.hid hb
  clear hb
  go_enter Tryd.func60, Tryd.ntmps60
  go_wp2
  go_loopw [4, 5] (fun nv sv wr => ∃ k : Nat, k ≤ t ∧ nv = .int .i64 (dstSum k : Nat) ∧ sv = .int .i64 k ∧ dstSum k ≤ 1 + k * 8192 ∧ w = wr) (fun _ sv _ => t - (intOf sv).toNat)
  case atStart => exact ⟨0, by omega, rfl, rfl, by decide, rfl⟩
  case round =>
    obtain ⟨k, hk, rfl, rfl, hle, rfl⟩ := hrel
    by_cases hlt : k < t
    · have hs := dstSum_succ k
      have hbb := dstB13 (k := k) (by omega)
      have hc := distanceBits_any (w := w) k (by omega)
      generalize hB : dstBits k = B at *
      have hp := pow5 (b := B) (by omega)
      have e1 := shl_one (b := B) (by omega)
      generalize hX : dstSum k = X at *
      have HS := Lib.hid hs
      have HC := Lib.hid hc
      have e1b := two_pow B
      generalize 2 ^ B = P at *
      have e2 : wrap64 ((X : Int) + (P : Int)) = (X : Int) + (P : Int) := IntWalk.wrap64_in _ ⟨by omega, by omega⟩
      have hB13 : (B : Int) < 64 := by omega
      clear hs hc hB hX
      go_wp2_with fail
      refine HC.out.mono ?_
      rintro e w2 ⟨rfl, rfl⟩
      go_wp2
      go_roundw
      case rel => exact ⟨k + 1, by omega, by rw [HS.out]; go_num, by go_num, by rw [HS.out]; omega, by trivial⟩
      case measure => simp [intOf]; omega
    · obtain rfl : k = t := by omega
      have hc := distanceBits_any (w := w) k (by omega)
      have HC := Lib.hid hc
      clear hc
      go_wp2_with fail
      refine HC.out.mono ?_
      rintro e w2 ⟨rfl, rfl⟩
      go_wp2
      go_ret2
      exact ⟨by rw [HB.out]; rfl, rfl⟩
end Go.Proofs.YtjeeiodpdfbgmaaDoor
set_option maxRecDepth 100000
set_option linter.unusedVariables false
namespace Go.Proofs.YtjeeiodpdfbgmaaDoor
set_option maxRecDepth 100000
open Go Go.RowKit
theorem lsymG_in (n : Nat) : ∀ k, k ≤ 29 → 257 ≤ lsymG n k ∧ lsymG n k ≤ 285
  | 0, _ => ⟨Nat.le_refl _, by show 257 ≤ 285; omega⟩
  | k + 1, h => by
    rw [lsymG]; split
    · omega
    · exact lsymG_in n k (by omega)
theorem dsymG_in (n : Nat) : ∀ k, k ≤ 30 → dsymG n k ≤ 29
  | 0, _ => Nat.zero_le _
  | k + 1, h => by
    rw [dsymG]; split
    · omega
    · exact dsymG_in n k (by omega)
section
variable {w : World}
theorem elength_any (n : Nat) (h1 : 3 ≤ n) (h2 : n ≤ 258) :
    Calls Tryd.prog 38 #[.int .i64 n] w fun e w' => e = .returned (.tuple #[.int .i64 (lsym n : Nat), .int .i64 ((n - lenBase (lsym n) : Nat) : Int), .int .i64 (lenBits (lsym n) : Nat)]) ∧ w = w' := by
  obtain ⟨l1, l2, l3, l4⟩ := lsym_all n (by omega) h1
  have HLE := Lib.hid (fun t h1 h2 => length_any (w := w) t h1 h2)
  have HLF := Lib.hid lenBase_few
  have HIN := Lib.hid (lsymG_in n)
  go_enter Tryd.func38, Tryd.ntmps38
  go_wp2
  go_loopw [5, 6] (fun bv sv wr => ∃ k : Nat, k ≤ 29 ∧ sv = .int .i64 ((257 + k : Nat) : Int) ∧ bv = .int .i64 (lsymG n k : Nat) ∧ w = wr) (fun _ sv _ => 300 - (intOf sv).toNat)
  case atStart => exact ⟨0, Nat.zero_le _, rfl, rfl, rfl⟩
  case round =>
    obtain ⟨k, hk, rfl, rfl, rfl⟩ := hrel
    have hin := HIN.out k hk
    obtain ⟨b, hb⟩ : ∃ b, b = lsymG n k := ⟨_, rfl⟩
    rw [← hb] at hin ⊢
    have HB := Lib.hid hb
    obtain ⟨t, ht⟩ : ∃ t, t = 257 + k := ⟨_, rfl⟩
    rw [← ht]
    have HT := Lib.hid ht
    have htb : 257 ≤ t ∧ t ≤ 286 := by omega
    clear hb
    by_cases hlt : k < 29
    · have hbf := HLF.out t (by omega) (by omega)
      have ht5 : t ≤ 285 := by omega
      have d1 : decide ((t : Int) ≤ 285) = true := by simp; omega
      clear ht
      go_wp2_with fail
      refine (HLE.out t (by omega) (by omega)).mono ?_
      rintro e w1 ⟨rfl, rfl⟩
      obtain ⟨B, hB⟩ : ∃ B, B = lenBase t := ⟨_, rfl⟩
      rw [← hB] at hbf ⊢
      have HBB := Lib.hid hB
      clear hB
      by_cases hle : B ≤ n
      · have d2 : decide ((B : Int) ≤ (n : Int)) = true := by simp; omega
        have d3 : decide (B ≤ n) = true := by simpa using hle
        have HN := Lib.hid (show lsymG n (k + 1) = t by rw [lsymG, if_pos (by rw [← HT.out, ← HBB.out]; exact hle), HT.out])
        go_wp2
        go_roundw
        case rel => exact ⟨k + 1, by omega, by have := HT.out; go_num, by rw [HN.out], by trivial⟩
        case measure => simp [intOf]; omega
      · have d2 : decide ((B : Int) ≤ (n : Int)) = false := by simp; omega
        have d3 : decide (B ≤ n) = false := by simpa using hle
        have HN := Lib.hid (show lsymG n (k + 1) = b by rw [lsymG, if_neg (by rw [← HT.out, ← HBB.out]; exact hle), HB.out])
        go_wp2
        go_roundw
        case rel => exact ⟨k + 1, by omega, by have := HT.out; go_num, by rw [HN.out], by trivial⟩
        case measure => simp [intOf]; omega
    · have d1 : decide ((t : Int) ≤ 285) = false := by simp; omega
      have hk29 : k = 29 := by omega
      have hbs : b = lsym n := by rw [HB.out, hk29]; rfl
      rw [← hbs] at l1 l2 l3 l4
      have HBS := Lib.hid hbs
      obtain ⟨B, hB⟩ : ∃ B, B = lenBase b := ⟨_, rfl⟩
      have hle := HLE.out b (by omega) (by omega)
      rw [← hB] at l3 l4 hle
      have HBQ := Lib.hid hB
      have HL2 := Lib.hid hle
      clear hk29 hbs hB ht hle
      go_wp2_with fail
      refine HL2.out.mono ?_
      rintro e w1 ⟨rfl, rfl⟩
      have e1 : (n : Int) - (B : Int) = ((n - B : Nat) : Int) := by omega
      go_wp2
      go_ret3
      exact ⟨by rw [← HBS.out, ← HBQ.out]; rfl, rfl⟩
theorem edistance_any (n : Nat) (h1 : 1 ≤ n) (h2 : n ≤ 512) :
    Calls Tryd.prog 39 #[.int .i64 n] w fun e w' => e = .returned (.tuple #[.int .i64 (dsym n : Nat), .int .i64 ((n - dstBase (dsym n) : Nat) : Int), .int .i64 (dstBits (dsym n) : Nat)]) ∧ w = w' := by
  obtain ⟨l2, l3, l4⟩ := dsym_all n (by omega) h1
  have HLE := Lib.hid (fun t h2 => distance_any (w := w) t h2)
  have HLF := Lib.hid dstBase_few
  have HIN := Lib.hid (dsymG_in n)
  go_enter Tryd.func39, Tryd.ntmps39
  go_wp2
  go_loopw [5, 6] (fun bv sv wr => ∃ k : Nat, k ≤ 30 ∧ sv = .int .i64 (k : Nat) ∧ bv = .int .i64 (dsymG n k : Nat) ∧ w = wr) (fun _ sv _ => 300 - (intOf sv).toNat)
  case atStart => exact ⟨0, Nat.zero_le _, rfl, rfl, rfl⟩
  case round =>
    obtain ⟨t, hk, rfl, rfl, rfl⟩ := hrel
    have hin := HIN.out t hk
    obtain ⟨b, hb⟩ : ∃ b, b = dsymG n t := ⟨_, rfl⟩
    rw [← hb] at hin ⊢
    have HB := Lib.hid hb
    clear hb
    by_cases hlt : t < 30
    · have hbf := HLF.out t (by omega)
      have d1 : decide ((t : Int) ≤ 29) = true := by simp; omega
      go_wp2_with fail
      refine (HLE.out t (by omega)).mono ?_
      rintro e w1 ⟨rfl, rfl⟩
      obtain ⟨B, hB⟩ : ∃ B, B = dstBase t := ⟨_, rfl⟩
      rw [← hB] at hbf ⊢
      have HBB := Lib.hid hB
      clear hB
      by_cases hle : B ≤ n
      · have d2 : decide ((B : Int) ≤ (n : Int)) = true := by simp; omega
        have d3 : decide (B ≤ n) = true := by simpa using hle
        have HN := Lib.hid (show dsymG n (t + 1) = t by rw [dsymG, if_pos (by rw [← HBB.out]; exact hle)])
        go_wp2
        go_roundw
        case rel => exact ⟨t + 1, by omega, by go_num, by rw [HN.out], by trivial⟩
        case measure => simp [intOf]; omega
      · have d2 : decide ((B : Int) ≤ (n : Int)) = false := by simp; omega
        have d3 : decide (B ≤ n) = false := by simpa using hle
        have HN := Lib.hid (show dsymG n (t + 1) = b by rw [dsymG, if_neg (by rw [← HBB.out]; exact hle), HB.out])
        go_wp2
        go_roundw
        case rel => exact ⟨t + 1, by omega, by go_num, by rw [HN.out], by trivial⟩
        case measure => simp [intOf]; omega
    · have d1 : decide ((t : Int) ≤ 29) = false := by simp; omega
      have hk30 : t = 30 := by omega
      have hbs : b = dsym n := by rw [HB.out, hk30]; rfl
      rw [← hbs] at l2 l3 l4
      have HBS := Lib.hid hbs
      obtain ⟨B, hB⟩ : ∃ B, B = dstBase b := ⟨_, rfl⟩
      have hle := HLE.out b (by omega)
      rw [← hB] at l3 l4 hle
      have HBQ := Lib.hid hB
      have HL2 := Lib.hid hle
      clear hk30 hbs hB hle
      go_wp2_with fail
      refine HL2.out.mono ?_
      rintro e w1 ⟨rfl, rfl⟩
      have e1 : (n : Int) - (B : Int) = ((n - B : Nat) : Int) := by omega
      go_wp2
      go_ret3
      exact ⟨by rw [← HBS.out, ← HBQ.out]; rfl, rfl⟩
end
end Go.Proofs.YtjeeiodpdfbgmaaDoor
set_option maxRecDepth 100000
set_option linter.unusedVariables false
namespace Go.Proofs.YtjeeiodpdfbgmaaDoor
set_option maxRecDepth 100000
open Go Go.RowKit
section
variable {w w1 w' : World} {lo b : Nat} {og : Option Nat} {r : Nat × Nat}
set_option maxHeartbeats 1000000 in
theorem elay_one {l : List Int} {s : Nat} {bt : Nat} (hT : Keep (b :: og.toList) w fun w' => RT w' bt l) (hok : ∀ x ∈ l, 0 ≤ x ∧ x ≤ 15) (hW : WroteF w w1 lo b og r) (hlo : lo ≤ w.heap.size) (hN : r.2 ≤ 1000000000) (hh : has l s) :
    Calls Tryd.prog 43 #[.pointer (some ⟨bt, 0, none⟩), .pointer (some ⟨b, 0, none⟩), .int .i64 s] w1 fun e w' => e = .returned (.int .i64 0) ∧ WroteF w w' lo b og (layC l r s) := by
  obtain ⟨X, N⟩ := r
  have he : layC l (X, N) s = layG ((codes l).getD s 0) (l.getD s 0).toNat X N := by
    unfold layC layS; rw [if_pos hh, Int.toNat_natCast]
  rw [he]; clear he
  obtain ⟨h0, h1, h2⟩ : 0 ≤ (s : Int) ∧ (s : Int) < l.length ∧ l.getD (s : Int).toNat 0 ≠ 0 := hh
  rw [Int.toNat_natCast] at h2
  have hn : s < l.length := by omega
  have hg : l.getD s 0 = l[s] := getD_get hn
  have hcl : (codes l).length = l.length := by unfold codes; exact length_cds _ _
  have hg2 : (codes l).getD s 0 = (codes l)[s]'(by omega) := getD_get _
  have hx := hok _ (List.getElem_mem hn)
  rw [← hg] at hx
  obtain ⟨L, hL⟩ : ∃ L : Nat, l.getD s 0 = (L : Int) := ⟨(l.getD s 0).toNat, by omega⟩
  rw [hL] at hx h2 ⊢
  rw [Int.toNat_natCast]
  obtain ⟨c, hc⟩ : ∃ c, c = (codes l).getD s 0 := ⟨_, rfl⟩
  rw [← hc] at hg2 ⊢
  have hL1 : 1 ≤ L := by omega
  have hL15 : L ≤ 15 := by omega
  have s0 : (0 : Int) ≤ (s : Int) := by omega
  have s1 : (s : Int) < (l.length : Int) := by omega
  have old : ∀ W : World, But (b :: og.toList) w W → ∃ g o cl g2 o2 cc, W.cell? ⟨bt, 0, none⟩ = some (.slice (some ⟨g, o, none⟩) l.length cl) ∧ W.cell? ⟨bt, 1, none⟩ = some (.slice (some ⟨g2, o2, none⟩) l.length cc) ∧ W.cell? ⟨g, o + s, none⟩ = some (.int .i64 (L : Nat)) ∧ W.cell? ⟨g2, o2 + s, none⟩ = some (.int .i64 c) := fun W hB => by
    obtain ⟨Al, cl, Ac, cc, hI, hl, hcs⟩ := hT W hB
    obtain ⟨g, o, rfl, hgl, hc1⟩ := hl.at hn
    obtain ⟨g2, o2, rfl, hgl2, hc2⟩ := hcs.at hn
    rw [← hg, hL] at hc1
    rw [← hg2] at hc2
    exact ⟨g, o, cl, g2, o2, cc, hI.cell 0, hI.cell 1, hc1, hc2⟩
  have OLD := Lib.hid old
  obtain ⟨g, o, cl, g2, o2, cc, c0, c1, c2, c3⟩ := OLD.out _ hW.but
  have HW := Lib.hid hW
  have hz : ((L : Int) == 0) = false := by simp; omega
  have hz1 : decide ((s : Int) < 0) = false := by simp; try omega
  have hz2 : decide (l.length ≤ s) = false := by simp; omega
  clear old hg hg2 hL hcl hT hok h0 h1 h2 hx hc hW
  go_enter Tryd.func43, Tryd.ntmps43
  go_wp2
  clear c0 c1 c2 c3
  go_loopw [7] (fun iv wr => ∃ k X' N' : Nat, k ≤ L ∧ iv = .int .i64 ((k : Int) - 1) ∧ layG c k X' N' = layG c L X N ∧ N' + k = N + L ∧ WroteF w wr lo b og (X', N')) (fun iv _ => ((intOf iv) + 1).toNat)
  case atStart => exact ⟨L, X, N, Nat.le_refl _, rfl, rfl, rfl, HW.out⟩
  case round =>
    obtain ⟨k, X', N', hk, rfl, hG, hNk, hP⟩ := hrel
    clear HW
    obtain ⟨g, o, cl, g2, o2, cc, c0, c1, c2, c3⟩ := OLD.out _ hP.but
    have HP := Lib.hid hP
    have HG := Lib.hid hG
    have HNK := Lib.hid hNk
    clear hP hG hNk
    cases k with
    | zero =>
      go_wp2
      go_ret
      refine ⟨rfl, ?_⟩
      have := HG.out
      rw [← this]
      exact HP.out
    | succ k =>
      have hk1 : ((k + 1 : Nat) : Int) - 1 = (k : Int) := by omega
      rw [hk1]
      have hN2 : N ≤ 1000000000 := hN
      have hN' : N' ≤ 100000000000 := by have := HNK.out; omega
      clear hk1
      go_wp2_with fail
      refine (HP.out.bitsI hlo hN' (c / 2 ^ k) 1).mono ?_
      rintro e w2 ⟨rfl, hP2⟩
      have HP2 := Lib.hid hP2
      clear hP2 c0 c1 c2 c3
      go_wp2
      go_roundw
      case rel =>
        refine ⟨k, _, _, by omega, rfl, ?_, ?_, HP2.out⟩
        · have := HG.out; rw [layG] at this; exact this
        · have := HNK.out; rw [layN_one]; omega
      case measure => simp [intOf]
end
end Go.Proofs.YtjeeiodpdfbgmaaDoor
set_option maxRecDepth 100000
set_option linter.unusedVariables false
namespace Go.Proofs.YtjeeiodpdfbgmaaDoor
set_option maxRecDepth 100000
open Go Go.RowKit
section
variable {w w1 w' : World} {lo b : Nat} {og : Option Nat} {r : Nat × Nat}
set_option maxHeartbeats 2000000 in
theorem elay_any {l d : List Int} {bt bu n c : Nat} {A : Option Addr} {ts : List Tk} (hT : Keep (b :: og.toList) w fun w' => RT w' bt l) (hU : Keep (b :: og.toList) w fun w' => RT w' bu d) (hK : Keep (b :: og.toList) w fun w' => Tks w' A n (ts.map tkI))
    (hl : ∀ x ∈ l, 0 ≤ x ∧ x ≤ 15) (hd : ∀ x ∈ d, 0 ≤ x ∧ x ≤ 15) (hh : ∀ t ∈ ts, tkHas l d t) (h256 : has l (256 : Nat)) (hn : n ≤ 1000000) (hW : WroteF w w1 lo b og r) (hlo : lo ≤ w.heap.size) (hN : r.2 ≤ 100000) :
    Calls Tryd.prog 35 #[.pointer (some ⟨b, 0, none⟩), .slice A n c, .pointer (some ⟨bt, 0, none⟩), .pointer (some ⟨bu, 0, none⟩)] w1 fun e w' => e = .returned (.tuple #[]) ∧ WroteF w w' lo b og (layC l (layTs l d r ts) 256) := by
  have hlen : ts.length = n := by
    have := (hK.now).1
    rwa [List.length_map] at this
  have HLN := Lib.hid hlen
  have HK := Lib.hid hK
  have HH := Lib.hid hh
  have HW := Lib.hid hW
  have HLA := Lib.hid (fun (s : Nat) (hs : has l s) (w2 : World) (r2 : Nat × Nat) (hW2 : WroteF w w2 lo b og r2) (h2 : r2.2 ≤ 1000000000) => elay_one hT hl hW2 hlo h2 hs)
  have HLD := Lib.hid (fun (s : Nat) (hs : has d s) (w2 : World) (r2 : Nat × Nat) (hW2 : WroteF w w2 lo b og r2) (h2 : r2.2 ≤ 1000000000) => elay_one hU hd hW2 hlo h2 hs)
  have HL15 := Lib.hid hl
  have HD15 := Lib.hid hd
  have H256 := Lib.hid h256
  clear hlen hT hU hK hh hW hl hd h256
  go_enter Tryd.func35, Tryd.ntmps35
  go_wp2
  go_loopw [8] (fun iv wr => ∃ k : Nat, k ≤ n ∧ iv = .int .i64 k ∧ Hid (WroteF w wr lo b og (layTs l d r (ts.take k))) ∧ (layTs l d r (ts.take k)).2 ≤ 100000 + 60 * k) (fun iv _ => n - (intOf iv).toNat)
  case atStart => exact ⟨0, Nat.zero_le _, rfl, HW, by show r.2 ≤ 100000 + 60 * 0; omega⟩
  case round =>
    obtain ⟨k, hk, rfl, HP, hb⟩ := hrel
    clear HW
    obtain ⟨q, hq⟩ : ∃ q, q = layTs l d r (ts.take k) := ⟨_, rfl⟩
    rw [← hq] at HP hb
    have HQ := Lib.hid hq
    clear hq
    by_cases hlt : k < n
    · have hkt : k < ts.length := by have := HLN.out; omega
      have hmem := HH.out _ (List.getElem_mem hkt)
      have hts : ts.take (k + 1) = ts.take k ++ [ts[k]] := List.take_succ_eq_append_getElem hkt
      have hnx : layTs l d r (ts.take (k + 1)) = layT l d q ts[k] := by rw [hts, layTs_snoc, ← HQ.out]
      have hfw := layT_few HL15.out HD15.out hmem q
      have hcells : ∀ W : World, But (b :: og.toList) w W → ∃ g o, A = some ⟨g, o, none⟩ ∧ W.cell? ⟨g, o + k * 3, none⟩ = some (.int .i64 (ts[k].2.2 : Nat)) ∧ W.cell? ⟨g, o + k * 3 + 1, none⟩ = some (.int .i64 (ts[k].1 : Nat)) ∧ W.cell? ⟨g, o + k * 3 + 2, none⟩ = some (.int .i64 (ts[k].2.1 : Nat)) := fun W hB => by
        obtain ⟨g, o, bb, x, z, e, hg, c0, c1, c2, h1⟩ := (HK.out W hB).at hlt
        rw [List.getElem?_map, List.getElem?_eq_getElem hkt] at h1
        injection h1 with h1
        unfold tkI at h1
        injection h1 with h2 h3
        injection h3 with h3 h4
        subst h2 h3 h4
        exact ⟨g, o, e, c0, c1, c2⟩
      obtain ⟨t, ht⟩ : ∃ t, t = ts[k] := ⟨_, rfl⟩
      rw [← ht] at hmem hnx hfw hcells
      obtain ⟨x, z, y⟩ := t
      obtain ⟨g, o, rfl, c0, c1, c2⟩ := hcells _ HP.out.but
      have HC := Lib.hid hcells
      have HNX := Lib.hid hnx
      dsimp only at c0 c1 c2
      have k0 : (0 : Int) ≤ (k : Int) := by omega
      have k1 : (k : Int) < (n : Int) := by omega
      unfold tkHas at hmem
      dsimp only at hmem
      clear ht hts hnx hcells
      by_cases hx : x = 0
      · rw [if_pos hx] at hmem
        have eT : layT l d q (x, z, y) = layC l q y := by unfold layT; rw [if_pos (show (x, z, y).1 = 0 from hx)]
        rw [eT] at hfw
        have HE := Lib.hid eT
        have dx : ((x : Int) == 0) = true := by simp [hx]
        have HCALL := Lib.hid (HLA.out y hmem.2 _ q HP.out (by omega))
        clear eT hmem hx
        go_wp2_with fail
        refine HCALL.out.mono ?_
        rintro e w3 ⟨rfl, hW3⟩
        have HW3 := Lib.hid hW3
        clear hW3 c0 c1 c2
        go_wp2
        go_roundw
        case rel => exact ⟨k + 1, by omega, by go_num, Lib.hid (by rw [HNX.out, HE.out]; exact HW3.out), by rw [HNX.out, HE.out]; omega⟩
        case measure => simp [intOf]; omega
      · rw [if_neg hx] at hmem
        obtain ⟨a1, a2, a3, a4, a5, a6⟩ := hmem
        obtain ⟨b1, b2, b3, b4⟩ := lsym_all x (by omega) a1
        obtain ⟨d1, d2, d3⟩ := dsym_all z (by omega) a3
        have dx : ((x : Int) == 0) = false := by simp; omega
        have f5 := lenBase_few (lsym x) (by omega) b1
        have f6 := dstBase_few (dsym z) (by omega)
        have f1 := layC_few HL15.out q (lsym x)
        have f2 := layB_few (layC l q (lsym x)) (x - lenBase (lsym x)) (lenBits (lsym x))
        have f3 := layC_few HD15.out (layB (layC l q (lsym x)) (x - lenBase (lsym x)) (lenBits (lsym x))) (dsym z)
        have eT : layT l d q (x, z, y) = layB (layC d (layB (layC l q (lsym x)) (x - lenBase (lsym x)) (lenBits (lsym x))) (dsym z)) (z - dstBase (dsym z)) (dstBits (dsym z)) := by unfold layT; rw [if_neg (show ¬ (x, z, y).1 = 0 from hx)]
        rw [eT] at hfw
        have HE := Lib.hid eT
        have HEL := Lib.hid (fun (W : World) => elength_any (w := W) x a1 a2)
        have HED := Lib.hid (fun (W : World) => edistance_any (w := W) z a3 a4)
        have C1 := Lib.hid (fun W h h2 => HLA.out (lsym x) a5 W q h h2)
        have C2 := Lib.hid (fun W h h2 => HLD.out (dsym z) a6 W (layB (layC l q (lsym x)) (x - lenBase (lsym x)) (lenBits (lsym x))) h h2)
        clear eT hx b4 d3 b3 d2
        obtain ⟨S1, hS1⟩ : ∃ S1, S1 = lsym x := ⟨_, rfl⟩
        obtain ⟨S2, hS2⟩ : ∃ S2, S2 = dsym z := ⟨_, rfl⟩
        rw [← hS1] at HEL C1 C2 HE f1 f2 f3 f5 hfw b1 b2
        rw [← hS2] at HED C2 HE f6 f3 hfw d1
        obtain ⟨V1, hV1⟩ : ∃ V1, V1 = x - lenBase S1 := ⟨_, rfl⟩
        obtain ⟨V2, hV2⟩ : ∃ V2, V2 = z - dstBase S2 := ⟨_, rfl⟩
        rw [← hV1] at HEL C2 HE f2 f3 hfw
        rw [← hV2] at HED HE hfw
        obtain ⟨M1, hM1⟩ : ∃ M1, M1 = lenBits S1 := ⟨_, rfl⟩
        obtain ⟨M2, hM2⟩ : ∃ M2, M2 = dstBits S2 := ⟨_, rfl⟩
        rw [← hM1] at HEL C2 HE f2 f3 f5 hfw
        rw [← hM2] at HED HE hfw f6
        obtain ⟨q1, hq1⟩ : ∃ q1, q1 = layC l q S1 := ⟨_, rfl⟩
        rw [← hq1] at C1 C2 HE f1 f2 f3 hfw
        obtain ⟨q2, hq2⟩ : ∃ q2, q2 = layB q1 V1 M1 := ⟨_, rfl⟩
        rw [← hq2] at C2 HE f2 f3 hfw
        obtain ⟨q3, hq3⟩ : ∃ q3, q3 = layC d q2 S2 := ⟨_, rfl⟩
        rw [← hq3] at C2 HE f3 hfw
        have HQ2 := Lib.hid hq2
        clear hS1 hS2 hV1 hV2 hM1 hM2 hq1 hq2 hq3
        go_wp2_with fail
        refine (HEL.out _).mono ?_
        rintro e w3 ⟨rfl, rfl⟩
        go_wp2_with fail
        refine (C1.out _ HP.out (by omega)).mono ?_
        rintro e w3 ⟨rfl, hW3⟩
        obtain ⟨g1, o1, e1, c01, c11, c21⟩ := HC.out _ hW3.but
        injection e1 with e1
        injection e1 with e1 e2
        subst e1 e2
        (try dsimp only at c01 c11 c21)
        have HW3 := Lib.hid hW3
        clear hW3 c0 c1 c2
        go_wp2_with fail
        refine (HW3.out.bits hlo (by omega) V1 M1).mono ?_
        rintro e w4 ⟨rfl, hW4⟩
        rw [← HQ2.out] at hW4
        obtain ⟨g1, o1, e1, c02, c12, c22⟩ := HC.out _ hW4.but
        injection e1 with e1
        injection e1 with e1 e2
        subst e1 e2
        (try dsimp only at c02 c12 c22)
        have HW4 := Lib.hid hW4
        clear hW4 c01 c11 c21 HW3
        go_wp2_with fail
        refine (HED.out _).mono ?_
        rintro e w5 ⟨rfl, rfl⟩
        go_wp2_with fail
        refine (C2.out _ HW4.out (by omega)).mono ?_
        rintro e w5 ⟨rfl, hW5⟩
        have HW5 := Lib.hid hW5
        clear hW5 c02 c12 c22 HW4
        go_wp2_with fail
        refine (HW5.out.bits hlo (by omega) V2 M2).mono ?_
        rintro e w6 ⟨rfl, hW6⟩
        have HW6 := Lib.hid hW6
        clear hW6 HW5
        go_wp2
        go_roundw
        case rel => exact ⟨k + 1, by omega, by go_num, Lib.hid (by rw [HNX.out, HE.out]; exact HW6.out), by rw [HNX.out, HE.out]; omega⟩
        case measure => simp [intOf]; omega
    · have hqe : q = layTs l d r ts := by rw [HQ.out, List.take_of_length_le (by have := HLN.out; omega)]
      have HQE := Lib.hid hqe
      have HCALL := Lib.hid (HLA.out 256 H256.out _ q HP.out (by omega))
      clear hqe
      go_wp2_with fail
      refine HCALL.out.mono ?_
      rintro e w3 ⟨rfl, hW3⟩
      have HW3 := Lib.hid hW3
      clear hW3
      go_wp2
      go_end0
      exact ⟨rfl, by rw [← HQE.out]; exact HW3.out⟩
end
end Go.Proofs.YtjeeiodpdfbgmaaDoor
