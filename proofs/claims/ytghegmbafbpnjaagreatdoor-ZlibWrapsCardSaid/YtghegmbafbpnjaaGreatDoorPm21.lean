/- Several texts in one: ZlB, DgO, ZlC, RfA, GlobB (what Unwraps, Wraps reach of them). -/
import Derived.Test.YtghegmbafbpnjaaGreatDoorPm01
import Derived.Test.YtghegmbafbpnjaaGreatDoorPm02
import Derived.Test.YtghegmbafbpnjaaGreatDoorPm03
import Derived.Test.YtghegmbafbpnjaaGreatDoorPm05
import Derived.Test.YtghegmbafbpnjaaGreatDoorPm06
import Derived.Test.YtghegmbafbpnjaaGreatDoorPm07
import Derived.Test.YtghegmbafbpnjaaGreatDoorPm08
import Derived.Test.YtghegmbafbpnjaaGreatDoorPm09
import Derived.Test.YtghegmbafbpnjaaGreatDoorPm10
import Derived.Test.YtghegmbafbpnjaaGreatDoorPm12
import Derived.Test.YtghegmbafbpnjaaGreatDoorPm13
import Derived.Test.YtghegmbafbpnjaaGreatDoorPm14
import Derived.Test.YtghegmbafbpnjaaGreatDoorPm15
import Derived.Test.YtghegmbafbpnjaaGreatDoorPm16
import Derived.Test.YtghegmbafbpnjaaGreatDoorPm17
import Derived.Test.YtghegmbafbpnjaaGreatDoorPm19
import Derived.Test.YtghegmbafbpnjaaGreatDoorPm20
import Derived.Below
import Derived.BigQuiet
import Derived.BigRegion
import Derived.Deep.AppendLies
import Derived.Deep.CutBlock
import Derived.Deep.CutRange
import Derived.Deep.DeepCutAuto
import Derived.Deep.Draws
import Derived.Deep.LoopGhost
import Derived.Deep.QuietTactic
import Derived.Deep.RegionLaw
import Derived.Deep.RegionWith
import Derived.Deep.Slices
import Derived.Handy
import Derived.LaidMore
import Derived.Laws.BitsAllLaws
import Derived.Laws.BitsLemmas
import Derived.Laws.CopyOwn
import Derived.Laws.IdiomStrings
import Derived.Laws.OwnMore
import Derived.Laws.Rows
import Derived.Laws.Strings2
import Derived.Laws.Strings3
import Derived.Laws.StructEq
import Derived.Lib.AppendStr
import Derived.Lib.AppendZeros
import Derived.Lib.Hide
import Derived.Lib.Strings
import Derived.LoopIn
import Derived.LoopNIn
import Derived.OneCell
import Derived.OpenShut
import Derived.Outline
import Derived.OwnWalk
import Derived.OwnWalkIn
import Derived.ProofKit
import Derived.RangeFuncBound
import Derived.RangeFuncCalls
import Derived.RangeFuncLeaves
import Derived.RangeFuncNested
import Derived.RegionTactic
import Derived.ScopeJumps
import Derived.Shelf.Abstract
import Derived.Shelf.RegionOpen
import Derived.Shelf.SlSortCmp.QuietGrown
import Derived.StillTailTactics
import Derived.Stop.Joined
import Derived.TacticsInMore
import Derived.Test.YtghegmbafbpnjaaGreatDoorChecked
import Derived.Test.YtghegmbafbpnjaaGreatDoorRows
import Derived.WalkKit
import Derived.WalkLawsBesides
import Derived.WalkMore
import Derived.WalkSpells
set_option maxRecDepth 100000
set_option linter.unusedVariables false
set_option maxRecDepth 100000
set_option linter.unusedVariables false
namespace Go.Proofs.YtghegmbafbpnjaaGreatDoor
set_option maxRecDepth 100000
open Go Go.RowKit
theorem wrapT_sum (l : List UInt8) : wrapT l = ⟨#[120, 1]⟩ ++ bestX l ++ strL (fourL (adSum l)) := by
  apply ByteArray.ext
  apply Array.ext'
  show (wrapT l).data.toList = _
  rw [wrapT_list]
  simp [strL]
theorem bestZ_size {l : List UInt8} (h : l.length ≤ 65535) : (bestX l).size ≤ l.length + 5 := by
  have h1 := (bestX_cases l).2.1
  rw [stor_size h] at h1
  exact h1
theorem fourZ_size (n : Nat) : (strL (fourL n)).size = 4 := by rw [strL_size, fourL_length]
/-- What a stream says, as the program tells it. -/
def tellU (r : List UInt8 × Int) : Ending := .returned (.tuple #[.string (strL r.1), .int .i64 r.2])
theorem unz_few {s : ByteArray} (M : Int) (h : s.size < 2) : unzT s M = ([], 3) := by unfold unzT; rw [if_pos h]
theorem unz_badZ {s : ByteArray} (M : Int) (h : 2 ≤ s.size) (hb : badHead (s.data.toList.getD 0 0).toNat (s.data.toList.getD 1 0).toNat) : unzT s M = ([], 16) := by
  unfold unzT; rw [if_neg (by omega), if_pos hb]
theorem unz_err {s : ByteArray} {M : Int} (h : 2 ≤ s.size) (hb : ¬ badHead (s.data.toList.getD 0 0).toNat (s.data.toList.getD 1 0).toNat) (he : (inflT (strL (s.data.toList.drop 2)) M).2.2 ≠ 0) :
    unzT s M = ([], (inflT (strL (s.data.toList.drop 2)) M).2.2) := by
  unfold unzT; rw [if_neg (by omega), if_neg hb, if_pos he]
/-- What stands behind a stream. -/
def tailE (t : ByteArray) (L : List UInt8) : Int := if t.size < 4 then 3 else if t.data.toList.take 4 ≠ fourL (adSum L) then 17 else if 4 < t.size then 4 else 0
theorem unz_tail {s : ByteArray} {M : Int} {L : List UInt8} {n : Nat} (h : 2 ≤ s.size) (hb : ¬ badHead (s.data.toList.getD 0 0).toNat (s.data.toList.getD 1 0).toNat) (he : inflT (strL (s.data.toList.drop 2)) M = (L, n, 0)) :
    unzT s M = if tailE (strL (s.data.toList.drop (2 + n))) L = 0 then (L, 0) else ([], tailE (strL (s.data.toList.drop (2 + n))) L) := by
  have hl : s.data.toList.length = s.size := by simp
  have hn : n ≤ s.size - 2 := by
    have := (inflT_size (s := strL (s.data.toList.drop 2)) (most := M)).1
    rw [he, strL_size, List.length_drop, hl] at this
    exact this
  unfold unzT
  rw [if_neg (by omega), if_neg hb, he]
  dsimp only
  rw [if_neg (by simp)]
  unfold tailE
  rw [strL_size, strL_list, List.length_drop, hl]
  by_cases h4 : s.size < 2 + n + 4
  · rw [if_pos h4, if_pos (show s.size - (2 + n) < 4 by omega), if_neg (by decide)]
  · have h4' : ¬ s.size - (2 + n) < 4 := by omega
    rw [if_neg h4, if_neg h4']
    have hlt : ((s.data.toList.drop (2 + n)).take 4).length = 4 := by rw [List.length_take, List.length_drop, hl]; omega
    obtain ⟨A, hA⟩ : ∃ A, A = (s.data.toList.drop (2 + n)).take 4 := ⟨_, rfl⟩
    rw [← hA] at hlt ⊢
    by_cases hq : A = fourL (adSum L)
    · have e : ¬ ofL A ≠ adSum L := fun h => h (by rw [hq, ofL_four (adSum_lt L)])
      have q2 : ¬ A ≠ fourL (adSum L) := fun h => h hq
      rw [if_neg e]
      simp only [if_neg q2]
      by_cases h5 : 2 + n + 4 < s.size
      · have h6 : 4 < s.size - (2 + n) := by omega
        rw [if_pos h5]
        simp only [if_pos h6]
        rw [if_neg (by decide)]
      · have h6 : ¬ 4 < s.size - (2 + n) := by omega
        rw [if_neg h5]
        simp only [if_neg h6]
        rw [if_pos trivial]
    · have e : ofL A ≠ adSum L := fun e => hq (ofL_inj4 hlt (fourL_length _) (by rw [e, ofL_four (adSum_lt L)]))
      rw [if_pos e]
      simp only [if_pos hq]
      rw [if_neg (by decide)]
attribute [local irreducible] bestX wrapT unzT tailE strL fourL adSum textX storX fixedX dynL
set_option maxHeartbeats 1000000 in
theorem pwrap_any (w : World) (hG : GD w) {s : ByteArray} (hs : s.size ≤ 10000) :
    Calls Tryz.prog 5 #[.string s] w fun e w' => e = .returned (.string (wrapT s.data.toList)) ∧ But [] w w' := by
  have HD := Lib.hid (pdeflate_any w hG hs)
  have HS := Lib.hid (fun v => psum_any v (s := s) (by unfold maxLen; omega))
  have hl := len_data s
  have hb := bestZ_size (l := s.data.toList) (by omega)
  have hx := fourZ_size (adSum s.data.toList)
  have hw := wrapT_sum s.data.toList
  obtain ⟨b, hb2⟩ : ∃ b, b = bestX s.data.toList := ⟨_, rfl⟩
  obtain ⟨x, hx2⟩ : ∃ b, b = strL (fourL (adSum s.data.toList)) := ⟨_, rfl⟩
  rw [← hb2, ← hx2] at hw
  rw [← hb2] at HD hb
  rw [← hx2] at HS hx
  have HW := Lib.hid hw
  have kd : (9223372036854775807 < 2 + b.size) = False := by simp; omega
  have ke : (9223372036854775807 < 2 + b.size + 4) = False := by simp; omega
  clear hG hl hw hb2 hx2
  go_enter Tryz.func5, Tryz.ntmps5
  go_wp2_with fail
  refine HD.out.mono ?_
  rintro e w1 ⟨rfl, hB1⟩
  have HB1 := Lib.hid hB1
  clear hB1
  go_wp2_with fail
  refine (HS.out w1).mono ?_
  rintro e w2 ⟨rfl, hB2⟩
  have HB2 := Lib.hid (HB1.out.trans hB2)
  clear hB2
  go_wp2

  go_ret
  exact ⟨by rw [HW.out]; rfl, HB2.out⟩
set_option maxHeartbeats 1000000 in
theorem punwrap_any (w : World) (hG : GL w) {s : ByteArray} {M : Int} (hs : s.size ≤ 140737489403904) (hM : M ≤ 1099511627776) :
    Calls Tryz.prog 8 #[.string s, .int .i64 M] w fun e w' => e = tellU (unzT s M) ∧ But [] w w' := by
  obtain ⟨R, hR⟩ : ∃ R, R = unzT s M := ⟨_, rfl⟩
  rw [← hR]
  by_cases h2 : s.size < 2
  · have HH := Lib.hid (phead_few w h2)
    have HR := Lib.hid (hR.trans (unz_few M h2))
    clear hR hG
    go_enter Tryz.func8, Tryz.ntmps8
    go_wp2_with fail
    refine HH.out.mono ?_
    rintro e w1 ⟨rfl, rfl⟩
    go_wp2
    go_ret2
    exact ⟨by rw [HR.out]; unfold tellU strL; rfl, But.refl [] w⟩
  · have h2' : 2 ≤ s.size := by omega
    have hH := phead_any w h2' rfl rfl
    have x0 : s[0].toNat = (s.data.toList.getD 0 0).toNat := by rw [byteZ_at s (by omega)]
    have x1 : s[1].toNat = (s.data.toList.getD 1 0).toNat := by rw [byteZ_at s (by omega)]
    rw [x0, x1] at hH
    have hun := fun hb => unz_badZ M h2' hb
    have hue := fun hb he => unz_err (M := M) h2' hb he
    have hut := fun L n hb he => unz_tail (M := M) (L := L) (n := n) h2' hb he
    by_cases hb : badHead (s.data.toList.getD 0 0).toNat (s.data.toList.getD 1 0).toNat
    · rw [if_pos (show _ ∨ _ ∨ _ ∨ _ from hb)] at hH
      have HR := Lib.hid (hR.trans (hun hb))
      have HH := Lib.hid hH
      clear hR hG hun hue hut hH x0 x1 hb
      go_enter Tryz.func8, Tryz.ntmps8
      go_wp2_with fail
      refine HH.out.mono ?_
      rintro e w1 ⟨rfl, hB1⟩
      have HB1 := Lib.hid hB1
      clear hB1
      go_wp2
      go_ret2
      exact ⟨by rw [HR.out]; unfold tellU strL; rfl, HB1.out⟩
    · rw [if_neg (show ¬ (_ ∨ _ ∨ _ ∨ _) from hb)] at hH
      have hue := hue hb
      have hut := fun L n => hut L n hb
      have hsl : ∀ w, (Instr.slice 9 (.string s) (some (.int .i64 2)) none none).run Tryz.prog w = .ok (.string (strL (s.data.toList.drop 2))) w := fun w => by
        rw [run_slice_string_from_if w 9 s .i64 2 Tryz.underlying9, if_pos (by omega), show ((2 : Int).toNat) = 2 from rfl, ext_list, List.take_of_length_le (by rw [len_data]; exact Nat.le_refl _)]
      have hsz : (strL (s.data.toList.drop 2)).size = s.size - 2 := by rw [strL_size, List.length_drop, len_data]
      have hin := inflT_size (s := strL (s.data.toList.drop 2)) (most := M)
      have hI := fun v hg => inflate_any (w := v) (strL (s.data.toList.drop 2)) M (by rw [hsz]; omega) hM hg
      have hd : ∀ n, (strL (s.data.toList.drop 2)).data.toList.drop n = s.data.toList.drop (2 + n) := fun n => by rw [strL_list, List.drop_drop]
      obtain ⟨y, hy⟩ : ∃ y, y = strL (s.data.toList.drop 2) := ⟨_, rfl⟩
      rw [← hy] at hsl hsz hin hue
      simp only [← hy] at hI hd hut
      obtain ⟨L, n, er, hq⟩ : ∃ L n er, inflT y M = (L, n, er) := ⟨_, _, _, rfl⟩
      rw [hq] at hin hue
      simp only [hq] at hI
      have hn : n ≤ y.size := hin.1
      have hL : (L.length : Int) ≤ max M 0 := hin.2
      have HSL := Lib.hid hsl
      have HH := Lib.hid hH
      have HI := Lib.hid hI
      have HG := Lib.hid hG
      by_cases he : er = 0
      · subst he
        have hut := hut L n hq
        have hsl2 : ∀ w, (Instr.slice 9 (.string y) (some (.int .i64 (n : Int))) none none).run Tryz.prog w = .ok (.string (strL (s.data.toList.drop (2 + n)))) w := fun w => by
          rw [run_slice_string_from_if w 9 y .i64 (n : Int) Tryz.underlying9, if_pos (by omega), show ((n : Int).toNat) = n from Int.toNat_natCast n, ext_list, List.take_of_length_le (by rw [len_data]; exact Nat.le_refl _), hd]
        have hts : (strL (s.data.toList.drop (2 + n))).size ≤ 1000000000000000 := by rw [strL_size, List.length_drop, len_data]; omega
        obtain ⟨t, ht⟩ : ∃ t, t = strL (s.data.toList.drop (2 + n)) := ⟨_, rfl⟩
        rw [← ht] at hut hts
        simp only [← ht] at hsl2
        have hck := fun v => pcheck_any v (t := t) (x := strL L) hts (by rw [strL_size]; unfold maxLen; omega)
        simp only [strL_list] at hck
        have hrr : (if t.size < 4 then (3 : Int) else if t.data.toList.take 4 ≠ fourL (adSum L) then 17 else if 4 < t.size then 4 else 0) = tailE t L := by unfold tailE; rfl
        simp only [hrr] at hck
        obtain ⟨r, hr⟩ : ∃ r, r = tailE t L := ⟨_, rfl⟩
        rw [← hr] at hut
        simp only [← hr] at hck
        have hR2 := hR.trans hut
        have HCK := Lib.hid hck
        have hxe : (⟨L.toArray⟩ : ByteArray) = strL L := by unfold strL; rfl
        have HR := Lib.hid hR2
        have HSL2 := Lib.hid hsl2
        clear hR hG hun hue hut hH x0 x1 hb hsl hsz hin hI hd hy hq hn hL hck hrr hr hR2 hts ht hsl2
        have hsl := HSL.out
        have hsl2 := HSL2.out
        go_enter Tryz.func8, Tryz.ntmps8
        go_wp2_with fail
        refine HH.out.mono ?_
        rintro e w1 ⟨rfl, hB1⟩
        have HB1 := Lib.hid hB1
        clear hB1
        go_wp2_with fail
        refine (HI.out w1 (HG.out.but HB1.out)).mono ?_
        rintro e w2 ⟨he2, hB2⟩
        unfold tell at he2
        simp only [hxe] at he2
        subst he2
        have HB2 := Lib.hid (HB1.out.trans hB2)
        clear hB2
        go_wp2_with fail
        refine (HCK.out w2).mono ?_
        rintro e w3 ⟨rfl, hB3⟩
        have HB3 := Lib.hid (HB2.out.trans hB3)
        clear hB3
        by_cases hr0 : r = 0
        · have HR3 := Lib.hid (HR.out.trans (if_pos hr0))
          subst hr0
          clear HR
          go_wp2
          go_ret2
          exact ⟨by rw [HR3.out]; rfl, HB3.out⟩
        · have HR3 := Lib.hid (HR.out.trans (if_neg hr0))
          have d : (r != 0) = true := by simpa using hr0
          clear HR hr0
          go_wp2
          go_ret2
          exact ⟨by rw [HR3.out]; unfold tellU strL; rfl, HB3.out⟩
      · have HR := Lib.hid (hR.trans (hue he))
        have d : (er != 0) = true := by simpa using he
        clear hR hG hun hue hut hH x0 x1 hb hsl hsz hin hI hd hy hq hn hL he
        have hsl := HSL.out
        go_enter Tryz.func8, Tryz.ntmps8
        go_wp2_with fail
        refine HH.out.mono ?_
        rintro e w1 ⟨rfl, hB1⟩
        have HB1 := Lib.hid hB1
        clear hB1
        go_wp2_with fail
        refine (HI.out w1 (HG.out.but HB1.out)).mono ?_
        rintro e w2 ⟨he2, hB2⟩
        unfold tell at he2
        subst he2
        have HB2 := Lib.hid (HB1.out.trans hB2)
        clear hB2
        go_wp2
        go_ret2
        exact ⟨by rw [HR.out]; unfold tellU strL; rfl, HB2.out⟩
end Go.Proofs.YtghegmbafbpnjaaGreatDoor
set_option maxRecDepth 100000
set_option linter.unusedVariables false
namespace Go.Proofs.YtghegmbafbpnjaaGreatDoor
set_option maxRecDepth 100000
open Go Go.RowKit
theorem best_none : bestX [] = ⟨#[3, 0]⟩ := by
  have h : (bestX []).data.toList = [3, 0] := by decide +kernel
  apply ByteArray.ext; apply Array.ext'; exact h
end Go.Proofs.YtghegmbafbpnjaaGreatDoor
set_option maxRecDepth 100000
set_option linter.unusedVariables false
namespace Go.Proofs.YtghegmbafbpnjaaGreatDoor
set_option maxRecDepth 100000
open Go Go.RowKit
theorem wrap_none : wrapT [] = ⟨#[120, 1, 3, 0, 0, 0, 0, 1]⟩ := by
  have h : (wrapT []).data.toList = [120, 1, 3, 0, 0, 0, 0, 1] := by
    rw [wrapT_list, best_none]
    decide +kernel
  apply ByteArray.ext; apply Array.ext'; exact h
theorem unz_ex1 : unzT ⟨#[120, 1]⟩ 9 = ([], 3) := by decide +kernel
theorem unz_ex2 : unzT ⟨#[120, 2]⟩ 9 = ([], 16) := by decide +kernel
theorem unz_ex3 : unzT ⟨#[120, 1, 3, 0, 0, 0, 0, 2]⟩ 9 = ([], 17) := by decide +kernel
theorem tellU_bad (e : Int) : tellU ([], e) = .returned (.tuple #[.string ⟨#[]⟩, .int .i64 e]) := rfl
attribute [local irreducible] bestX wrapT unzT strL fourL adSum textX storX fixedX dynL
set_option maxHeartbeats 1000000 in
theorem awake6_any (w : World) (hL : GL w) (hD : GD w) : Calls Tryz.prog 7 #[] w fun e w' => e = .returned (.bool true) ∧ But [] w w' := by
  have h1 := fun v h => punwrap_any v h (s := ⟨#[120, 1]⟩) (M := 9) (by decide) (by decide)
  have h2 := fun v h => punwrap_any v h (s := ⟨#[120, 2]⟩) (M := 9) (by decide) (by decide)
  have h3 := fun v h => punwrap_any v h (s := ⟨#[120, 1, 3, 0, 0, 0, 0, 2]⟩) (M := 9) (by decide) (by decide)
  have h4 := fun v h => pwrap_any v h (s := ⟨#[]⟩) (by decide)
  simp only [unz_ex1, tellU_bad] at h1
  simp only [unz_ex2, tellU_bad] at h2
  simp only [unz_ex3, tellU_bad] at h3
  simp only [wrap_none] at h4
  have H1 := Lib.hid h1
  have H2 := Lib.hid h2
  have H3 := Lib.hid h3
  have H4 := Lib.hid h4
  have HL := Lib.hid hL
  have HD := Lib.hid hD
  clear h1 h2 h3 h4 hL hD
  go_enter Tryz.func7, Tryz.ntmps7
  go_wp2_with fail
  refine (H1.out _ HL.out).mono ?_
  rintro e w1 ⟨rfl, hB⟩
  have HB1 := Lib.hid hB
  clear hB
  go_wp2_with fail
  refine (H2.out _ (HL.out.but HB1.out)).mono ?_
  rintro e w2 ⟨rfl, hB⟩
  have HB2 := Lib.hid (HB1.out.trans hB)
  clear hB HB1
  go_wp2_with fail
  refine (H3.out _ (HL.out.but HB2.out)).mono ?_
  rintro e w3 ⟨rfl, hB⟩
  have HB3 := Lib.hid (HB2.out.trans hB)
  clear hB HB2
  go_wp2_with fail
  refine (H4.out _ (HD.out.but HB3.out)).mono ?_
  rintro e w4 ⟨rfl, hB⟩
  have HB4 := Lib.hid (HB3.out.trans hB)
  clear hB HB3
  go_wp2
  go_ret
  exact ⟨rfl, HB4.out⟩
end Go.Proofs.YtghegmbafbpnjaaGreatDoor
namespace Go.Proofs.YtghegmbafbpnjaaGreatDoor
set_option maxRecDepth 100000
open Go Go.RowKit
section
variable {α β : Type} {er er1 e : Int} {m : Rd α} {s : ByteArray} {p q : Nat} {a : α}
end
/-- The document's stream in block b, its reader in block rb: p bits are consumed, the bytes L are told, in block og; er is what was met first. -/
structure SR (w : World) (b rb : Nat) (og : Option Nat) (s : ByteArray) (p : Nat) (M : Int) (L : List UInt8) (er : Int) : Prop where
  rs : FS w rb s p
  hr : rb < b
  hs : s.size ≤ 20000
  hM : M ≤ 100000
  hL : (L.length : Int) ≤ max M 0
  cells : ∃ ov, Is w b 56 #[.pointer (some ⟨rb, 0, none⟩), ov, .int .i64 M, .int .i64 er] ∧ w.ownsRow (b + 1) 5 1 ov L.length (cellsOf L) ∧ ov.ownBlock = og

section
variable {w w' w1 : World} {b rb : Nat} {og : Option Nat} {s : ByteArray} {p q : Nat} {M er : Int} {L : List UInt8}
theorem SR.out (h : SR w b rb og s p M L er) : ∀ g, og = some g → b < g ∧ g < w.heap.size := fun g hg => by
  obtain ⟨ov, h1, h2, h3⟩ := h.cells
  have := h2.lt g (by rw [h3]; exact hg)
  omega
theorem SR.lt (h : SR w b rb og s p M L er) : b < w.heap.size := by
  obtain ⟨ov, h1, h2, h3⟩ := h.cells
  exact h1.lt
theorem SR.foot (h : SR w b rb og s p M L er) : ∀ k ∈ Foot b rb og, k < w.heap.size := fun k hk => by
  have h1 := h.lt
  have h2 := h.hr
  unfold Foot at hk
  rcases List.mem_cons.1 hk with e | hk
  · omega
  rcases List.mem_cons.1 hk with e | hk
  · omega
  exact (h.out k (by simpa using hk)).2
theorem SR.away {S : List Nat} (h : SR w b rb og s p M L er) (hB : But S w w') (hS : ∀ k ∈ S, k ∉ Foot b rb og) : SR w' b rb og s p M L er := by
  obtain ⟨ov, h1, h2, h3⟩ := h.cells
  have f1 : b ∉ S := fun hk => hS b hk (by simp [Foot])
  have f2 : rb ∉ S := fun hk => hS rb hk (by simp [Foot])
  exact ⟨h.rs.but hB f2, h.hr, h.hs, h.hM, h.hL, ov, h1.but hB f1, ownsRow_but h2 hB fun g hg hk => hS g hk (by rw [← h3, hg]; simp [Foot]), h3⟩
theorem SR.but {S : List Nat} (h : SR w b rb og s p M L er) (hB : But S w w') (hS : ∀ k ∈ S, w.heap.size ≤ k) : SR w' b rb og s p M L er :=
  h.away hB fun k hk hf => by have := h.foot k hf; have := hS k hk; omega
end
end Go.Proofs.YtghegmbafbpnjaaGreatDoor
namespace Go.Proofs.YtghegmbafbpnjaaGreatDoor
set_option maxRecDepth 100000
open Go Go.RowKit Go.ChangeShapes Go.WideShapes Go.ChangeAt Go.WideMaps Go.WideElems
section
variable {P : Program} {H : Type} {enc : TypeId × Value → H} {w : World} {base : Nat} {spare : TypeId × Value → Bool} {held : Bool}
theorem arr_cellB {sp : _} {t e n m : Nat} {cs : List Value} {ds : List (DataW H)} {p : List MemPlace} {zs : List Int} (ht : P.underlying t = some (.array n e)) (hce : P.cellsOf e = 1) (he : P.underlying e = some (.int .i64))
    (h : DataW.trod enc P w base sp held m t cs = some (.agg ds, p)) (hd : ds = zs.map fun z => .lit (.int .i64 z)) : ∀ i, i < n → cs[i]? = some (.int .i64 (zs.getD i 0)) := by
  intro i hi
  obtain ⟨xs, k, rfl, hx, hlen, hxn, hel⟩ := DataW.trod_array ht h
  injection hx with hx1 hx2
  injection hx1 with hx1
  have h1 := hel i hi
  rw [hce, Nat.mul_one, List.getElem?_eq_getElem (by omega)] at h1
  obtain ⟨z, e1, e2, _⟩ := DataW.trod_int he h1
  have hz : (zs.map fun z => (DataW.lit (.int .i64 z) : DataW H))[i]? = some (.lit (.int .i64 z)) := by
    rw [← hd, hx1, List.getElem?_map, List.getElem?_eq_getElem (by omega), e2]; rfl
  rw [List.getElem?_map] at hz
  cases hzi : zs[i]? with
  | none => rw [hzi] at hz; cases hz
  | some y =>
    rw [hzi] at hz
    have hy : y = z := by simpa using hz
    rw [List.getD_eq_getElem?_getD, hzi]
    have h2 : ((cs.drop i).take 1)[0]? = some (.int .i64 z) := by rw [e1]; rfl
    rw [List.getElem?_take_of_lt (by omega), List.getElem?_drop, Nat.add_zero] at h2
    rw [h2, hy]; rfl
end
/-- The variables that the row lists, with what they hold. -/
def laidLB : List (String × DataW Unit) := [("vitrine/inflate.smallOrder", Rows.laid_vitrine_inflate_smallOrder), ("vitrine/inflate.leastTimes", Rows.laid_vitrine_inflate_leastTimes), ("vitrine/inflate.timesBits", Rows.laid_vitrine_inflate_timesBits), ("vitrine/deflate.smallOrder", Rows.laid_vitrine_deflate_smallOrder)]
theorem gB0 : Tryz.prog.globalNamed "vitrine/inflate.smallOrder" = some 1 := by kernel_rfl
theorem gB1 : Tryz.prog.globalNamed "vitrine/inflate.leastTimes" = some 3 := by kernel_rfl
theorem gB2 : Tryz.prog.globalNamed "vitrine/inflate.timesBits" = some 2 := by kernel_rfl
theorem gB3 : Tryz.prog.globalNamed "vitrine/deflate.smallOrder" = some 0 := by kernel_rfl
theorem tB0 : (Tryz.prog.globals[1]?).map (·.type) = some 154 := by kernel_rfl
theorem tB1 : (Tryz.prog.globals[3]?).map (·.type) = some 183 := by kernel_rfl
theorem tB2 : (Tryz.prog.globals[2]?).map (·.type) = some 183 := by kernel_rfl
theorem tB3 : (Tryz.prog.globals[0]?).map (·.type) = some 154 := by kernel_rfl
theorem one_intB : Tryz.prog.cellsOf 3 = 1 := by kernel_rfl
theorem door_metB (os : Os) (args : Array Value) : laidMetH Tryz.prog laidLB ((World.doorLaid Tryz.prog 400 os).forCall (fun _ _ => 0) ⟨#[], args, []⟩).memory :=
  laidMetH_of_parts3 (fuel := 8) (laidMet_of_run' 8 (by kernel_rfl) (by kernel_rfl)) (by kernel_rfl) (by kernel_rfl)
theorem of_laidB {W : World} (h : laidMetH Tryz.prog laidLB W) : GL W ∧ GD W := by
  rw [MakeChecks.laidMetH_plain _ _ _ (by kernel_rfl)] at h
  obtain ⟨ps, ⟨g0', t0', cs0, f0, p0, q0, hg0, ht0, hv0, hd0, ⟨g1', t1', cs1, f1, p1, q1, hg1, ht1, hv1, hd1, ⟨g2', t2', cs2, f2, p2, q2, hg2, ht2, hv2, hd2, ⟨g3', t3', cs3, f3, p3, q3, hg3, ht3, hv3, hd3, _, _⟩, _⟩, _⟩, _⟩, _, _⟩ := h
  obtain rfl := Option.some.inj (gB0.symm.trans hg0)
  obtain rfl := Option.some.inj (gB1.symm.trans hg1)
  obtain rfl := Option.some.inj (gB2.symm.trans hg2)
  obtain rfl := Option.some.inj (gB3.symm.trans hg3)
  obtain rfl := Option.some.inj (tB0.symm.trans ht0)
  obtain rfl := Option.some.inj (tB1.symm.trans ht1)
  obtain rfl := Option.some.inj (tB2.symm.trans ht2)
  obtain rfl := Option.some.inj (tB3.symm.trans ht3)
  have a0 := arr_cellB (zs := [16, 17, 18, 0, 8, 7, 9, 6, 10, 5, 11, 4, 12, 3, 13, 2, 14, 1, 15]) Tryz.underlying154 one_intB Tryz.underlying3 hd0 rfl
  have a1 := arr_cellB (zs := [3, 3, 11]) Tryz.underlying183 one_intB Tryz.underlying3 hd1 rfl
  have a2 := arr_cellB (zs := [2, 3, 7]) Tryz.underlying183 one_intB Tryz.underlying3 hd2 rfl
  have a3 := arr_cellB (zs := [16, 17, 18, 0, 8, 7, 9, 6, 10, 5, 11, 4, 12, 3, 13, 2, 14, 1, 15]) Tryz.underlying154 one_intB Tryz.underlying3 hd3 rfl
  have b0 := fun i => World.var?_cell hg0 hv0 i
  have b1 := fun i => World.var?_cell hg1 hv1 i
  have b2 := fun i => World.var?_cell hg2 hv2 i
  have b3 := fun i => World.var?_cell hg3 hv3 i
  have c : ∀ (cs : Array Value) (i : Nat), cs.toList[i]? = cs[i]? := fun cs i => by simp
  have ho : ∀ i, i < 19 → ([16, 17, 18, 0, 8, 7, 9, 6, 10, 5, 11, 4, 12, 3, 13, 2, 14, 1, 15] : List Int).getD i 0 = ((ordS.getD i 0 : Nat) : Int) := by decide
  refine ⟨⟨fun i hi => ?_, ⟨?_, ?_, ?_⟩, ⟨?_, ?_, ?_⟩⟩, fun i hi => ?_⟩
  · rw [b0 i, ← c, a0 i hi, ho i hi]
  · rw [b2 0, ← c, a2 0 (by omega)]; rfl
  · rw [b2 1, ← c, a2 1 (by omega)]; rfl
  · rw [b2 2, ← c, a2 2 (by omega)]; rfl
  · rw [b1 0, ← c, a1 0 (by omega)]; rfl
  · rw [b1 1, ← c, a1 1 (by omega)]; rfl
  · rw [b1 2, ← c, a1 2 (by omega)]; rfl
  · rw [b3 i, ← c, a3 i hi, ho i hi]
end Go.Proofs.YtghegmbafbpnjaaGreatDoor
