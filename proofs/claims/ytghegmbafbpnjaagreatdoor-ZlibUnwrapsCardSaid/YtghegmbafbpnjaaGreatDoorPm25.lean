/- Several texts in one: ZlF (what Unwraps reach of them). -/
import Derived.Test.YtghegmbafbpnjaaGreatDoorPm01
import Derived.Test.YtghegmbafbpnjaaGreatDoorPm02
import Derived.Test.YtghegmbafbpnjaaGreatDoorPm03
import Derived.Test.YtghegmbafbpnjaaGreatDoorPm05
import Derived.Test.YtghegmbafbpnjaaGreatDoorPm06
import Derived.Test.YtghegmbafbpnjaaGreatDoorPm07
import Derived.Test.YtghegmbafbpnjaaGreatDoorPm08
import Derived.Test.YtghegmbafbpnjaaGreatDoorPm09
import Derived.Test.YtghegmbafbpnjaaGreatDoorPm10
import Derived.Test.YtghegmbafbpnjaaGreatDoorPm12
import Derived.Test.YtghegmbafbpnjaaGreatDoorPm13
import Derived.Test.YtghegmbafbpnjaaGreatDoorPm14
import Derived.Test.YtghegmbafbpnjaaGreatDoorPm15
import Derived.Test.YtghegmbafbpnjaaGreatDoorPm16
import Derived.Test.YtghegmbafbpnjaaGreatDoorPm17
import Derived.Test.YtghegmbafbpnjaaGreatDoorPm20
import Derived.Test.YtghegmbafbpnjaaGreatDoorPm21
import Derived.Test.YtghegmbafbpnjaaGreatDoorPm22
import Derived.Test.YtghegmbafbpnjaaGreatDoorPm24
import Derived.Below
import Derived.BigQuiet
import Derived.BigRegion
import Derived.Deep.AppendLies
import Derived.Deep.CutBlock
import Derived.Deep.CutRange
import Derived.Deep.DeepCutAuto
import Derived.Deep.Draws
import Derived.Deep.LoopGhost
import Derived.Deep.QuietTactic
import Derived.Deep.RegionLaw
import Derived.Deep.RegionWith
import Derived.Deep.Slices
import Derived.Handy
import Derived.Laws.BitsAllLaws
import Derived.Laws.BitsLemmas
import Derived.Laws.CopyOwn
import Derived.Laws.IdiomStrings
import Derived.Laws.MakeOwn
import Derived.Laws.OwnMore
import Derived.Laws.Rows
import Derived.Laws.Strings2
import Derived.Laws.Strings3
import Derived.Laws.StructEq
import Derived.Lib.AppendStr
import Derived.Lib.AppendZeros
import Derived.Lib.Hide
import Derived.Lib.Strings
import Derived.LoopIn
import Derived.LoopNIn
import Derived.OneCell
import Derived.OpenShut
import Derived.Outline
import Derived.OwnWalk
import Derived.OwnWalkIn
import Derived.ProofKit
import Derived.RangeFuncBound
import Derived.RangeFuncCalls
import Derived.RangeFuncLeaves
import Derived.RangeFuncNested
import Derived.RegionTactic
import Derived.ScopeJumps
import Derived.Shelf.Abstract
import Derived.Shelf.RegionOpen
import Derived.Shelf.SlSortCmp.QuietGrown
import Derived.StillTailTactics
import Derived.TacticsInMore
import Derived.Test.YtghegmbafbpnjaaGreatDoorChecked
import Derived.WalkKit
import Derived.WalkLawsBesides
import Derived.WalkMore
import Derived.WalkSpells
set_option maxRecDepth 100000
set_option linter.unusedVariables false
set_option maxRecDepth 100000
set_option linter.unusedVariables false
namespace Go.Proofs.YtghegmbafbpnjaaGreatDoor
set_option maxRecDepth 100000
open Go Go.RowKit
attribute [local irreducible] bestX wrapT unzT tailE strL fourL adSum textX storX fixedX dynL
theorem unz_tail2 {s : ByteArray} {M : Int} {L : List UInt8} {n : Nat} (h : 2 ≤ s.size) (hb : ¬ badHead (s.data.toList.getD 0 0).toNat (s.data.toList.getD 1 0).toNat) (he : inflT (strL (s.data.toList.drop 2)) M = (L, n, 0)) {t : ByteArray} (ht : t = strL (s.data.toList.drop (2 + n))) :
    (t.size < 4 → unzT s M = ([], 3)) ∧ (4 ≤ t.size → ofL (t.data.toList.take 4) ≠ adSum L → unzT s M = ([], 17)) ∧ (4 ≤ t.size → ofL (t.data.toList.take 4) = adSum L → unzT s M = if 4 < t.size then ([], 4) else (L, 0)) := by
  have hu := unz_tail h hb he
  rw [← ht] at hu
  rw [hu]
  unfold tailE
  have hl : t.data.toList.length = t.size := by simp
  refine ⟨fun h4 => ?_, fun h4 ho => ?_, fun h4 ho => ?_⟩
  · simp only [if_pos h4]; rw [if_neg (by decide)]
  · have hq : t.data.toList.take 4 ≠ fourL (adSum L) := fun e => ho (by rw [e, ofL_four (adSum_lt L)])
    simp only [if_neg (show ¬ t.size < 4 by omega), if_pos hq]; rw [if_neg (by decide)]
  · have hq : ¬ t.data.toList.take 4 ≠ fourL (adSum L) := fun e => e (ofL_inj4 (by rw [List.length_take]; omega) (fourL_length _) (by rw [ho, ofL_four (adSum_lt L)]))
    simp only [if_neg (show ¬ t.size < 4 by omega), if_neg hq]
    by_cases h5 : 4 < t.size
    · simp only [if_pos h5]; rw [if_neg (by decide)]
    · simp only [if_neg h5]; rw [if_pos trivial]
set_option maxHeartbeats 1000000 in
theorem eunwrap_any (w : World) {s : ByteArray} {M : Int} (hs : s.size ≤ 20000) (hM : M ≤ 100000) :
    Calls Tryz.prog 9 #[.string s, .int .i64 M] w fun e w' => e = tellU (unzT s M) ∧ But [] w w' := by
  obtain ⟨R, hR⟩ : ∃ R, R = unzT s M := ⟨_, rfl⟩
  rw [← hR]
  by_cases h2 : s.size < 2
  · have HR := Lib.hid (hR.trans (unz_few M h2))
    have d : decide ((s.size : Int) < 2) = true := by simp; omega
    clear hR
    go_enter Tryz.func9, Tryz.ntmps9
    go_wp2
    go_ret2
    exact ⟨by rw [HR.out]; unfold tellU strL; rfl, But.refl [] w⟩
  · have h2' : 2 ≤ s.size := by omega
    have d : decide ((s.size : Int) < 2) = false := by simp; omega
    have x0 : s[0].toNat = (s.data.toList.getD 0 0).toNat := by rw [byteZ_at s (by omega)]
    have x1 : s[1].toNat = (s.data.toList.getD 1 0).toNat := by rw [byteZ_at s (by omega)]
    have k0 : ∀ w, (Instr.index 9 (.string s) (.int .i64 0)).run Tryz.prog w = .ok (.int .u8 (s[0].toNat : Nat)) w := fun w => byteZ_run (k := 0) (by omega) w
    have k1 : ∀ w, (Instr.index 9 (.string s) (.int .i64 1)).run Tryz.prog w = .ok (.int .u8 (s[1].toNat : Nat)) w := fun w => byteZ_run (k := 1) (by omega) w
    simp only [x0] at k0
    simp only [x1] at k1
    have l0 := (s.data.toList.getD 0 0).toNat_lt
    have l1 := (s.data.toList.getD 1 0).toNat_lt
    have hun := fun hb => unz_badZ M h2' hb
    have hue := fun hb he => unz_err (M := M) h2' hb he
    have hut := fun L n hb he t ht => unz_tail2 (M := M) (L := L) (n := n) h2' hb he (t := t) ht
    obtain ⟨x, hx⟩ : ∃ x, x = (s.data.toList.getD 0 0).toNat := ⟨_, rfl⟩
    obtain ⟨y, hy⟩ : ∃ x, x = (s.data.toList.getD 1 0).toNat := ⟨_, rfl⟩
    simp only [← hx] at k0 l0 hun hue hut
    simp only [← hy] at k1 l1 hun hue hut
    clear x0 x1 hx hy
    by_cases hb : badHead x y
    · have HR := Lib.hid (hR.trans (hun hb))
      clear hR hun hue hut
      go_enter Tryz.func9, Tryz.ntmps9
      go_wp2_with fail
      all_goals
        first
          | (exfalso; unfold badHead at hb; omega)
          | (go_ret2; exact ⟨by rw [HR.out]; unfold tellU strL; rfl, But.refl [] w⟩)
          | (exfalso; clear k0 k1 HR; unfold badHead at hb; simp only [beq_eq_false_iff_ne] at *; omega)
    · have g1 : ((x : Int) % 16 != 8) = false := by unfold badHead at hb; simp; omega
      have g2 : decide (7 < (x : Int) / 16) = false := by unfold badHead at hb; simp; omega
      have g3 : ((256 * (x : Int) + (y : Int)) % 31 != 0) = false := by unfold badHead at hb; simp; omega
      have g4 : ((y : Int) / 32 % 2 == 1) = false := by unfold badHead at hb; simp; omega
      have hue := hue hb
      have hsl : ∀ w, (Instr.slice 9 (.string s) (some (.int .i64 2)) none none).run Tryz.prog w = .ok (.string (strL (s.data.toList.drop 2))) w := fun w => by
        rw [run_slice_string_from_if w 9 s .i64 2 Tryz.underlying9, if_pos (by omega), show ((2 : Int).toNat) = 2 from rfl, ext_list, List.take_of_length_le (by rw [len_data]; exact Nat.le_refl _)]
      have hsz : (strL (s.data.toList.drop 2)).size = s.size - 2 := by rw [strL_size, List.length_drop, len_data]
      have hin := inflT_size (s := strL (s.data.toList.drop 2)) (most := M)
      have hI := fun v => rinflate_any v (s := strL (s.data.toList.drop 2)) (M := M) (by rw [hsz]; omega) hM
      obtain ⟨z, hz⟩ : ∃ y, y = strL (s.data.toList.drop 2) := ⟨_, rfl⟩
      rw [← hz] at hsl hsz hin hue
      simp only [← hz] at hI hut
      obtain ⟨L, n, er, hq⟩ : ∃ L n er, inflT z M = (L, n, er) := ⟨_, _, _, rfl⟩
      rw [hq] at hin hue
      simp only [hq] at hI
      have hn : n ≤ z.size := hin.1
      have hL : (L.length : Int) ≤ max M 0 := hin.2
      have HSL := Lib.hid hsl
      have HI := Lib.hid hI
      by_cases he : er = 0
      · subst he
        obtain ⟨t, ht⟩ : ∃ t, t = strL (s.data.toList.drop (2 + n)) := ⟨_, rfl⟩
        obtain ⟨u1, u2, u3⟩ := hut L n hb hq t ht
        have hts : t.size = s.size - (2 + n) := by rw [ht, strL_size, List.length_drop, len_data]
        have hsl2 : ∀ w, (Instr.slice 9 (.string s) (some (.int .i64 (2 + (n : Int)))) none none).run Tryz.prog w = .ok (.string t) w := fun w => by
          rw [run_slice_string_from_if w 9 s .i64 (2 + (n : Int)) Tryz.underlying9, if_pos (by omega), show ((2 + (n : Int)).toNat) = 2 + n by omega, ext_list, List.take_of_length_le (by rw [len_data]; exact Nat.le_refl _), ht]
        have hxe : (⟨L.toArray⟩ : ByteArray) = strL L := by unfold strL; rfl
        have HSL2 := Lib.hid hsl2
        have hnb : n ≤ 20000 := by omega
        by_cases h4 : t.size < 4
        · have HR := Lib.hid (hR.trans (u1 h4))
          have d4 : decide ((t.size : Int) < 4) = true := by simp; omega
          clear hR hun hue hut hsl hsz hin hI hz hq hL u1 u2 u3 ht hts hsl2
          have hsl := HSL.out
          have hsl2 := HSL2.out
          go_enter Tryz.func9, Tryz.ntmps9
          go_wp2_with fail
          refine (HI.out w).mono ?_
          rintro e w2 ⟨he2, hB2⟩
          unfold tell at he2
          subst he2
          have HB2 := Lib.hid hB2
          clear hB2
          go_wp2
          go_ret2
          exact ⟨by rw [HR.out]; unfold tellU strL; rfl, HB2.out⟩
        · have h4' : 4 ≤ t.size := by omega
          have d4 : decide ((t.size : Int) < 4) = false := by simp; omega
          have hsl3 : ∀ w, (Instr.slice 9 (.string t) none (some (.int .i64 4)) none).run Tryz.prog w = .ok (.string (strL (t.data.toList.take 4))) w := fun w => by
            rw [run_slice_string_to_if w 9 t .i64 4 Tryz.underlying9, if_pos (by omega), show ((4 : Int).toNat) = 4 from rfl, ext_list, List.drop_zero]
          have hof := fun v => eof_any v (s := strL (t.data.toList.take 4)) (by rw [strL_size, List.length_take]; omega)
          rw [strL_list] at hof
          have had := fun v => ref_adler (strL L) v (by rw [strL_size]; unfold maxLen; omega)
          rw [strL_list] at had
          obtain ⟨a, ha⟩ : ∃ a, a = ofL (t.data.toList.take 4) := ⟨_, rfl⟩
          obtain ⟨b, hb2⟩ : ∃ a, a = adSum L := ⟨_, rfl⟩
          rw [← ha] at hof u2 u3
          rw [← hb2] at had u2 u3
          have HOF := Lib.hid hof
          have HAD := Lib.hid had
          have HSL3 := Lib.hid hsl3
          by_cases hab : a = b
          · have d7 : ((a : Int) != (b : Int)) = false := by rw [hab]; simp
            by_cases h5 : 4 < t.size
            · have HR := Lib.hid (hR.trans ((u3 h4' hab).trans (if_pos h5)))
              have d5 : decide ((4 : Int) < (t.size : Int)) = true := by simp; omega
              clear hR hun hue hut hsl hsz hin hI hz hq hL u1 u2 u3 ht hts hsl2 hsl3 hof had ha hb2 hab
              have hsl := HSL.out
              have hsl2 := HSL2.out
              have hsl3 := HSL3.out
              go_enter Tryz.func9, Tryz.ntmps9
              go_wp2_with fail
              refine (HI.out w).mono ?_
              rintro e w2 ⟨he2, hB2⟩
              unfold tell at he2
              simp only [hxe] at he2
              subst he2
              have HB2 := Lib.hid hB2
              clear hB2
              go_wp2_with fail
              refine (HOF.out w2).mono ?_
              rintro e w3 ⟨rfl, rfl⟩
              go_wp2_with fail
              refine (HAD.out w2).mono ?_
              rintro e w3 ⟨rfl, rfl⟩
              go_wp2
              go_ret2
              exact ⟨by rw [HR.out]; unfold tellU strL; rfl, HB2.out⟩
            · have HR := Lib.hid (hR.trans ((u3 h4' hab).trans (if_neg h5)))
              have d5 : decide ((4 : Int) < (t.size : Int)) = false := by simp; omega
              clear hR hun hue hut hsl hsz hin hI hz hq hL u1 u2 u3 ht hts hsl2 hsl3 hof had ha hb2 hab
              have hsl := HSL.out
              have hsl2 := HSL2.out
              have hsl3 := HSL3.out
              go_enter Tryz.func9, Tryz.ntmps9
              go_wp2_with fail
              refine (HI.out w).mono ?_
              rintro e w2 ⟨he2, hB2⟩
              unfold tell at he2
              simp only [hxe] at he2
              subst he2
              have HB2 := Lib.hid hB2
              clear hB2
              go_wp2_with fail
              refine (HOF.out w2).mono ?_
              rintro e w3 ⟨rfl, rfl⟩
              go_wp2_with fail
              refine (HAD.out w2).mono ?_
              rintro e w3 ⟨rfl, rfl⟩
              go_wp2
              go_ret2
              exact ⟨by rw [HR.out]; rfl, HB2.out⟩
          · have HR := Lib.hid (hR.trans (u2 h4' hab))
            have d7 : ((a : Int) != (b : Int)) = true := by simp; omega
            clear hR hun hue hut hsl hsz hin hI hz hq hL u1 u2 u3 ht hts hsl2 hsl3 hof had ha hb2 hab
            have hsl := HSL.out
            have hsl2 := HSL2.out
            have hsl3 := HSL3.out
            go_enter Tryz.func9, Tryz.ntmps9
            go_wp2_with fail
            refine (HI.out w).mono ?_
            rintro e w2 ⟨he2, hB2⟩
            unfold tell at he2
            simp only [hxe] at he2
            subst he2
            have HB2 := Lib.hid hB2
            clear hB2
            go_wp2_with fail
            refine (HOF.out w2).mono ?_
            rintro e w3 ⟨rfl, rfl⟩
            go_wp2_with fail
            refine (HAD.out w2).mono ?_
            rintro e w3 ⟨rfl, rfl⟩
            go_wp2
            go_ret2
            exact ⟨by rw [HR.out]; unfold tellU strL; rfl, HB2.out⟩
      · have HR := Lib.hid (hR.trans (hue he))
        have d7 : (er != 0) = true := by simpa using he
        clear hR hun hue hut hsl hsz hin hI hz hq hn hL he
        have hsl := HSL.out
        go_enter Tryz.func9, Tryz.ntmps9
        go_wp2_with fail
        refine (HI.out w).mono ?_
        rintro e w2 ⟨he2, hB2⟩
        unfold tell at he2
        subst he2
        have HB2 := Lib.hid hB2
        clear hB2
        go_wp2
        go_ret2
        exact ⟨by rw [HR.out]; unfold tellU strL; rfl, HB2.out⟩
set_option maxHeartbeats 1000000 in
theorem zlibUnwraps_walk {s : ByteArray} {M : Int} {w : World} (hs : s.size ≤ 140737488351232) (_hm : (Lit.int .i64 M).wf = true) (hG : GL w ∧ GD w) :
    Calls Tryz.prog 4 #[.string s, .int .i64 M] w fun e w' => e = .returned (.bool true) ∧ Below w.heap.size w w' := by
  obtain ⟨hL, hD⟩ := hG
  have HA := Lib.hid (fun v hl hd => awake6_any v hl hd)
  have HL := Lib.hid hL
  have HD := Lib.hid hD
  by_cases h1 : 20000 < s.size
  · have d : decide ((20000 : Int) < (s.size : Int)) = true := by simp; omega
    clear hL hD h1
    go_enter Tryz.func4, Tryz.ntmps4
    go_wp2_with fail
    refine (HA.out _ HL.out HD.out).mono ?_
    rintro e w1 ⟨rfl, hB⟩
    have HB1 := Lib.hid hB
    clear hB
    go_wp2
    go_ret
    exact ⟨rfl, HB1.out.belowZ⟩
  · have d : decide ((20000 : Int) < (s.size : Int)) = false := by simp; omega
    by_cases h2 : 100000 < M
    · have d2 : decide ((100000 : Int) < M) = true := by simpa using h2
      clear hL hD h1 h2
      go_enter Tryz.func4, Tryz.ntmps4
      go_wp2_with fail
      refine (HA.out _ HL.out HD.out).mono ?_
      rintro e w1 ⟨rfl, hB⟩
      have HB1 := Lib.hid hB
      clear hB
      go_wp2
      go_ret
      exact ⟨rfl, HB1.out.belowZ⟩
    · have d2 : decide ((100000 : Int) < M) = false := by simpa using h2
      have h3 := fun v h => punwrap_any v h (s := s) (M := M) (by omega) (by omega)
      have h4 := fun v => eunwrap_any v (s := s) (M := M) (by omega) (by omega)
      obtain ⟨r, er, hr⟩ : ∃ r er, tellU (unzT s M) = .returned (.tuple #[.string r, .int .i64 er]) := ⟨_, _, rfl⟩
      simp only [hr] at h3 h4
      have H3 := Lib.hid h3
      have H4 := Lib.hid h4
      clear hL hD h1 h2 h3 h4 hr
      go_enter Tryz.func4, Tryz.ntmps4
      go_wp2_with fail
      refine (H3.out _ HL.out).mono ?_
      rintro e w1 ⟨rfl, hB⟩
      have HB1 := Lib.hid hB
      clear hB
      go_wp2_with fail
      refine (H4.out w1).mono ?_
      rintro e w2 ⟨rfl, hB⟩
      have HB2 := Lib.hid (HB1.out.trans hB)
      clear hB
      go_wp2_with fail
      refine (HA.out _ (HL.out.but HB2.out) (HD.out.but HB2.out)).mono ?_
      rintro e w3 ⟨rfl, hB⟩
      have HB3 := Lib.hid (HB2.out.trans hB)
      clear hB
      go_wp2
      go_ret
      exact ⟨rfl, HB3.out.belowZ⟩
end Go.Proofs.YtghegmbafbpnjaaGreatDoor
