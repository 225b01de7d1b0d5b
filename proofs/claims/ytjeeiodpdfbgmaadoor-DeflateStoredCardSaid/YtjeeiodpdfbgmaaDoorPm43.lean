/- Several texts in one: EfJ, DgR (what Stored reach of them). -/
import Derived.Test.YtjeeiodpdfbgmaaDoorPm01
import Derived.Test.YtjeeiodpdfbgmaaDoorPm02
import Derived.Test.YtjeeiodpdfbgmaaDoorPm03
import Derived.Test.YtjeeiodpdfbgmaaDoorPm04
import Derived.Test.YtjeeiodpdfbgmaaDoorPm05
import Derived.Test.YtjeeiodpdfbgmaaDoorPm06
import Derived.Test.YtjeeiodpdfbgmaaDoorPm08
import Derived.Test.YtjeeiodpdfbgmaaDoorPm09
import Derived.Test.YtjeeiodpdfbgmaaDoorPm10
import Derived.Test.YtjeeiodpdfbgmaaDoorPm11
import Derived.Test.YtjeeiodpdfbgmaaDoorPm12
import Derived.Test.YtjeeiodpdfbgmaaDoorPm13
import Derived.Test.YtjeeiodpdfbgmaaDoorPm14
import Derived.Test.YtjeeiodpdfbgmaaDoorPm16
import Derived.Test.YtjeeiodpdfbgmaaDoorPm19
import Derived.Test.YtjeeiodpdfbgmaaDoorPm30
import Derived.Below
import Derived.BigQuiet
import Derived.BigRegion
import Derived.Deep.AppendLies
import Derived.Deep.CutBlock
import Derived.Deep.CutRange
import Derived.Deep.DeepCutAuto
import Derived.Deep.Draws
import Derived.Deep.LoopGhost
import Derived.Deep.QuietTactic
import Derived.Deep.RegionLaw
import Derived.Deep.RegionWith
import Derived.Deep.Slices
import Derived.Handy
import Derived.Laws.BitsAllLaws
import Derived.Laws.BitsLemmas
import Derived.Laws.CopyOwn
import Derived.Laws.IdiomStrings
import Derived.Laws.OwnMore
import Derived.Laws.Rows
import Derived.Laws.Strings2
import Derived.Laws.Strings3
import Derived.Laws.StructEq
import Derived.Lib.AppendStr
import Derived.Lib.AppendZeros
import Derived.Lib.Hide
import Derived.Lib.Strings
import Derived.LoopIn
import Derived.LoopNIn
import Derived.OneCell
import Derived.OpenShut
import Derived.Outline
import Derived.OwnWalk
import Derived.OwnWalkIn
import Derived.ProofKit
import Derived.RangeFuncBound
import Derived.RangeFuncCalls
import Derived.RangeFuncLeaves
import Derived.RangeFuncNested
import Derived.RegionTactic
import Derived.ScopeJumps
import Derived.Shelf.Abstract
import Derived.Shelf.RegionOpen
import Derived.Shelf.SlSortCmp.QuietGrown
import Derived.StillTailTactics
import Derived.TacticsInMore
import Derived.Test.YtjeeiodpdfbgmaaDoorChecked
import Derived.WalkKit
import Derived.WalkLawsBesides
import Derived.WalkMore
import Derived.WalkSpells
set_option maxRecDepth 100000
set_option linter.unusedVariables false
set_option maxRecDepth 100000
set_option linter.unusedVariables false
namespace Go.Proofs.YtjeeiodpdfbgmaaDoor
set_option maxRecDepth 100000
open Go Go.RowKit
theorem layY_head (q : Nat × Nat) (n : Nat) (a : ByteArray) : (bytesX q.1 q.2 (⟨(headY n).toArray⟩ ++ a), bytesN q.2 (⟨(headY n).toArray⟩ ++ a)) = layY q (headY n ++ a.data.toList) := by
  have e : (⟨(headY n).toArray⟩ : ByteArray) ++ a = ⟨(headY n ++ a.data.toList).toArray⟩ := by
    apply ByteArray.ext
    simp
  rw [e]
  rfl
attribute [local irreducible] layB layY storX textX headY
set_option maxHeartbeats 2000000 in
theorem estored_all (w : World) {s : ByteArray} (hs : s.size ≤ 1000000) :
    Calls Tryd.prog 14 #[.string s] w fun e w' => e = .returned (.string (textX (storX s.data.toList))) ∧ But [] w w' := by
  have hls := len_data s
  obtain ⟨X, hX⟩ : ∃ X, X = storX s.data.toList := ⟨_, rfl⟩
  have h0 : storG s.size (0, 0) s.data.toList = X := by rw [hX]; unfold storX; rw [hls]
  rw [← hX]
  have H0 := Lib.hid h0
  have hW0 := WroteF.refl (fwnew w)
  have HW0 := Lib.hid hW0
  have hsa : (w.alloc (.cells #[.slice none 0 0, .int .i64 0] 49)).heap.size = w.heap.size + 1 := by simp
  have hB0 := (But.refl [] w).alloc (.cells #[.slice none 0 0, .int .i64 0] 49)
  have HB0 := Lib.hid hB0
  obtain ⟨w1, hw1⟩ : ∃ w1, w1 = w.alloc (.cells #[.slice none 0 0, .int .i64 0] 49) := ⟨_, rfl⟩
  rw [← hw1] at HW0 hsa HB0
  have HSA := Lib.hid hsa
  clear hsa hW0 hls hX h0 hB0
  go_enter Tryd.func14, Tryd.ntmps14
  go_wp2
  rw [← hw1]
  clear hw1
  go_loopw [0] (fun dv wr => ∃ (d : ByteArray) (q : Nat × Nat), dv = .string d ∧ d.size ≤ s.size ∧ Hid (storG d.size q d.data.toList = X) ∧ Hid (WroteF w1 wr (w.heap.size + 1) w.heap.size none q) ∧ q.2 + 16 * d.size ≤ 16 * s.size) (fun dv _ => match dv with | .string d => d.size | _ => 0)
  case atStart => exact ⟨s, (0, 0), rfl, Nat.le_refl _, H0, HW0, by show 0 + 16 * s.size ≤ _; omega⟩
  case round =>
    obtain ⟨d, q, rfl, hd, HG, HW, hq⟩ := hrel
    clear HW0 H0
    have hld := len_data d
    obtain ⟨n, hn⟩ : ∃ n, n = min d.size 65535 := ⟨_, rfl⟩
    have hmin : min (d.size : Int) 65535 = (n : Nat) := by omega
    have hnd : n ≤ d.size := by omega
    have hn6 : n ≤ 65535 := by omega
    obtain ⟨a, ha⟩ : ∃ a, a = d.extract 0 n := ⟨_, rfl⟩
    obtain ⟨c, hc⟩ : ∃ c, c = d.extract n d.size := ⟨_, rfl⟩
    have hda : a.data.toList = d.data.toList.take n := by rw [ha, ByteArray.data_extract, Array.toList_extract]; simp
    have hdc : c.data.toList = d.data.toList.drop n := by
      rw [hc, ByteArray.data_extract, Array.toList_extract]
      rw [List.extract_eq_take_drop, List.take_of_length_le (by rw [List.length_drop]; omega)]
    have hsa : a.size = n := by rw [ha, ByteArray.size_extract]; omega
    have hsc : c.size = d.size - n := by rw [hc, ByteArray.size_extract]; omega
    have hsl1 : ∀ w, (Instr.slice 9 (.string d) none (some (.int .i64 (n : Int))) none).run Tryd.prog w = .ok (.string a) w := fun w => by
      rw [run_slice_string_to_if w 9 d .i64 _ Tryd.underlying9, if_pos (by omega), ha]; rfl
    have hsl2 : ∀ w, (Instr.slice 9 (.string d) (some (.int .i64 (n : Int))) none none).run Tryd.prog w = .ok (.string c) w := fun w => by
      rw [run_slice_string_from_if w 9 d .i64 _ Tryd.underlying9, if_pos (by omega), hc]; rfl
    obtain ⟨r1, hr1⟩ : ∃ m : Nat, m = n % 256 := ⟨_, rfl⟩
    obtain ⟨n1, hn1⟩ : ∃ m : Nat, m = n / 256 := ⟨_, rfl⟩
    obtain ⟨r2, hr2⟩ : ∃ m : Nat, m = 255 - n % 256 := ⟨_, rfl⟩
    obtain ⟨n2, hn2⟩ : ∃ m : Nat, m = 255 - n / 256 := ⟨_, rfl⟩
    have b1 : IntKind.u8.wrap (n : Int) = (r1 : Int) := by simp [IntKind.wrap_u8]; omega
    have b2 : IntKind.i64.wrap ((n : Int) / 256) = (n1 : Int) := by rw [wrapi (by omega) (by omega)]; omega
    have b3 : IntKind.u8.wrap (n1 : Int) = (n1 : Int) := wrapu (by omega) (by omega)
    have b4 : (n : Int).tmod 256 = (r1 : Int) := by rw [Int.tmod_eq_emod_of_nonneg (by omega)]; omega
    have b5 : IntKind.i64.wrap (255 - (r1 : Int)) = (r2 : Int) := by rw [wrapi (by omega) (by omega)]; omega
    have b6 : IntKind.u8.wrap (r2 : Int) = (r2 : Int) := wrapu (by omega) (by omega)
    have b7 : IntKind.i64.wrap (255 - (n1 : Int)) = (n2 : Int) := by rw [wrapi (by omega) (by omega)]; omega
    have b8 : IntKind.u8.wrap (n2 : Int) = (n2 : Int) := wrapu (by omega) (by omega)
    have kc := fun W : World => conv_head W hr1 hn1 hr2 hn2 hn6
    have hsz : ((⟨(headY n).toArray⟩ : ByteArray) ++ a).size ≤ 70368744177664 := by rw [ByteArray.size_append, size_head]; omega
    have HSZ := Lib.hid hsz
    have kd : (9223372036854775807 < (headY n).length + a.size) = False := by rw [head_len]; simp; omega
    clear hsz hr1 hn1 hr2 hn2 ha hc
    by_cases hle : d.size ≤ 65535
    · obtain rfl : n = d.size := by omega
      have dn : ((d.size : Int) == (d.size : Int)) = true := by simp
      have hst := storG_end (l := d.data.toList) (by omega) q
      rw [hld, HG.out] at hst
      obtain ⟨q1, hq1⟩ : ∃ q1, q1 = layB q 1 1 := ⟨_, rfl⟩
      obtain ⟨q2, hq2⟩ : ∃ q2, q2 = layB q1 0 2 := ⟨_, rfl⟩
      have hl1 : q1.2 ≤ 20000000 := by rw [hq1, layB_eq (v := 1) (n := 1) (by omega) (by omega)]; show q.2 + 1 ≤ _; omega
      have hl2 : q2.2 ≤ 20000010 := by rw [hq2, layB_eq (v := 0) (n := 2) (by omega) (by omega)]; show q1.2 + 2 ≤ _; omega
      have hz : X = layY q2 (headY d.size ++ a.data.toList) := by
        rw [hst, hda, List.take_of_length_le (by omega)]; unfold layZ; rw [hld, hq2, hq1]
      have HQ1 := Lib.hid hq1
      have HQ2 := Lib.hid hq2
      have HZ := Lib.hid hz
      clear hst hq1 hq2 hz hld hda hdc hsa hsc hn
      go_wp2_with fail
      refine (HW.out.bits (by rw [HSA.out]; exact Nat.le_refl _) (by omega) 1 1).mono ?_
      rintro e w3 ⟨rfl, hW1⟩
      rw [← HQ1.out] at hW1
      have HW1 := Lib.hid hW1
      clear hW1
      go_wp2_with fail
      refine (HW1.out.bits (by rw [HSA.out]; exact Nat.le_refl _) (by omega) 0 2).mono ?_
      rintro e w2 ⟨rfl, hW2⟩
      rw [← HQ2.out] at hW2
      have HW2 := Lib.hid hW2
      clear hW2
      go_upto_region 8 with (fail)
      go_region_with (first | (go_at_call 29; go_loud (refine (WroteF.bytes (HW2.out.other ((((But.refl [] w2).alloc (.cells #[.int .u8 r1, .int .u8 n1, .int .u8 r2, .int .u8 n2] 5))).drew)) (by rw [HSA.out]; exact Nat.le_refl _) (by omega) _ HSZ.out).mono ?_; rintro e w3 ⟨rfl, hW3⟩; have HW3 := Lib.hid hW3; clear hW3)))
      rw [layY_head, ← HZ.out] at HW3
      clear b1 b2 b3 b4 b5 b6 b7 b8 kc kd HW2 HW1
      go_simp
      go_wp2_with fail
      refine HW3.out.text.mono ?_
      rintro e w4 ⟨rfl, rfl⟩
      go_wp2
      go_ret
      exact ⟨rfl, HB0.out.fresh HW3.out.but (fun i hi => by simp at hi; omega)⟩
    · obtain rfl : n = 65535 := by omega
      have hst := storG_step (l := d.data.toList) (by omega) q
      rw [hld, HG.out, ← hda, ← hdc, len_data c] at hst
      have hlz := layZ_few 0 (by omega) q a.data.toList
      rw [len_data a, hsa] at hlz
      obtain ⟨q1, hq1⟩ : ∃ q1, q1 = layB q 0 1 := ⟨_, rfl⟩
      obtain ⟨q2, hq2⟩ : ∃ q2, q2 = layB q1 0 2 := ⟨_, rfl⟩
      have hl1 : q1.2 ≤ 20000000 := by rw [hq1, layB_eq (v := 0) (n := 1) (by omega) (by omega)]; show q.2 + 1 ≤ _; omega
      have hl2 : q2.2 ≤ 20000010 := by rw [hq2, layB_eq (v := 0) (n := 2) (by omega) (by omega)]; show q1.2 + 2 ≤ _; omega
      obtain ⟨qn, hqn⟩ : ∃ qn, qn = layZ 0 q a.data.toList := ⟨_, rfl⟩
      have hz : qn = layY q2 (headY 65535 ++ a.data.toList) := by rw [hqn]; unfold layZ; rw [len_data a, hsa, hq2, hq1]
      rw [← hqn] at hst hlz
      have HST := Lib.hid hst.symm
      have HQ1 := Lib.hid hq1
      have HQ2 := Lib.hid hq2
      have HZ := Lib.hid hz
      have hdn : ¬ (65535 : Int) = (d.size : Int) := by omega
      have dn : ((65535 : Int) == (d.size : Int)) = false := by simpa using hdn
      have kd2 : (9223372036854775807 < (headY 65535).length + a.size) = False := kd
      have kc2 : ∀ W : World, (convert 47 9 (.slice (some ⟨W.heap.size, 0, none⟩) 4 4)).run Tryd.prog ((W.alloc (.cells #[.int .u8 255, .int .u8 255, .int .u8 0, .int .u8 0] 5)).drew) = .ok (.string ⟨(headY 65535).toArray⟩) ((W.alloc (.cells #[.int .u8 255, .int .u8 255, .int .u8 0, .int .u8 0] 5)).drew) := fun W => conv_head (n := 65535) (r1 := 255) (n1 := 255) (r2 := 0) (n2 := 0) W rfl rfl rfl rfl (Nat.le_refl _)
      have hs1 : ∀ w, (Instr.slice 9 (.string d) none (some (.int .i64 65535)) none).run Tryd.prog w = .ok (.string a) w := hsl1
      have hs2 : ∀ w, (Instr.slice 9 (.string d) (some (.int .i64 65535)) none none).run Tryd.prog w = .ok (.string c) w := hsl2
      have HSZ2 : Hid (((⟨(headY 65535).toArray⟩ : ByteArray) ++ a).size ≤ 70368744177664) := Lib.hid HSZ.out
      have z1 : IntKind.u8.wrap 65535 = 255 := by decide
      have z2 : IntKind.i64.wrap 255 = 255 := by decide
      have z3 : IntKind.u8.wrap 255 = 255 := by decide
      have z4 : IntKind.i64.wrap 0 = 0 := by decide
      have z5 : IntKind.u8.wrap 0 = 0 := by decide
      have z6 : Int.tmod 65535 256 = 255 := by decide
      clear hst hq1 hq2 hz hld hda hdc hsa hn hqn hdn kc kd hsl1 hsl2 HSZ b1 b2 b3 b4 b5 b6 b7 b8 hmin r1 n1 r2 n2
      go_wp2_with fail
      refine (HW.out.bits (by rw [HSA.out]; exact Nat.le_refl _) (by omega) 0 1).mono ?_
      rintro e w3 ⟨rfl, hW1⟩
      rw [← HQ1.out] at hW1
      have HW1 := Lib.hid hW1
      clear hW1
      go_wp2_with fail
      refine (HW1.out.bits (by rw [HSA.out]; exact Nat.le_refl _) (by omega) 0 2).mono ?_
      rintro e w2 ⟨rfl, hW2⟩
      rw [← HQ2.out] at hW2
      have HW2 := Lib.hid hW2
      clear hW2
      go_upto_region 8 with (fail)
      go_region_with (first | (go_at_call 29; go_loud (refine (WroteF.bytes (HW2.out.other ((((But.refl [] w2).alloc (.cells #[.int .u8 255, .int .u8 255, .int .u8 0, .int .u8 0] 5))).drew)) (by rw [HSA.out]; exact Nat.le_refl _) (by omega) _ HSZ2.out).mono ?_; rintro e w3 ⟨rfl, hW3⟩; have HW3 := Lib.hid hW3; clear hW3)))
      rw [layY_head, ← HZ.out] at HW3
      clear kc2 kd2 HW2 HW1 z1 z2 z3 z4 z5 z6
      go_simp
      go_wp2
      go_roundw
      case rel => exact ⟨c, qn, rfl, by omega, HST, HW3, by omega⟩
      case measure => show c.size < d.size; omega
end Go.Proofs.YtjeeiodpdfbgmaaDoor
set_option maxRecDepth 100000
set_option linter.unusedVariables false
namespace Go.Proofs.YtjeeiodpdfbgmaaDoor
set_option maxRecDepth 100000
open Go Go.RowKit
attribute [local irreducible] textX storX fixedX bestX dynL runs
set_option maxHeartbeats 1000000 in
theorem deflateStored_walk {s : ByteArray} {w : World} (hs : s.size ≤ 140737488351232) (hG : GD w) :
    Calls Tryd.prog 4 #[.string s] w fun e w' => e = .returned (.bool true) ∧ Below w.heap.size w w' := by
  by_cases hb : s.size ≤ 200000
  · have d1 : decide ((200000 : Int) < (s.size : Int)) = false := by simp; omega
    have HP := Lib.hid (stored_pany w (s := s) (by omega))
    have HR := Lib.hid (fun v : World => estored_all v (s := s) (by omega))
    have HA := Lib.hid (fun (v : World) (h : GD v) => awake5_any v h)
    have HG := Lib.hid hG
    obtain ⟨X, hX⟩ : ∃ X, X = textX (storX s.data.toList) := ⟨_, rfl⟩
    rw [← hX] at HP
    simp only [← hX] at HR
    clear hX hG
    go_enter Tryd.func4, Tryd.ntmps4
    go_wp2_with fail
    refine HP.out.mono ?_
    rintro e w1 ⟨rfl, hB1⟩
    have HB1 := Lib.hid hB1
    clear hB1
    go_wp2_with fail
    refine (HR.out w1).mono ?_
    rintro e w2 ⟨rfl, hB2⟩
    have HB2 := Lib.hid (HB1.out.trans hB2)
    clear hB2
    go_wp2_with fail
    refine (HA.out w2 (HG.out.but HB2.out)).mono ?_
    rintro e w3 ⟨rfl, hB3⟩
    have HB3 := Lib.hid (HB2.out.trans hB3)
    clear hB3
    go_wp2
    go_ret
    exact ⟨rfl, HB3.out.belowZ⟩
  · have d1 : decide ((200000 : Int) < (s.size : Int)) = true := by simp; omega
    have HA := Lib.hid (awake5_any w hG)
    clear hG
    go_enter Tryd.func4, Tryd.ntmps4
    go_wp2_with fail
    refine HA.out.mono ?_
    rintro e w3 ⟨rfl, hB3⟩
    have HB3 := Lib.hid hB3
    clear hB3
    go_wp2
    go_ret
    exact ⟨rfl, HB3.out.belowZ⟩
end Go.Proofs.YtjeeiodpdfbgmaaDoor
