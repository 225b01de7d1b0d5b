/- Several texts in one: Cat, FixT, DgC, DgD, DgK, DgL (what Back, Best, Dynamic, Fixed, Least, Runs, Stored reach of them). -/
import Derived.Test.YtjeeiodpdfbgmaaDoorPm01
import Derived.Test.YtjeeiodpdfbgmaaDoorPm02
import Derived.Test.YtjeeiodpdfbgmaaDoorPm03
import Derived.Test.YtjeeiodpdfbgmaaDoorPm04
import Derived.Test.YtjeeiodpdfbgmaaDoorPm05
import Derived.Test.YtjeeiodpdfbgmaaDoorPm06
import Derived.Test.YtjeeiodpdfbgmaaDoorPm07
import Derived.Test.YtjeeiodpdfbgmaaDoorPm08
import Derived.Test.YtjeeiodpdfbgmaaDoorPm09
import Derived.Test.YtjeeiodpdfbgmaaDoorPm10
import Derived.Test.YtjeeiodpdfbgmaaDoorPm11
import Derived.Test.YtjeeiodpdfbgmaaDoorPm12
import Derived.Test.YtjeeiodpdfbgmaaDoorPm13
import Derived.Test.YtjeeiodpdfbgmaaDoorPm14
import Derived.Below
import Derived.BigQuiet
import Derived.BigRegion
import Derived.Deep.AppendLies
import Derived.Deep.CutBlock
import Derived.Deep.CutRange
import Derived.Deep.DeepCutAuto
import Derived.Deep.Draws
import Derived.Deep.LoopGhost
import Derived.Deep.QuietTactic
import Derived.Deep.RegionLaw
import Derived.Deep.RegionWith
import Derived.Deep.Slices
import Derived.Handy
import Derived.Laws.BitsAllLaws
import Derived.Laws.BitsLemmas
import Derived.Laws.CopyOwn
import Derived.Laws.IdiomStrings
import Derived.Laws.OwnMore
import Derived.Laws.Rows
import Derived.Laws.Strings2
import Derived.Laws.Strings3
import Derived.Laws.StructEq
import Derived.Lib.AppendStr
import Derived.Lib.AppendZeros
import Derived.Lib.Hide
import Derived.Lib.Strings
import Derived.LoopIn
import Derived.LoopNIn
import Derived.OneCell
import Derived.OpenShut
import Derived.Outline
import Derived.OwnWalk
import Derived.OwnWalkIn
import Derived.ProofKit
import Derived.RangeFuncBound
import Derived.RangeFuncCalls
import Derived.RangeFuncLeaves
import Derived.RangeFuncNested
import Derived.RegionTactic
import Derived.ScopeJumps
import Derived.Shelf.Abstract
import Derived.Shelf.RegionOpen
import Derived.Shelf.SlSortCmp.QuietGrown
import Derived.StillTailTactics
import Derived.TacticsInMore
import Derived.Test.YtjeeiodpdfbgmaaDoorChecked
import Derived.WalkKit
import Derived.WalkLawsBesides
import Derived.WalkMore
import Derived.WalkSpells
set_option maxRecDepth 100000
set_option linter.unusedVariables false
namespace Go.Proofs.YtjeeiodpdfbgmaaDoor
set_option maxRecDepth 100000
open Go Go.RowKit
theorem zero_size (n : Nat) : (Builtin.zeroCells #[Value.int .i64 0] n).size = n := by simp [Builtin.zeroCells]
theorem grown_own (w : World) (n cap : Nat) (hn : n ≤ cap) (hc : cap ≤ maxLen) (fz : Nat × Nat) (hfz : fz = (0, 0)) :
    (w.drew.alloc (.cells (Builtin.zeroCells #[Value.int .i64 0] n ++ Builtin.zeroCells #[Value.int .i64 0] (cap - n)) 3 fz)).ownsRow w.heap.size 3 1 (.slice (some ⟨w.heap.size, 0, none⟩) 0 cap) 0 [] := by
  subst hfz
  refine ⟨rfl, .inr ⟨w.heap.size, cap, _, rfl, Nat.le_refl _, Is.fresh w.drew 3 _, Nat.zero_le _, hc, ?_, ?_⟩⟩
  · rw [Array.size_append, zero_size, zero_size]; omega
  · simp
theorem grow_nil {n : Nat} (w : World) (h0 : 0 < n) (hn : n ≤ 100000) :
    Calls Tryd.prog 65 #[.slice none 0 0, .int .i64 n] w fun e w' => ∃ c, e = .returned (.slice (some ⟨w.heap.size, 0, none⟩) 0 c) ∧ w'.ownsRow w.heap.size 3 1 (.slice (some ⟨w.heap.size, 0, none⟩) 0 c) 0 [] ∧ But [] w w' := by
  obtain ⟨i0, hi0, hz0, hz1, hz2⟩ := info_parts info_int
  have hr := fun ty => Lib.run_append_nil_zeros (P := Tryd.prog) w 22 3 ty 3 i0 _ .i64 .i64 Tryd.underlying22 Tryd.underlying3 hi0 hz0 n h0 (by omega) (by omega) (by rw [hz2]; omega)
  have hc := grownCap_ge w n 0 3
  have hc2 := grownCap_le_maxLen w n 0 3 (by unfold maxLen; omega)
  have hown := grown_own w n (grownCap w n 0 3) hc hc2 (0, 0) rfl
  have HR := Lib.hid hr
  have HOWN := Lib.hid hown
  obtain ⟨G, hG⟩ : ∃ G, G = grownCap w n 0 3 := ⟨_, rfl⟩
  have hc3 : G ≤ 9223372036854775807 := by unfold maxLen at hc2; omega
  have HGG := Lib.hid hG
  clear hr hown hc hc2 hG
  go_enter Tryd.func65, Tryd.ntmps65
  go_wp2_with (at_builtin; refine Lib.wpList_append_run _ rfl _ _ _ _ rfl _ _ rfl rfl _ _ (HR.out _) ?_)
  go_ret
  exact ⟨_, rfl, HOWN.out.drew, ((But.refl [] w).alloc _).drew⟩

/-- Slices of numbers side by side. -/
def Heads (w : World) (g : Nat) (vs : List Value) (ls : List (List Int)) : Prop :=
  vs.length = ls.length ∧ ∀ i, i < ls.length → w.cell? ⟨g, i, none⟩ = some (vs.getD i (.pointer none)) ∧ ∃ A c, vs.getD i (.pointer none) = .slice (some A) (ls.getD i []).length c ∧ Ints w (some A) (ls.getD i []).length (ls.getD i []) ∧ 0 < (ls.getD i []).length
theorem flat_take (ls : List (List Int)) (k : Nat) (h : k < ls.length) : (ls.take (k + 1)).flatten = (ls.take k).flatten ++ ls.getD k [] := by
  rw [List.take_succ_eq_append_getElem h, List.flatten_append, List.getD_eq_getElem?_getD, List.getElem?_eq_getElem h]; simp
theorem flat_le (ls : List (List Int)) (k : Nat) : (ls.take k).flatten.length ≤ ls.flatten.length := by
  have h : ls.flatten = (ls.take k).flatten ++ (ls.drop k).flatten := by rw [← List.flatten_append, List.take_append_drop]
  rw [h, List.length_append]; omega
attribute [local irreducible] Heads
set_option maxHeartbeats 1000000 in
theorem concat_any {w : World} {g c : Nat} {vs : List Value} {ls : List (List Int)} (hH : Heads w g vs ls) (h0 : 0 < ls.flatten.length) (hn : ls.flatten.length ≤ 100000) (hl : ls.length ≤ 1000) :
    Calls Tryd.prog 50 #[.slice (some ⟨g, 0, none⟩) ls.length c] w fun e w' => ∃ v, e = .returned v ∧ OwnI w' w.heap.size v ls.flatten ∧ But [] w w' := by
  obtain ⟨i0, hi0, hz0, hz1, hz2⟩ := info_parts info_int
  have HH := Lib.hid hH
  obtain ⟨N, hN⟩ : ∃ N, N = ls.length := ⟨_, rfl⟩
  rw [← hN] at hl ⊢
  have HN := Lib.hid hN
  have h00 : (ls.take 0).flatten.length = 0 := by simp
  have H00 := Lib.hid h00
  have HT := Lib.hid hn
  have HT0 := Lib.hid h0
  clear hH hN h00 h0 hn
  go_enter Tryd.func50, Tryd.ntmps50
  go_wp2
  go_loop [3, 5, 11] (fun sv _ iv => ∃ (k m : Nat), k ≤ N ∧ iv = .int .i64 k ∧ sv = .int .i64 m ∧ Hid (m = (ls.take k).flatten.length) ∧ m ≤ 100000) (fun _ _ iv => N - (intOf iv).toNat)
  case atStart => exact ⟨0, 0, Nat.zero_le _, rfl, rfl, by rfl, by omega⟩
  case round =>
    obtain ⟨k, m, hk, rfl, rfl, HM, hm⟩ := hrel
    by_cases hlt : k < N
    · have hh := HH.out
      unfold Heads at hh
      obtain ⟨hc, A, cc, hv, hI, hp⟩ := hh.2 k (by have := HN.out; omega)
      rw [hv] at hc
      have hf := flat_take ls k (by have := HN.out; omega)
      have hle := flat_le ls (k + 1)
      obtain ⟨L, hL⟩ : ∃ L, L = (ls.getD k []).length := ⟨_, rfl⟩
      have hmL : m + L = (ls.take (k + 1)).flatten.length := by rw [hf, List.length_append, HM.out, hL]
      have hmb : m + L ≤ 100000 := by have := HT.out; omega
      rw [← hL] at hc
      have HML := Lib.hid hmL
      have b1 : decide ((m : Int) + (L : Int) < 0) = false := by simp; omega
      clear hh hv hI hp hf hle hL hmL HM
      go_wp2
      go_round
      case rel => exact ⟨k + 1, m + L, by omega, by go_num, by go_num, HML.out, hmb⟩
      case measure => simp [intOf]; omega
    · obtain rfl : k = N := by omega
      have hall : m = ls.flatten.length := by rw [HM.out, HN.out, List.take_length]
      have h0 : 0 < m := by have := HT0.out; omega
      have hgr := grow_nil w h0 hm
      have HGR := Lib.hid hgr
      clear hgr hall HM
      go_wp2_with fail
      refine HGR.out.mono ?_
      rintro e w1 ⟨cg, rfl, hown, hB1⟩
      have HO := Lib.hid hown
      have HB1 := Lib.hid hB1
      clear hown hB1 HGR
      go_wp2
      go_loopw [6, 8, 27] (fun v _ iv wr => ∃ j : Nat, j ≤ k ∧ iv = .int .i64 j ∧ OwnI wr w.heap.size v (ls.take j).flatten ∧ But [] w wr) (fun _ _ iv _ => k - (intOf iv).toNat)
      case atStart => exact ⟨0, Nat.zero_le _, rfl, by unfold OwnI; exact HO.out, HB1.out⟩
      case round =>
        obtain ⟨j, hj, rfl, hOw, hBr⟩ := hrel
        have HOW := Lib.hid hOw
        have HBR := Lib.hid hBr
        clear hOw hBr HO HB1
        by_cases hlt2 : j < k
        · have hh := HH.out
          unfold Heads at hh
          obtain ⟨hc, A, cc, hv, hI, hp⟩ := hh.2 j (by have := HN.out; omega)
          rw [hv] at hc
          have hc2 := HBR.out.cell hc (by simp)
          have hI2 := hI.but HBR.out (by simp)
          have hf := flat_take ls j (by have := HN.out; omega)
          have hle := flat_le ls (j + 1)
          rw [hf, List.length_append] at hle
          obtain ⟨X, hX⟩ : ∃ X, X = ls.getD j [] := ⟨_, rfl⟩
          obtain ⟨Y, hY⟩ : ∃ Y, Y = (ls.take j).flatten := ⟨_, rfl⟩
          rw [← hX] at hc2 hI2 hf hp hle
          rw [← hY] at hf hle HOW
          obtain ⟨gA, oA, eA, _⟩ := hI2.2 hp
          obtain rfl : A = ⟨gA, oA, none⟩ := by injection eA
          have hnw := hI2.news hp
          have hsz := HBR.out.size
          obtain ⟨LX, hLX⟩ : ∃ LX, LX = X.length := ⟨_, rfl⟩
          obtain ⟨LY, hLY⟩ : ∃ LY, LY = Y.length := ⟨_, rfl⟩
          have hLL : LY + LX ≤ 100000 := by have := HT.out; omega
          rw [← hLX] at hc2
          have HF := Lib.hid hf
          have HNW := Lib.hid hnw
          have HLX := Lib.hid hLX.symm
          have HLY := Lib.hid hLY.symm
          have ho := HOW.out
          unfold OwnI at ho
          rw [← hLY] at ho
          have HOX := Lib.hid ho
          clear hh hc hv hI hp hI2 hf hle hX hY hnw eA HOW hLX hLY ho
          go_wp2_with (at_builtin; go_loud (refine wpList_append_own _ rfl _ _ 22 rfl w.heap.size 3 i0 (.int .i64 0) 1 8 Tryd.underlying22 hi0 hz0 hz1 hz2 rfl (by decide) _ LY (Y.map (.int .i64)) rfl HOX.out ⟨gA, oA, none⟩ LX cc (X.map (.int .i64)) rfl (by simp; exact HLX.out) HNW.out ?c2 ?c3 ?c4 hsz ?_))
          case c2 => intro u hu; obtain ⟨x, _, rfl⟩ := List.mem_map.1 hu; rfl
          case c3 => unfold maxLen; omega
          case c4 => omega
          intro v' w2 hown hgrow _
          have hO2 : OwnI w2 w.heap.size v' (Y ++ X) := by
            unfold OwnI
            rw [List.length_append, HLX.out, HLY.out, List.map_append]
            exact hown
          have hB2 := HBR.out.grown hgrow (fun g e => .inr (World.ownsRow.lt HOX.out g e).1)
          have HO2 := Lib.hid hO2
          have HB2 := Lib.hid hB2
          clear hown hgrow hO2 hB2
          go_wp2
          go_roundw
          case rel => exact ⟨j + 1, by omega, by go_num, by rw [HF.out]; exact HO2.out, HB2.out⟩
          case measure => simp [intOf]; omega
        · obtain rfl : j = k := by omega
          have ho := HOW.out
          rw [HN.out, List.take_length] at ho
          have HOX := Lib.hid ho
          clear ho
          go_wp2
          go_ret
          exact ⟨_, rfl, HOX.out, HBR.out⟩
end Go.Proofs.YtjeeiodpdfbgmaaDoor
namespace Go.Proofs.YtjeeiodpdfbgmaaDoor
set_option maxRecDepth 100000
open Go Go.RowKit
section
variable {w w' : World} {b rb db : Nat} {og : Option Nat} {s : ByteArray} {p : Nat} {M : Int} {L : List UInt8} {fs fd : Option Nat}
theorem fixL_flat : [List.replicate 144 (8 : Int), List.replicate 112 9, List.replicate 24 7, List.replicate 8 8].flatten = fixL := by
  unfold fixL; simp

theorem heads4 {w : World} {A1 A2 A3 A4 : Addr} {l1 l2 l3 l4 : List Int} {n1 n2 n3 n4 c1 c2 c3 c4 : Nat} {t : TypeId} (h1 : Ints w (some A1) n1 l1) (h2 : Ints w (some A2) n2 l2) (h3 : Ints w (some A3) n3 l3) (h4 : Ints w (some A4) n4 l4)
    (p1 : 0 < n1) (p2 : 0 < n2) (p3 : 0 < n3) (p4 : 0 < n4) :
    Heads (w.alloc (.cells #[.slice (some A1) n1 c1, .slice (some A2) n2 c2, .slice (some A3) n3 c3, .slice (some A4) n4 c4] t)) w.heap.size [.slice (some A1) n1 c1, .slice (some A2) n2 c2, .slice (some A3) n3 c3, .slice (some A4) n4 c4] [l1, l2, l3, l4] := by
  have hI := Is.fresh w t #[.slice (some A1) n1 c1, .slice (some A2) n2 c2, .slice (some A3) n3 c3, .slice (some A4) n4 c4]
  have hB := but_alloc w (.cells #[.slice (some A1) n1 c1, .slice (some A2) n2 c2, .slice (some A3) n3 c3, .slice (some A4) n4 c4] t)
  have q1 := h1.but hB (by simp)
  have q2 := h2.but hB (by simp)
  have q3 := h3.but hB (by simp)
  have q4 := h4.but hB (by simp)
  obtain rfl := h1.1
  obtain rfl := h2.1
  obtain rfl := h3.1
  obtain rfl := h4.1
  unfold Heads
  refine ⟨rfl, fun i hi => ?_⟩
  match i, hi with
  | 0, _ => exact ⟨hI.cell 0, A1, c1, rfl, q1, p1⟩
  | 1, _ => exact ⟨hI.cell 1, A2, c2, rfl, q2, p2⟩
  | 2, _ => exact ⟨hI.cell 2, A3, c3, rfl, q3, p3⟩
  | 3, _ => exact ⟨hI.cell 3, A4, c4, rfl, q4, p4⟩
end
end Go.Proofs.YtjeeiodpdfbgmaaDoor
set_option maxRecDepth 100000
set_option linter.unusedVariables false
namespace Go.Proofs.YtjeeiodpdfbgmaaDoor
set_option maxRecDepth 100000
open Go Go.RowKit
theorem layB_none (q : Nat × Nat) : layB q 0 0 = q := by
  rw [layB_eq (by omega) (by decide)]; simp
attribute [local irreducible] layTs layC layB fixL fixD toks textX
section
variable {w w1 w2 w' : World} {lo b : Nat} {og : Option Nat} {r : Nat × Nat}
set_option maxHeartbeats 2000000 in
theorem playTs_any {l d : List Int} {n c nl nd cl cd : Nat} {A Al Ad : Option Addr} {ts : List Tk} (hL : Keep (b :: og.toList) w fun w' => Ints w' Al nl l) (hD : Keep (b :: og.toList) w fun w' => Ints w' Ad nd d) (hK : Keep (b :: og.toList) w fun w' => Tks w' A n (ts.map tkI))
    (hcl : chk l = 0) (hcd : chk d = 0) (hnl : nl ≤ 300) (hnd : nd ≤ 300) (hn1 : Al = none → cl = 0) (hn2 : Ad = none → cd = 0) (hh : ∀ t ∈ ts, tkHas l d t) (h256 : has l (256 : Nat)) (hn : n ≤ 1000000) (hW : WroteP w w1 lo b og r) (hlo : lo ≤ w.heap.size) (hN : r.2 ≤ 100000) :
    Calls Tryd.prog 52 #[.pointer (some ⟨b, 0, none⟩), .slice A n c, .slice Al nl cl, .slice Ad nd cd] w1 fun e w' => e = .returned (.tuple #[]) ∧ WroteP w w' lo b og (layC l (layTs l d r ts) 256) := by
  have hlen : ts.length = n := by
    have := (hK.now).1
    rwa [List.length_map] at this
  have HLN := Lib.hid hlen
  have HK := Lib.hid hK
  have HH := Lib.hid hh
  have HW := Lib.hid hW
  have hL1 := hW.keep hL
  have hm1 := make_new (cap := cl) hL1 (by omega) hn1 hcl
  have HM1 := Lib.hid hm1
  have HD := Lib.hid hD
  have HL15 := Lib.hid (okl hcl)
  have HD15 := Lib.hid (okl hcd)
  have H256 := Lib.hid h256
  have HCD := Lib.hid hcd
  have HN2 := Lib.hid hn2
  clear hlen hL hD hK hh hW hL1 hm1 h256 hcl hcd hn1 hn2
  go_enter Tryd.func52, Tryd.ntmps52
  go_wp2_with fail
  refine HM1.out.mono ?_
  rintro e w2 ⟨bt, rfl, hT2, hB2⟩
  have hD2 := (HW.out.other hB2).keep HD.out
  have hm2 := make_new (cap := cd) hD2 (by omega) HN2.out HCD.out
  have HM2 := Lib.hid hm2
  have HT2 := Lib.hid hT2
  have HB2 := Lib.hid hB2
  clear hD2 hm2 hT2 hB2 HM1
  go_wp2_with fail
  refine HM2.out.mono ?_
  rintro e w3 ⟨bu, rfl, hT3, hB3⟩
  have hB13 := HB2.out.trans hB3
  obtain ⟨og', hR, hlt, hKp, hback⟩ := HW.out.rebase hB13
  have hs12 := HB2.out.size
  have hTl : Keep (b :: og'.toList) w3 fun w' => TT w' bt l := (HT2.out.but hB3 (by simp)).keep fun k hk => (hlt k hk).1
  have hTd : Keep (b :: og'.toList) w3 fun w' => TT w' bu d := hT3.keep (fun k hk => Nat.lt_of_lt_of_le (hlt k hk).1 hs12)
  have hlo3 : lo ≤ w3.heap.size := Nat.le_trans hlo (Nat.le_trans HW.out.but.size hB13.size)
  have hK3 := hKp _ HK.out
  have HK3 := Lib.hid hK3
  have HTL := Lib.hid hTl
  have HTD := Lib.hid hTd
  have HR := Lib.hid (show WroteP w3 w3 lo b og' (layTs l d r (ts.take 0)) from by rw [List.take_zero]; unfold layTs; exact hR)
  have hr0 : (layTs l d r (ts.take 0)).2 ≤ 100000 + 60 * 0 := by rw [List.take_zero]; unfold layTs; exact hN
  have HBACK := Lib.hid hback
  clear hB13 hR hlt hKp hback hTl hTd hK3 hT3 hB3 HT2 HB2 HM2 HD HK HW hs12
  go_wp2
  go_loopw [26] (fun iv wr => ∃ k : Nat, k ≤ n ∧ iv = .int .i64 k ∧ Hid (WroteP w3 wr lo b og' (layTs l d r (ts.take k))) ∧ (layTs l d r (ts.take k)).2 ≤ 100000 + 60 * k) (fun iv _ => n - (intOf iv).toNat)
  case atStart => exact ⟨0, Nat.zero_le _, rfl, HR, hr0⟩
  case round =>
    obtain ⟨k, hk, rfl, HP, hb⟩ := hrel
    clear HR hr0
    obtain ⟨q, hq⟩ : ∃ q, q = layTs l d r (ts.take k) := ⟨_, rfl⟩
    rw [← hq] at HP hb
    have HQ := Lib.hid hq
    clear hq
    by_cases hlt : k < n
    · have hkt : k < ts.length := by have := HLN.out; omega
      have hmem := HH.out _ (List.getElem_mem hkt)
      have hts : ts.take (k + 1) = ts.take k ++ [ts[k]] := List.take_succ_eq_append_getElem hkt
      have hnx : layTs l d r (ts.take (k + 1)) = layT l d q ts[k] := by rw [hts, layTs_snoc, ← HQ.out]
      have hfw := layT_few HL15.out HD15.out hmem q
      obtain ⟨g, o, bb, xx, zz, rfl, hg, c0, c1, c2, h1⟩ := (HP.out.keep HK3.out).at hlt
      rw [List.getElem?_map, List.getElem?_eq_getElem hkt] at h1
      injection h1 with h1
      unfold tkI at h1
      injection h1 with h2 h3
      injection h3 with h3 h4
      subst h2 h3 h4
      obtain ⟨t, ht⟩ : ∃ t, t = ts[k] := ⟨_, rfl⟩
      rw [← ht] at hmem hnx hfw c0 c1 c2
      obtain ⟨x, z, y⟩ := t
      have HNX := Lib.hid hnx
      dsimp only at c0 c1 c2
      have k0 : (0 : Int) ≤ (k : Int) := by omega
      have k1 : (k : Int) < (n : Int) := by omega
      unfold tkHas at hmem
      dsimp only at hmem
      obtain ⟨wb, hwb⟩ : ∃ wb, wb = wr.alloc (.cells #[.int .i64 y, .int .i64 x, .int .i64 z] 62) := ⟨_, rfl⟩
      have hIb : Is wb wr.heap.size 62 #[.int .i64 y, .int .i64 x, .int .i64 z] := by rw [hwb]; exact Is.fresh wr _ _
      have hBb : But [] wr wb := by rw [hwb]; exact (But.refl [] wr).alloc _
      have HIB := Lib.hid hIb
      have HBB := Lib.hid hBb
      have HWB := Lib.hid hwb
      clear ht hts hnx hwb hIb hBb
      by_cases hx : x = 0
      · rw [if_pos hx] at hmem
        have eT : layT l d q (x, z, y) = layC l q y := by unfold layT; rw [if_pos (show (x, z, y).1 = 0 from hx)]
        rw [eT] at hfw
        have HE := Lib.hid eT
        subst hx
        have HWB : Hid (wb = wr.alloc (.cells #[.int .i64 y, .int .i64 0, .int .i64 z] 62)) := Lib.hid HWB.out
        have HIB : Hid (Is wb wr.heap.size 62 #[.int .i64 y, .int .i64 0, .int .i64 z]) := Lib.hid HIB.out
        have HSY : Hid (Calls Tryd.prog 69 #[.agg #[.int .i64 (y : Int), .int .i64 0, .int .i64 (z : Int)]] wb fun e w' => e = .returned (codVal y 0 0) ∧ But [] wb w') := Lib.hid (symbolOf_lit wb y z)
        clear eT
        go_wp2_with fail
        rw [← HWB.out]
        refine HSY.out.mono ?_
        rintro e wy ⟨rfl, hBy⟩
        obtain ⟨og2, hR2, hlt2, hKp2, hback2⟩ := HP.out.rebase (HBB.out.trans hBy)
        have hq1 : (layC l q y).2 ≤ 100000000 := by omega
        have hcall := lay_pany (m := 0) (e := 0) (hKp2 _ HTL.out) HL15.out hR2 (Nat.le_trans hlo3 (Nat.le_trans HP.out.but.size (HBB.out.trans hBy).size)) (by omega) hmem.2 hq1
        have hIy := HIB.out.but hBy (by simp)
        have HCALL := Lib.hid hcall
        have HIY := Lib.hid hIy
        have HLT2 := Lib.hid hlt2
        have HBK2 := Lib.hid hback2
        clear hBy hR2 hlt2 hKp2 hback2 hcall hIy hq1 HSY
        unfold codVal at HCALL ⊢
        go_wp2_with fail
        refine HCALL.out.mono ?_
        rintro e wz ⟨rfl, hWz⟩
        have hIz := HIY.out.but hWz.but (fun hk => by have := (HLT2.out _ hk).1; omega)
        have cz := hIz.cell 1
        have hz2 : layB (layC l q y) 0 0 = layC l q y := layB_none _
        rw [hz2] at hWz
        have HWz := Lib.hid (HBK2.out _ _ hWz)
        clear hIz hWz hz2 c0 c1 c2
        go_wp2
        go_roundw
        case rel => exact ⟨k + 1, by omega, by go_num, Lib.hid (by rw [HNX.out, HE.out]; exact HWz.out), by rw [HNX.out, HE.out]; omega⟩
        case measure => simp [intOf]; omega
      · rw [if_neg hx] at hmem
        obtain ⟨a1, a2, a3, a4, a5, a6⟩ := hmem
        obtain ⟨b1, b2, b3, b4⟩ := lsym_all x (by omega) a1
        obtain ⟨d1, d2, d3⟩ := dsym_all z (by omega) a3
        have f5 := lenBase_few (lsym x) (by omega) b1
        have f6 := dstBase_few (dsym z) (by omega)
        have f1 := layC_few HL15.out q (lsym x)
        have f2 := layB_few (layC l q (lsym x)) (x - lenBase (lsym x)) (lenBits (lsym x))
        have f3 := layC_few HD15.out (layB (layC l q (lsym x)) (x - lenBase (lsym x)) (lenBits (lsym x))) (dsym z)
        have eT : layT l d q (x, z, y) = layB (layC d (layB (layC l q (lsym x)) (x - lenBase (lsym x)) (lenBits (lsym x))) (dsym z)) (z - dstBase (dsym z)) (dstBits (dsym z)) := by unfold layT; rw [if_neg (show ¬ (x, z, y).1 = 0 from hx)]
        rw [eT] at hfw
        have HE := Lib.hid eT
        have HSY : Hid (Calls Tryd.prog 69 #[.agg #[.int .i64 (y : Int), .int .i64 (x : Int), .int .i64 (z : Int)]] wb fun e w' => e = .returned (codVal (lsym x) (x - lenBase (lsym x)) (lenBits (lsym x))) ∧ But [] wb w') := Lib.hid (symbolOf_mat wb x z y a1 a2)
        have HDY : Hid (∀ W : World, Calls Tryd.prog 70 #[.agg #[.int .i64 (y : Int), .int .i64 (x : Int), .int .i64 (z : Int)]] W fun e w' => e = .returned (codVal (dsym z) (z - dstBase (dsym z)) (dstBits (dsym z))) ∧ But [] W w') := Lib.hid (fun W => distanceOf_any W x z y a3 a4)
        have x0 : decide ((0 : Int) < (x : Int)) = true := by simp; omega
        have x0' : decide (0 < x) = true := by simp; omega
        clear eT hx b4 d3 b3 d2
        obtain ⟨S1, hS1⟩ : ∃ S1, S1 = lsym x := ⟨_, rfl⟩
        obtain ⟨S2, hS2⟩ : ∃ S2, S2 = dsym z := ⟨_, rfl⟩
        rw [← hS1] at HSY a5 HE f1 f2 f3 f5 hfw b1 b2
        simp only [← hS2] at HDY a6 HE f6 f3 hfw d1
        obtain ⟨V1, hV1⟩ : ∃ V1, V1 = x - lenBase S1 := ⟨_, rfl⟩
        obtain ⟨V2, hV2⟩ : ∃ V2, V2 = z - dstBase S2 := ⟨_, rfl⟩
        rw [← hV1] at HSY HE f2 f3 hfw
        simp only [← hV2] at HDY HE hfw
        obtain ⟨M1, hM1⟩ : ∃ M1, M1 = lenBits S1 := ⟨_, rfl⟩
        obtain ⟨M2, hM2⟩ : ∃ M2, M2 = dstBits S2 := ⟨_, rfl⟩
        rw [← hM1] at HSY HE f2 f3 f5 hfw
        simp only [← hM2] at HDY HE hfw f6
        obtain ⟨q2, hq2⟩ : ∃ q2, q2 = layB (layC l q S1) V1 M1 := ⟨_, rfl⟩
        rw [← hq2] at HE f2 f3 hfw
        have HQ2 := Lib.hid hq2
        clear hS1 hS2 hV1 hV2 hM1 hM2 hq2
        go_wp2_with fail
        rw [← HWB.out]
        refine HSY.out.mono ?_
        rintro e wy ⟨rfl, hBy⟩
        obtain ⟨og2, hR2, hlt2, hKp2, hback2⟩ := HP.out.rebase (HBB.out.trans hBy)
        have hloy : lo ≤ wy.heap.size := Nat.le_trans hlo3 (Nat.le_trans HP.out.but.size (HBB.out.trans hBy).size)
        have hcall := lay_pany (m := V1) (e := M1) (hKp2 _ HTL.out) HL15.out hR2 hloy (by omega) a5 (by omega)
        rw [← HQ2.out] at hcall
        have hIy := HIB.out.but hBy (by simp)
        have HCALL := Lib.hid hcall
        have HIY := Lib.hid hIy
        have HLT2 := Lib.hid hlt2
        have HBK2 := Lib.hid hback2
        clear hBy hR2 hlt2 hKp2 hback2 hcall hIy HSY
        unfold codVal at HCALL ⊢
        go_wp2_with fail
        refine HCALL.out.mono ?_
        rintro e wz ⟨rfl, hWz⟩
        have hIz := HIY.out.but hWz.but (fun hk => by have := (HLT2.out _ hk).1; omega)
        have z0 := hIz.cell 0
        have z1 := hIz.cell 1
        have z2 := hIz.cell 2
        have HWz := Lib.hid (HBK2.out _ _ hWz)
        clear hIz hWz c0 c1 c2 HCALL HIY HLT2 HBK2
        go_wp2_with fail
        refine (HDY.out _).mono ?_
        rintro e wd ⟨rfl, hBd⟩
        obtain ⟨og4, hR4, hlt4, hKp4, hback4⟩ := HWz.out.rebase hBd
        have hlod : lo ≤ wd.heap.size := Nat.le_trans hlo3 (Nat.le_trans HWz.out.but.size hBd.size)
        have hcall := lay_pany (m := V2) (e := M2) (hKp4 _ HTD.out) HD15.out hR4 hlod (by omega) a6 (by omega)
        have HCALL := Lib.hid hcall
        have HBK4 := Lib.hid hback4
        clear hBd hR4 hlt4 hKp4 hback4 hcall HDY z0 z1 z2
        unfold codVal at HCALL ⊢
        go_wp2_with fail
        refine HCALL.out.mono ?_
        rintro e wf ⟨rfl, hWf⟩
        have HWf := Lib.hid (HBK4.out _ _ hWf)
        clear hWf HCALL HBK4
        go_wp2
        go_roundw
        case rel => exact ⟨k + 1, by omega, by go_num, Lib.hid (by rw [HNX.out, HE.out]; exact HWf.out), by rw [HNX.out, HE.out]; omega⟩
        case measure => simp [intOf]; omega
    · have hqe : q = layTs l d r ts := by rw [HQ.out, List.take_of_length_le (by have := HLN.out; omega)]
      have HQE := Lib.hid hqe
      have HCALL := Lib.hid (play_one (s := 256) HTL.out HL15.out HP.out hlo3 (by omega) H256.out)
      clear hqe
      go_wp2_with fail
      refine HCALL.out.mono ?_
      rintro e w4 ⟨rfl, hW4⟩
      have HW4 := Lib.hid (HBACK.out _ _ hW4)
      clear hW4
      go_wp2
      go_end0
      exact ⟨rfl, by rw [← HQE.out]; exact HW4.out⟩
end
end Go.Proofs.YtjeeiodpdfbgmaaDoor
set_option maxRecDepth 100000
set_option linter.unusedVariables false
namespace Go.Proofs.YtjeeiodpdfbgmaaDoor
set_option maxRecDepth 100000
open Go Go.RowKit
theorem layTs_few {l d : List Int} (hl : ∀ x ∈ l, 0 ≤ x ∧ x ≤ 15) (hd : ∀ x ∈ d, 0 ≤ x ∧ x ≤ 15) : ∀ (ts : List Tk) (q : Nat × Nat), (∀ t ∈ ts, tkHas l d t) → (layTs l d q ts).2 ≤ q.2 + 60 * ts.length
  | [], q, _ => Nat.le_refl _
  | t :: ts, q, h => by
    have h1 := layT_few hl hd (h t (by simp)) q
    have h2 := layTs_few hl hd ts (layT l d q t) (fun x hx => h x (by simp [hx]))
    have e : layTs l d q (t :: ts) = layTs l d (layT l d q t) ts := rfl
    rw [e, List.length_cons]; omega
attribute [local irreducible] layTs layC layB fixL fixD toks textX
theorem OwnI.keep {w : World} {base n c : Nat} {A : Option Addr} {l : List Int} (h : OwnI w base (.slice A n c) l) {S : List Nat} (hS : ∀ k ∈ S, k < base) (hn : n = l.length) : Keep S w fun w' => Ints w' A n l := fun w' hB => by
  have h2 : OwnI w' base (.slice A n c) l := ownsRow_but h hB fun g e hg => by have := (World.ownsRow.lt h g e).1; have := hS g hg; omega
  exact h2.ints_of hn
theorem Ints.keep {w w1 : World} {n : Nat} {A : Option Addr} {l : List Int} (h : Ints w A n l) (hB : But [] w w1) {S : List Nat} (hS : ∀ k ∈ S, w.heap.size ≤ k) : Keep S w1 fun w' => Ints w' A n l := fun w' hw => h.but (hB.fresh hw hS) (by simp)
theorem Tks.keep {w w1 : World} {n : Nat} {A : Option Addr} {L : List T3} (h : Tks w A n L) (hB : But [] w w1) {S : List Nat} (hS : ∀ k ∈ S, w.heap.size ≤ k) : Keep S w1 fun w' => Tks w' A n L := fun w' hw => h.but (hB.fresh hw hS)
theorem prepeated_any (x : Int) {n : Nat} (w : World) (hn0 : 0 < n) (hn : n ≤ 100000) :
    Calls Tryd.prog 51 #[.int .i64 x, .int .i64 n] w fun e w' => ∃ gg cc, e = .returned (.slice (some ⟨gg, 0, none⟩) n cc) ∧ OwnI w' w.heap.size (.slice (some ⟨gg, 0, none⟩) n cc) (List.replicate n x) ∧ But [] w w' := by
  have hr := repeat_any x (c := 1) (w := w.alloc (.cells #[.int .i64 x] 3)) (g := w.heap.size) ((Is.fresh w 3 #[.int .i64 x]).cell 0) hn0 hn
  have HR := Lib.hid hr
  clear hr
  go_enter Tryd.func51, Tryd.ntmps51
  go_wp2_with fail
  refine HR.out.mono ?_
  rintro e w' ⟨gg, cc, rfl, hO, hB⟩
  have HO := Lib.hid hO
  have HB := Lib.hid hB
  clear hO hB
  go_wp2
  go_ret
  refine ⟨gg, cc, rfl, ?_, ((But.refl [] w).alloc _).trans HB.out⟩
  have h := HO.out
  unfold OwnI at h ⊢
  refine ⟨h.1, ?_⟩
  rcases h.2 with h2 | ⟨g, cap, cur, h1, h2, h3⟩
  · exact .inl h2
  · exact .inr ⟨g, cap, cur, h1, by simp at h2; omega, h3⟩
theorem fixD_rep : List.replicate 32 (5 : Int) = fixD := by unfold fixD; rfl
/-- What a fixed block lays. -/
def fixedT (ts : List Tk) : Nat × Nat := layC fixL (layTs fixL fixD (layB (layB (0, 0) 1 1) 1 2) ts) 256
set_option maxHeartbeats 2000000 in
theorem fixed_pany (w : World) {A : Option Addr} {n c : Nat} {ts : List Tk} (hK : Tks w A n (ts.map tkI)) (hn : n ≤ 10000) (hh : ∀ t ∈ ts, tkHas fixL fixD t) :
    Calls Tryd.prog 31 #[.slice A n c] w fun e w' => e = .returned (.string (textX (fixedT ts))) ∧ But [] w w' := by
  obtain ⟨q2, hq2, hl2⟩ : ∃ q, q = layB (layB (0, 0) 1 1) 1 2 ∧ q.2 ≤ 3 := ⟨_, rfl, by
    have h1 : (layB (0, 0) 1 1).2 = 1 := by rw [layB_eq (by omega) (by omega)]
    rw [layB_eq (by omega) (by omega)]; show (layB (0, 0) 1 1).2 + 2 ≤ 3; omega⟩
  have hX : fixedT ts = layC fixL (layTs fixL fixD q2 ts) 256 := by unfold fixedT; rw [hq2]
  have hlen : ts.length = n := by have := hK.1; rwa [List.length_map] at this
  have HX := Lib.hid hX
  have HQ2 := Lib.hid hq2
  have HK := Lib.hid hK
  have HH := Lib.hid hh
  have HLEN := Lib.hid hlen
  clear hX hq2 hK hh hlen
  go_enter Tryd.func31, Tryd.ntmps31
  go_wp2_with fail
  refine (new_at w (w.heap.size + 1) w.heap.size rfl).mono ?_
  rintro e w1 ⟨rfl, hS1, hB1, hz1⟩
  have hW1 : WroteP w1 w1 (w.heap.size + 1) w.heap.size none (0, 0) := WroteP.refl hS1
  have hc := begin_pany hW1 (Nat.le_of_eq hz1.symm) (by decide) (last := 1) (kind := 1) (by omega) (by omega)
  rw [← HQ2.out] at hc
  have HC := Lib.hid hc
  have HB1 := Lib.hid hB1
  have HZ1 := Lib.hid hz1
  clear hS1 hB1 hz1 hW1 hc
  go_wp2_with fail
  refine HC.out.mono ?_
  rintro e w2 ⟨rfl, hW2⟩
  have HW2 := Lib.hid hW2
  clear hW2 HC
  go_wp2_with fail
  refine (prepeated_any 8 (n := 144) _ (by omega) (by omega)).mono ?_
  rintro e wa ⟨g1, c1, rfl, hO1, hBa⟩
  have HO1 := Lib.hid hO1
  have HBa := Lib.hid hBa
  clear hO1 hBa
  go_wp2_with fail
  refine (prepeated_any 9 (n := 112) _ (by omega) (by omega)).mono ?_
  rintro e wb ⟨g2, c2, rfl, hO2, hBb⟩
  have HO2 := Lib.hid hO2
  have HBb := Lib.hid hBb
  clear hO2 hBb
  go_wp2_with fail
  refine (prepeated_any 7 (n := 24) _ (by omega) (by omega)).mono ?_
  rintro e wc ⟨g3, c3, rfl, hO3, hBc⟩
  have HO3 := Lib.hid hO3
  have HBc := Lib.hid hBc
  clear hO3 hBc
  go_wp2_with fail
  refine (prepeated_any 8 (n := 8) _ (by omega) (by omega)).mono ?_
  rintro e wd ⟨g4, c4, rfl, hO4, hBd⟩
  have HO4 := Lib.hid hO4
  have HBd := Lib.hid hBd
  clear hO4 hBd
  have hI4 := HO4.out.ints
  have hI3 := HO3.out.ints.but HBd.out (by simp)
  have hI2 := HO2.out.ints.but (HBc.out.trans HBd.out) (by simp)
  have hI1 := HO1.out.ints.but ((HBb.out.trans HBc.out).trans HBd.out) (by simp)
  have hB14 := ((HBa.out.trans HBb.out).trans HBc.out).trans HBd.out
  have hhd := heads4 (t := 22) (c1 := c1) (c2 := c2) (c3 := c3) (c4 := c4) hI1 hI2 hI3 hI4 (by omega) (by omega) (by omega) (by omega)
  have hcc := concat_any (c := 4) hhd (by rw [fixL_flat]; decide +kernel) (by rw [fixL_flat]; decide +kernel) (by simp)
  rw [fixL_flat] at hcc
  have HCC := Lib.hid hcc
  have HB14 := Lib.hid (hB14.alloc (.cells #[.slice (some ⟨g1, 0, none⟩) 144 c1, .slice (some ⟨g2, 0, none⟩) 112 c2, .slice (some ⟨g3, 0, none⟩) 24 c3, .slice (some ⟨g4, 0, none⟩) 8 c4] 22))
  clear hI1 hI2 hI3 hI4 hB14 hhd hcc HO1 HO2 HO3 HO4 HBa HBb HBc HBd
  go_wp2_with fail
  refine HCC.out.mono ?_
  rintro e w5 ⟨v5, rfl, hO5, hB5⟩
  have hB25 := HB14.out.trans hB5
  obtain ⟨A5, c5, rfl, hI5⟩ := own_some hO5 (by decide +kernel)
  have hsz5 := HB14.out.size
  rw [show fixL.length = 288 from by decide +kernel] at *
  have HO5 := Lib.hid hO5
  have HB25 := Lib.hid hB25
  have HSZ5 := Lib.hid hsz5
  clear HCC HB14 hO5 hB5 hI5 hB25 hsz5
  go_wp2_with fail
  refine (prepeated_any 5 (n := 32) _ (by omega) (by omega)).mono ?_
  rintro e w6 ⟨g6, c6, rfl, hO6, hB6⟩
  rw [fixD_rep] at hO6
  have hB26 := HB25.out.trans hB6
  obtain ⟨og', hR, hlt, hKp, hback⟩ := HW2.out.rebase hB26
  have hs5 := HSZ5.out
  have hs25 := HB25.out.size
  have hz1 := HZ1.out
  have hL : Keep (w.heap.size :: og'.toList) w6 fun w' => Ints w' (some A5) 288 fixL := (OwnI.keep (S := w.heap.size :: og'.toList) (OwnI.but HO5.out hB6 (by simp)) (fun k hk => by have := (hlt k hk).1; omega) (by decide +kernel))
  have hD : Keep (w.heap.size :: og'.toList) w6 fun w' => Ints w' (some ⟨g6, 0, none⟩) 32 fixD := OwnI.keep hO6 (fun k hk => by have := (hlt k hk).1; omega) (by decide +kernel)
  have hB12 : But [] w w2 := HB1.out.fresh HW2.out.but (fun i hi => by simp at hi; omega)
  have hK6 : Keep (w.heap.size :: og'.toList) w6 fun w' => Tks w' A n (ts.map tkI) := Tks.keep HK.out (hB12.trans hB26) (fun k hk => by
    rcases (hlt k hk).2 with h | h
    · simp at h; omega
    · omega)
  have hs6 := hB26.size
  have hs12 := hB12.size
  have hs12' := HW2.out.but.size
  have hcall := playTs_any (c := c) (cl := c5) (cd := c6) hL hD hK6 chk_fixL chk_fixD (by omega) (by omega) (fun e => by cases e) (fun e => by cases e) HH.out (hasL (by omega)) (by omega) hR (by omega) (by omega)
  have HCALL := Lib.hid hcall
  have HBACK := Lib.hid hback
  rw [← HX.out] at HCALL
  clear hR hlt hKp hback hs5 hs25 hL hD hK6 hcall hO6 hB6 hB26 hB12 hs6 hs12 hs12'
  go_wp2_with fail
  refine HCALL.out.mono ?_
  rintro e w7 ⟨rfl, hW7⟩
  have hW8 := HBACK.out _ _ hW7
  have hbig : (fixedT ts).2 ≤ 100000000 := by
    rw [HX.out]
    have h1 := layC_few (okl chk_fixL) (layTs fixL fixD q2 ts) 256
    have h2 := layTs_few (okl chk_fixL) (okl chk_fixD) ts q2 HH.out
    have h3 := HLEN.out
    omega
  have HW8 := Lib.hid hW8
  clear hW7 hW8 HCALL HBACK
  go_wp2_with fail
  refine (HW8.out.text (by omega)).mono ?_
  rintro e w9 ⟨rfl, hB9⟩
  have HBe : Hid (But [] w w9) := Lib.hid ((HB1.out.fresh HW8.out.but (fun i hi => by simp at hi; omega)).trans hB9)
  clear hB9 hz1
  go_wp2
  go_ret
  exact ⟨rfl, HBe.out⟩
end Go.Proofs.YtjeeiodpdfbgmaaDoor
set_option maxRecDepth 100000
set_option linter.unusedVariables false
namespace Go.Proofs.YtjeeiodpdfbgmaaDoor
set_option maxRecDepth 100000
open Go Go.RowKit
attribute [local irreducible] layTs layC layB fixL fixD toks textX cntA cntB zeroRow dynL inc lsym dsym lims cntR runs ordCells
def ordK (S : List Int) (k : Nat) : List Int := (ordS.take k).map (fun j => S.getD j 0) ++ List.replicate (19 - k) 0
theorem ordK_len (S : List Int) {k : Nat} (hk : k ≤ 19) : (ordK S k).length = 19 := by
  unfold ordK; rw [List.length_append, tellS_len S hk, List.length_replicate]; omega
theorem ordK_set (S : List Int) {k : Nat} (hk : k < 19) : (ordK S k).set k (S.getD (ordS.getD k 0) 0) = ordK S (k + 1) := by
  unfold ordK
  rw [tellS_snoc S hk, List.set_append_right _ _ (by rw [tellS_len S (by omega)]; exact Nat.le_refl _), tellS_len S (by omega), Nat.sub_self]
  obtain ⟨m, hm⟩ : ∃ m, 19 - k = m + 1 := ⟨19 - k - 1, by omega⟩
  rw [hm, show 19 - (k + 1) = m from by omega, List.replicate_succ, List.set_cons_zero, List.append_assoc]; rfl
theorem ordK_end (S : List Int) : ordK S 19 = ordS.map (fun j => S.getD j 0) := by
  unfold ordK; rw [show 19 - 19 = 0 from rfl, List.replicate_zero, List.append_nil, List.take_of_length_le (Nat.le_refl 19)]
theorem ordK_zero (S : List Int) : ordK S 0 = List.replicate 19 0 := rfl
attribute [local irreducible] ordK
set_option maxHeartbeats 1000000 in
theorem ordered_pany (w : World) (hG : GD w) {A : Option Addr} {c : Nat} {S : List Int} (hI : Ints w A 19 S) :
    Calls Tryd.prog 76 #[.slice A 19 c] w fun e w' => e = .returned (.slice (some ⟨w.heap.size, 0, none⟩) 19 19) ∧ Row w' w.heap.size 3 (ordS.map (fun j => S.getD j 0)) ∧ But [] w w' := by
  have hSl := hI.1
  obtain ⟨g, o, rfl, hg, hc0⟩ := hI.at (show 0 < 19 by omega)
  clear hc0
  have hcl : ∀ k, k < 19 → w.cell? ⟨g, o + k, none⟩ = some (.int .i64 (S.getD k 0)) := fun k hk => by
    obtain ⟨g2, o2, e, _, hc⟩ := hI.at hk
    injection e with e
    injection e with e1 e2
    subst e1 e2
    rw [hc, List.getD_eq_getElem?_getD, List.getElem?_eq_getElem (by omega)]; rfl
  have HCL := Lib.hid hcl
  have hmkS : ∀ W : World, (Instr.makeSlice 22 (.int .i64 19) (.int .i64 19)).run Tryd.prog W = .ok (.slice (some ⟨W.heap.size, 0, none⟩) 19 19) (W.alloc (.cells (zeroRow 19) 3)) := fun W => run_zeros 19 (by omega) W
  have hr0 := row_zeros w 19
  rw [← ordK_zero S] at hr0
  have hB0 := (But.refl [] w).alloc (.cells (zeroRow 19) 3)
  have HROW := Lib.hid hr0
  have HBW := Lib.hid hB0
  have HG1 := Lib.hid (hG.but hB0)
  clear hr0 hB0 hG hcl hI hSl
  go_enter Tryd.func76, Tryd.ntmps76
  go_wp2_with (refine wpList_load_order rfl _ rfl rfl HG1.out ?_)
  go_loopw [8] (fun iv wr => ∃ k : Nat, k ≤ 19 ∧ iv = .int .i64 k ∧ Hid (Row wr w.heap.size 3 (ordK S k)) ∧ Hid (But [] w wr)) (fun iv _ => 19 - (intOf iv).toNat)
  case atStart => exact ⟨0, Nat.zero_le _, rfl, HROW, HBW⟩
  case round =>
    obtain ⟨k, hk, rfl, HA, HB⟩ := hrel
    clear HROW HBW hmkS
    by_cases hlt : k < 19
    · have hoi := run_ord_at k hlt
      have hol := ordS_lt hlt
      have hst := ordK_set S hlt
      obtain ⟨oi, hoi2⟩ : ∃ oi, oi = ordS.getD k 0 := ⟨_, rfl⟩
      rw [← hoi2] at hol hst
      simp only [← hoi2] at hoi
      have c0 := HB.out.cell (HCL.out oi hol) (by simp)
      obtain ⟨x, hx⟩ : ∃ x, x = S.getD oi 0 := ⟨_, rfl⟩
      rw [← hx] at c0 hst
      have f0 := HA.out.at (i := k) (by rw [ordK_len S (by omega)]; exact hlt)
      have f1 := HA.out.free k
      obtain ⟨v0, hv0⟩ : ∃ v, v = (ordK S k).getD k 0 := ⟨_, rfl⟩
      rw [← hv0] at f0
      have hnx := HA.out.set k x
      rw [hst] at hnx
      have hbw := HB.out.setCell (p := ⟨w.heap.size, k, none⟩) (.inr (Nat.le_refl _)) (.int .i64 x)
      have HNX := Lib.hid hnx
      have HBW3 := Lib.hid hbw
      have k0 : (0 : Int) ≤ (k : Int) := by omega
      have k1 : (k : Int) < 19 := by omega
      have o0 : (0 : Int) ≤ (oi : Int) := by omega
      have o1 : (oi : Int) < 19 := by omega
      clear hoi2 hst hx hnx hbw hv0
      go_wp2
      go_roundw
      case rel => exact ⟨k + 1, by omega, by go_num, HNX, HBW3⟩
      case measure => simp [intOf]; omega
    · obtain rfl : k = 19 := by omega
      rw [ordK_end] at HA
      go_wp2
      go_ret
      exact ⟨rfl, HA.out, HB.out⟩
theorem heads2 {w : World} {A1 A2 : Addr} {l1 l2 : List Int} {n1 n2 c1 c2 : Nat} {t : TypeId} (h1 : Ints w (some A1) n1 l1) (h2 : Ints w (some A2) n2 l2) (p1 : 0 < n1) (p2 : 0 < n2) :
    Heads (w.alloc (.cells #[.slice (some A1) n1 c1, .slice (some A2) n2 c2] t)) w.heap.size [.slice (some A1) n1 c1, .slice (some A2) n2 c2] [l1, l2] := by
  have hI := Is.fresh w t #[.slice (some A1) n1 c1, .slice (some A2) n2 c2]
  have hB := but_alloc w (.cells #[.slice (some A1) n1 c1, .slice (some A2) n2 c2] t)
  have q1 := h1.but hB (by simp)
  have q2 := h2.but hB (by simp)
  obtain rfl := h1.1
  obtain rfl := h2.1
  unfold Heads
  refine ⟨rfl, fun i hi => ?_⟩
  match i, hi with
  | 0, _ => exact ⟨hI.cell 0, A1, c1, rfl, q1, p1⟩
  | 1, _ => exact ⟨hI.cell 1, A2, c2, rfl, q2, p2⟩
theorem OwnP.keep {w : World} {base n c : Nat} {A : Option Addr} {L : List (Int × Nat)} (h : OwnP w base (.slice A n c) L) {S : List Nat} (hS : ∀ k ∈ S, k < base) : Keep S w fun w' => Qs w' A n L := fun w' hB => by
  have h2 : OwnP w' base (.slice A n c) L := ownsRow_but h hB fun g e hg => by have := (World.ownsRow.lt h g e).1; have := hS g hg; omega
  obtain ⟨A2, c2, e, hT⟩ := h2.open
  injection e with e1 e2 e3
  subst e1 e2
  exact hT
end Go.Proofs.YtjeeiodpdfbgmaaDoor
set_option maxRecDepth 100000
set_option linter.unusedVariables false
namespace Go.Proofs.YtjeeiodpdfbgmaaDoor
set_option maxRecDepth 100000
open Go Go.RowKit
theorem runs_plain (l : List Int) : ∀ c ∈ runs l, c.1 < 16 → c.2 = 0 := by
  have key : ∀ f i, ∀ c ∈ runsG l f i, c.1 < 16 → c.2 = 0 := by
    intro f
    induction f with
    | zero => intro i c hc; cases hc
    | succ f ih =>
      intro i c hc
      rw [runsG] at hc
      split at hc
      · rcases List.mem_cons.1 hc with h | h
        · subst h
          unfold runAt
          split
          · intro h; dsimp only at h; omega
          · split
            · intro h; dsimp only at h; omega
            · split
              · intro h; dsimp only at h; omega
              · intro _; rfl
        · exact ih _ c h
      · cases hc
  exact key _ _
attribute [local irreducible] layTs layC layB fixL fixD toks textX cntA cntB zeroRow dynL inc lsym dsym lims cntR runs ordCells ordK
theorem flat_two (a b : List Int) : [a, b].flatten = a ++ b := by simp
theorem extN_16 {y m : Nat} {S : List Int} {q : Nat × Nat} (h16 : y ≤ 18) : layR S q ((y : Int), m) = if y = 16 then layB (layC S q y) m 2 else if y = 17 then layB (layC S q y) m 3 else if y = 18 then layB (layC S q y) m 7 else layC S q y := by
  by_cases h1 : y = 16
  · rw [if_pos h1, layR_c16 h1]
  · rw [if_neg h1]
    by_cases h2 : y = 17
    · rw [if_pos h2, layR_c17 h2]
    · rw [if_neg h2]
      by_cases h3 : y = 18
      · rw [if_pos h3, layR_c18 h3]
      · rw [if_neg h3, layR_plain (by omega)]
theorem layR_ext0 {y m : Nat} {S : List Int} {q : Nat × Nat} (h18 : y ≤ 18) (hm : y < 16 → m = 0) : layR S q ((y : Int), m) = layB (layC S q y) m (extN y) := by
  rw [extN_16 h18]
  unfold extN
  by_cases h1 : y = 16
  · rw [if_pos h1, if_pos h1]
  · rw [if_neg h1, if_neg h1]
    by_cases h2 : y = 17
    · rw [if_pos h2, if_pos h2]
    · rw [if_neg h2, if_neg h2]
      by_cases h3 : y = 18
      · rw [if_pos h3, if_pos h3]
      · rw [if_neg h3, if_neg h3, hm (by omega), layB_none]
theorem OwnI.cap {w : World} {base n c : Nat} {A : Option Addr} {l : List Int} (h : OwnI w base (.slice A n c) l) : n ≤ c := by
  unfold OwnI at h
  rcases h.2 with ⟨e, h0⟩ | ⟨g', cap, cur, e, hb, hh, h1, h2, h3, h4⟩
  · injection e with e1 e2 e3; omega
  · injection e with e1 e2 e3; omega
section
variable {w w1 w' : World} {lo b : Nat} {og : Option Nat} {r : Nat × Nat}
set_option maxHeartbeats 2000000 in
theorem layLengths_pany {XA XB SM : List Int} {nA cA nB cB nT : Nat} {Aa Ab : Addr} {ts : List Tk} (hA : Keep (b :: og.toList) w fun w' => Ints w' (some Aa) nA XA) (hB : Keep (b :: og.toList) w fun w' => Ints w' (some Ab) nB XB) (hG : GD w1)
    (ha1 : 257 ≤ nA) (ha2 : nA ≤ 286) (hb1 : 1 ≤ nB) (hb2 : nB ≤ 30) (hD : DynOk XA XB SM nT ts) (hSM : SM = lims 7 (cntR (runs (XA ++ XB)))) (hnT : nT = (told SM).length) (hW : WroteP w w1 lo b og r) (hlo : lo ≤ w.heap.size) (hN : r.2 ≤ 1000) :
    Calls Tryd.prog 58 #[.pointer (some ⟨b, 0, none⟩), .slice (some Aa) nA cA, .slice (some Ab) nB cB] w1 fun e w' => e = .returned (.tuple #[]) ∧ WroteP w w' lo b og (layRs SM (layS3 SM (layB (layB (layB r (nA - 257) 5) (nB - 1) 5) (nT - 4) 4) (ordS.take nT)) (runs (XA ++ XB))) := by
  have hIA := hW.keep hA
  have hIB := hW.keep hB
  have hla := hIA.1
  have hlb := hIB.1
  have hlY : (XA ++ XB).length = nA + nB := by rw [List.length_append, hla, hlb]
  have hhd := heads2 (t := 22) (c1 := cA) (c2 := cB) hIA hIB (by omega) (by omega)
  have hcc := concat_any (c := 2) hhd (by rw [flat_two, hlY]; omega) (by rw [flat_two, hlY]; omega) (by simp)
  rw [flat_two] at hcc
  obtain ⟨Y, hY⟩ : ∃ Y, Y = XA ++ XB := ⟨_, rfl⟩
  rw [← hY] at hcc hlY hSM ⊢
  obtain ⟨N, hNY⟩ : ∃ N, N = nA + nB := ⟨_, rfl⟩
  rw [← hNY] at hlY
  have hab := hD.ab
  have hrs := hD.rs
  rw [← hY] at hab hrs
  have hcd := runs_codes hab
  have hRN := runs_few Y
  rw [hlY] at hRN
  obtain ⟨R, hR⟩ : ∃ R, R = runs Y := ⟨_, rfl⟩
  have hok := runs_plain Y
  rw [← hR] at hok
  rw [← hR] at hcd hRN hrs hSM ⊢
  have hB0 := but_alloc w1 (.cells #[.slice (some Aa) nA cA, .slice (some Ab) nB cB] 22)
  have HCC := Lib.hid hcc
  have HB0 := Lib.hid hB0
  have HG := Lib.hid hG
  have HW := Lib.hid hW
  have HD := Lib.hid hD
  have HSM := Lib.hid hSM
  have HNT := Lib.hid hnT
  have HR := Lib.hid hR
  have HCD := Lib.hid hcd
  have HRS := Lib.hid hrs
  have HOK := Lib.hid hok
  have HLY := Lib.hid hlY
  have hN316 : N ≤ 316 := by omega
  have ht4 := hD.n1
  have ht19 := hD.n2
  clear hhd hcc hA hB hG hW hD hSM hnT hIA hIB hla hlb hlY hY hab hrs hcd hR hok hB0 hNY
  obtain ⟨mA, hmA⟩ : ∃ m, nA = m + 257 := ⟨nA - 257, by omega⟩
  obtain ⟨mB, hmB⟩ : ∃ m, nB = m + 1 := ⟨nB - 1, by omega⟩
  obtain ⟨mT, hmT⟩ : ∃ m, nT = m + 4 := ⟨nT - 4, by omega⟩
  have e1 : nA - 257 = mA := by omega
  have e2 : nB - 1 = mB := by omega
  have e3 : nT - 4 = mT := by omega
  rw [e1, e2, e3]
  have wA : (nA : Int) - 257 = (mA : Int) := by omega
  have wB : (nB : Int) - 1 = (mB : Int) := by omega
  have wT : (nT : Int) - 4 = (mT : Int) := by omega
  have hmA2 : mA < 32 := by omega
  have hmB2 : mB < 32 := by omega
  have hmT2 : mT < 16 := by omega
  obtain ⟨q3, hq3⟩ : ∃ q, q = layB r mA 5 := ⟨_, rfl⟩
  obtain ⟨q4, hq4⟩ : ∃ q, q = layB q3 mB 5 := ⟨_, rfl⟩
  obtain ⟨q5, hq5⟩ : ∃ q, q = layB q4 mT 4 := ⟨_, rfl⟩
  have hf3 : q3.2 ≤ 1000 + 5 := by rw [hq3, layB_eq (by omega) (by omega)]; exact Nat.add_le_add_right hN 5
  have hf4 : q4.2 ≤ 1000 + 5 + 5 := by rw [hq4, layB_eq (by omega) (by omega)]; exact Nat.add_le_add_right hf3 5
  have hf5 : q5.2 ≤ 1000 + 5 + 5 + 4 := by rw [hq5, layB_eq (by omega) (by omega)]; exact Nat.add_le_add_right hf4 4
  rw [← hq3, ← hq4, ← hq5]
  have HQ3 := Lib.hid hq3
  have HQ4 := Lib.hid hq4
  have HQ5 := Lib.hid hq5
  clear hmA hmB hmT e1 e2 e3 hq3 hq4 hq5
  go_enter Tryd.func58, Tryd.ntmps58
  go_wp2_with fail
  refine HCC.out.mono ?_
  rintro e w2 ⟨v2, rfl, hO2, hB2⟩
  obtain ⟨A2, c2, rfl, hI2, hx2⟩ := hO2.open
  rw [HLY.out] at hI2 ⊢
  have hc2 : N ≤ c2 := by have := hO2.cap; rw [HLY.out] at this; exact this
  have hQ := runs_pany hI2 (by omega) hc2
  rw [← HR.out] at hQ
  have HQ := Lib.hid hQ
  have HB2 := Lib.hid (HB0.out.trans hB2)
  clear hO2 hI2 hx2 hB2 hQ HCC HB0
  go_wp2_with fail
  refine HQ.out.mono ?_
  rintro e w3 ⟨v3, rfl, hP3, hB3⟩
  obtain ⟨A3, c3, rfl, hQ3⟩ := hP3.open
  have hS := smallLengths_pany (c := c3) w3 hQ3 (by omega) HCD.out
  rw [← HSM.out] at hS
  have HS := Lib.hid hS
  have HP3 := Lib.hid hP3
  have HB3 := Lib.hid (HB2.out.trans hB3)
  have hsz2 := HB2.out.size
  clear hP3 hB3 hQ3 hS HQ
  go_wp2_with fail
  refine HS.out.mono ?_
  rintro e w4 ⟨gS, rfl, hOS, hB4⟩
  have hO := ordered_pany w4 (HG.out.but (HB3.out.trans hB4)) (c := 19) hOS.ints
  have HO := Lib.hid hO
  have HOS := Lib.hid hOS
  have HP4 := Lib.hid (HP3.out.but hB4)
  have HB4 := Lib.hid (HB3.out.trans hB4)
  have hsz3 := HB3.out.size
  clear hO hOS hB4 HS HP3
  go_wp2_with fail
  refine HO.out.mono ?_
  rintro e w5 ⟨rfl, hRow5, hB5⟩
  have hI5 := hRow5.ints
  rw [List.length_map, show ordS.length = 19 from rfl] at hI5
  have hT := trimmed_pany (c := 19) (least := 4) hI5 (by omega) (by omega) (by omega) (by omega)
  have hnT2 : uptoN (ordS.map fun j => SM.getD j 0) 4 19 = nT := by
    rw [HNT.out]; unfold told; rw [upto0_len, List.length_map]; rfl
  rw [hnT2] at hT
  have HT := Lib.hid hT
  have HROW := Lib.hid hRow5
  have HOS5 := Lib.hid (HOS.out.but hB5 (by simp))
  have HP5 := Lib.hid (HP4.out.but hB5)
  have HB5 := Lib.hid (HB4.out.trans hB5)
  have hsz4 := HB4.out.size
  clear hRow5 hI5 hT hnT2 hB5 HO HOS HP4
  go_wp2_with fail
  refine HT.out.mono ?_
  rintro e w6 ⟨rfl, rfl⟩
  obtain ⟨og5, hW5, hlt5, hKp5, hback5⟩ := HW.out.rebase HB5.out
  have hlo5 : lo ≤ w5.heap.size := Nat.le_trans hlo (Nat.le_trans HW.out.but.size HB5.out.size)
  have hw13 : w1.heap.size ≤ w4.heap.size := hsz4
  have HKROW := Lib.hid (show Keep (b :: og5.toList) w5 fun w' => Row w' w4.heap.size 3 (ordS.map (fun j => SM.getD j 0)) from fun w' hw => HROW.out.but hw (fun hk => by have := (hlt5 _ hk).1; omega))
  have HKSM := Lib.hid (OwnI.keep (S := b :: og5.toList) HOS5.out (fun k hk => by have := (hlt5 _ hk).1; omega) (by rw [HD.out.sl]))
  have HKR := Lib.hid (HP5.out.keep (S := b :: og5.toList) (fun k hk => by have := (hlt5 _ hk).1; omega))
  have HW5 := Lib.hid hW5
  have HBK5 := Lib.hid hback5
  clear hlt5 hKp5 hback5 hW5 HT HOS5 HP5 HROW
  go_wp2_with fail
  refine (HW5.out.bits hlo5 (by omega) mA 5).mono ?_
  rintro e wa ⟨rfl, ha⟩
  rw [← HQ3.out] at ha
  have Ha := Lib.hid ha
  clear ha
  go_wp2_with fail
  refine (Ha.out.bits hlo5 (by omega) mB 5).mono ?_
  rintro e wb ⟨rfl, hb⟩
  rw [← HQ4.out] at hb
  have Hb := Lib.hid hb
  clear hb
  go_wp2_with fail
  refine (Hb.out.bits hlo5 (by omega) mT 4).mono ?_
  rintro e wd ⟨rfl, hd⟩
  rw [← HQ5.out] at hd
  have Hd := Lib.hid hd
  clear hd Ha Hb HW5 wA wB wT
  have H7 := Lib.hid HD.out.s7
  have HS0 := Lib.hid (show WroteP w5 wd lo b og5 (layS3 SM q5 (ordS.take 0)) from by rw [layS3_nil]; exact Hd.out)
  have hf6 : (layS3 SM q5 (ordS.take 0)).2 ≤ 1014 + 3 * 0 := by rw [layS3_nil]; exact hf5
  clear Hd
  go_wp2
  go_loopw [42] (fun iv wx => ∃ j : Nat, j ≤ nT ∧ iv = .int .i64 j ∧ Hid (WroteP w5 wx lo b og5 (layS3 SM q5 (ordS.take j))) ∧ (layS3 SM q5 (ordS.take j)).2 ≤ 1014 + 3 * j) (fun iv _ => nT - (intOf iv).toNat)
  case atStart => exact ⟨0, Nat.zero_le _, rfl, HS0, hf6⟩
  case round =>
    obtain ⟨j, hj, rfl, HWJ, hfj⟩ := hrel
    clear HS0 hf6
    by_cases hlt : j < nT
    · have hj19 : j < 19 := by omega
      have hsn := layS3_snoc SM q5 hj19
      have h7j := H7.out (ordS.getD j 0)
      obtain ⟨x, hx⟩ : ∃ x : Nat, SM.getD (ordS.getD j 0) 0 = (x : Int) := ⟨(SM.getD (ordS.getD j 0) 0).toNat, by omega⟩
      have hrow := HWJ.out.keep HKROW.out
      have hc := hrow.at (i := j) (by rw [List.length_map]; exact hj19)
      rw [map_getD (show j < ordS.length from hj19), hx] at hc
      rw [hx] at hsn h7j
      rw [Int.toNat_natCast] at hsn
      have hx7 : x ≤ 7 := by omega
      obtain ⟨qj, hqj⟩ : ∃ q, q = layS3 SM q5 (ordS.take j) := ⟨_, rfl⟩
      rw [← hqj] at hsn hfj HWJ
      have hf9 : (layB qj x 3).2 ≤ 1014 + 3 * (j + 1) := by rw [layB_eq (by omega) (by omega)]; show qj.2 + 3 ≤ _; omega
      rw [← hsn] at hf9
      have HSN := Lib.hid hsn
      have j0 : (0 : Int) ≤ (j : Int) := by omega
      have j1 : (j : Int) < (nT : Int) := by omega
      clear hx hqj hsn hrow h7j
      go_wp2_with fail
      refine (HWJ.out.bits hlo5 (by omega) x 3).mono ?_
      rintro e w10 ⟨rfl, hW10⟩
      rw [← HSN.out] at hW10
      have HW10 := Lib.hid hW10
      clear hW10 hc
      go_wp2
      go_roundw
      case rel => exact ⟨j + 1, by omega, by go_num, HW10, hf9⟩
      case measure => simp [intOf]; omega
    · obtain rfl : j = nT := by omega
      obtain ⟨q6, hq6⟩ : ∃ q, q = layS3 SM q5 (ordS.take j) := ⟨_, rfl⟩
      rw [← hq6] at hfj HWJ
      have HQ6 := Lib.hid hq6
      have hcs := HD.out.cs
      have hmk := make_new (cap := 19) (HWJ.out.keep HKSM.out) (by omega) (fun e => by cases e) hcs
      have HMK := Lib.hid hmk
      have HOKS := Lib.hid (okl hcs)
      clear hq6 hcs hmk hlt hj H7
      go_wp2_with fail
      refine HMK.out.mono ?_
      rintro e w10 ⟨bt, rfl, hN10, hB10⟩
      obtain ⟨og6, hW6, hlt6, hKp6, hback6⟩ := HWJ.out.rebase hB10
      have hlo6 : lo ≤ w10.heap.size := Nat.le_trans hlo5 (Nat.le_trans HWJ.out.but.size hB10.size)
      have HKT := Lib.hid (hN10.keep (F := b :: og6.toList) (fun k hk => (hlt6 k hk).1))
      have HKR6 := Lib.hid (hKp6 _ HKR.out)
      have HBK6 := Lib.hid hback6
      have HW6 := Lib.hid (show WroteP w10 w10 lo b og6 (layRs SM q6 (R.take 0)) from hW6)
      have hfa : (layRs SM q6 (R.take 0)).2 ≤ 1100 + 40 * 0 := by show q6.2 ≤ _; omega
      clear hN10 hB10 hW6 hlt6 hKp6 hback6 HMK HWJ HKR HKSM HKROW
      go_wp2
      obtain ⟨wm, rfl⟩ : ∃ W, W = w10 := ⟨w10, rfl⟩
      obtain ⟨nR, hnR⟩ : ∃ n, n = R.length := ⟨_, rfl⟩
      rw [← hnR] at hRN ⊢
      have HNR := Lib.hid hnR
      clear hnR
      go_loopw [57] (fun iv wx => ∃ j : Nat, j ≤ nR ∧ iv = .int .i64 j ∧ Hid (WroteP wm wx lo b og6 (layRs SM q6 (R.take j))) ∧ (layRs SM q6 (R.take j)).2 ≤ 1100 + 40 * j) (fun iv _ => nR - (intOf iv).toNat)
      case atStart => exact ⟨0, Nat.zero_le _, rfl, HW6, hfa⟩
      case round =>
        obtain ⟨n, hn, rfl, HWN, hfn⟩ := hrel
        clear HW6 hfa
        by_cases hlt : n < nR
        · have hltR : n < R.length := by rw [← HNR.out]; exact hlt
          have hmem := HCD.out _ (List.getElem_mem hltR)
          have hh := HRS.out _ (List.getElem_mem hltR)
          have hpl := HOK.out _ (List.getElem_mem hltR)
          have hts : R.take (n + 1) = R.take n ++ [R[n]] := List.take_succ_eq_append_getElem hltR
          have hsn := layRs_snoc SM q6 (R.take n) R[n]
          rw [← hts] at hsn
          have hQn := HWN.out.keep HKR6.out
          rw [← HNR.out] at hQn
          obtain ⟨g, o, cc, mm, rfl, hg, c00, c01, h1⟩ := hQn.at hlt
          rw [List.getElem?_eq_getElem hltR] at h1
          injection h1 with h1
          rw [h1] at hmem hsn hh hpl
          dsimp only at hmem hsn hh hpl
          obtain ⟨y, rfl⟩ : ∃ y : Nat, cc = (y : Int) := ⟨cc.toNat, by omega⟩
          rw [layR_ext0 (by omega) (fun h => hpl (by omega))] at hsn
          obtain ⟨q, hq⟩ : ∃ q, q = layRs SM q6 (R.take n) := ⟨_, rfl⟩
          rw [← hq] at hsn HWN hfn
          have hf1 := layC_few HOKS.out q y
          have hf2 := layB_few (layC SM q y) mm (extN y)
          have hx7 : extN y ≤ 7 := by unfold extN; split; omega; split; omega; split <;> omega
          obtain ⟨wb, hwb⟩ : ∃ wb, wb = wr.alloc (.cells #[.int .i64 (y : Int), .int .i64 (mm : Int)] 29) := ⟨_, rfl⟩
          have hIb : Is wb wr.heap.size 29 #[.int .i64 (y : Int), .int .i64 (mm : Int)] := by rw [hwb]; exact Is.fresh wr _ _
          have hBb : But [] wr wb := by rw [hwb]; exact (But.refl [] wr).alloc _
          have HSN := Lib.hid hsn
          have HIB := Lib.hid hIb
          have HBB := Lib.hid hBb
          have HWB := Lib.hid hwb
          have i0' : (0 : Int) ≤ (n : Int) := by omega
          have i1' : (n : Int) < (nR : Int) := by omega
          have hbb := hBb.size
          clear hts hq h1 hg hltR hsn hpl hQn hwb hIb hBb
          go_upto_region 15 with (fail)
          rw [← HWB.out]
          obtain ⟨og7, hR7, hlt7, hKp7, hback7⟩ := HWN.out.rebase (HBB.out.drewN 1)
          have hlo7 : lo ≤ (wb.drewN 1).heap.size := Nat.le_trans hlo6 (Nat.le_trans HWN.out.but.size hbb)
          have hcall := lay_pany (m := mm) (e := extN y) (hKp7 _ HKT.out) HOKS.out hR7 hlo7 (by omega) hh (by omega)
          unfold codVal at hcall
          have hcall2 : Calls Tryd.prog 68 #[.pointer (some ⟨b, 0, none⟩), .pointer (some ⟨bt, 0, none⟩), .agg #[.int .i64 y, .int .i64 mm, .int .i64 (extN y : Nat)]] wb.drew _ := hcall
          have HCALL := Lib.hid hcall2
          have HBK7 := Lib.hid hback7
          have q0 := HIB.out.cell 0
          have q1 := HIB.out.cell 1
          clear hR7 hlt7 hKp7 hback7 hcall hcall2 c00 c01 hh
          go_region_with (first | (go_at_call 77; go_loud (refine (extraOf_pany _ y).mono ?_; rintro e w3 ⟨rfl, rfl⟩)) | (go_at_call 68; go_loud (refine HCALL.out.mono ?_; rintro e w3 ⟨rfl, hW3⟩; have HW3 := Lib.hid (HBK7.out _ _ hW3); clear hW3)))
          all_goals
            go_simp
            go_wp2
            go_roundw
            case rel => exact ⟨n + 1, by omega, by go_num, Lib.hid (by rw [HSN.out]; exact HW3.out), by rw [HSN.out]; omega⟩
            case measure => simp [intOf]; omega
        · obtain rfl : n = nR := by omega
          have hRR : R.take n = R := List.take_of_length_le (by have := HNR.out; omega)
          rw [hRR] at HWN
          have HF := Lib.hid (HBK5.out _ _ (HBK6.out _ _ HWN.out))
          clear hRR
          go_wp2
          go_end0
          exact ⟨rfl, by rw [← HQ6.out]; exact HF.out⟩
end
end Go.Proofs.YtjeeiodpdfbgmaaDoor
