/- Several texts in one: Four, ZlM, ZlE (what Told reach of them). -/
import Derived.Test.YtghegmbafbpnjaaDoorPm01
import Derived.Test.YtghegmbafbpnjaaDoorPm02
import Derived.Test.YtghegmbafbpnjaaDoorPm03
import Derived.Test.YtghegmbafbpnjaaDoorPm04
import Derived.Test.YtghegmbafbpnjaaDoorPm05
import Derived.Test.YtghegmbafbpnjaaDoorPm06
import Derived.Test.YtghegmbafbpnjaaDoorPm07
import Derived.Test.YtghegmbafbpnjaaDoorPm08
import Derived.Test.YtghegmbafbpnjaaDoorPm09
import Derived.Test.YtghegmbafbpnjaaDoorPm10
import Derived.Test.YtghegmbafbpnjaaDoorPm11
import Derived.Test.YtghegmbafbpnjaaDoorPm12
import Derived.Test.YtghegmbafbpnjaaDoorPm13
import Derived.Test.YtghegmbafbpnjaaDoorPm14
import Derived.Test.YtghegmbafbpnjaaDoorPm15
import Derived.Test.YtghegmbafbpnjaaDoorPm16
import Derived.Test.YtghegmbafbpnjaaDoorPm19
import Derived.Test.YtghegmbafbpnjaaDoorPm21
import Derived.Below
import Derived.BigQuiet
import Derived.BigRegion
import Derived.Deep.AppendLies
import Derived.Deep.CutBlock
import Derived.Deep.CutRange
import Derived.Deep.DeepCutAuto
import Derived.Deep.Draws
import Derived.Deep.LoopGhost
import Derived.Deep.QuietTactic
import Derived.Deep.RegionLaw
import Derived.Deep.RegionWith
import Derived.Deep.Slices
import Derived.Handy
import Derived.Laws.BitsAllLaws
import Derived.Laws.BitsLemmas
import Derived.Laws.CopyOwn
import Derived.Laws.IdiomStrings
import Derived.Laws.OwnMore
import Derived.Laws.Rows
import Derived.Laws.Strings2
import Derived.Laws.Strings3
import Derived.Laws.StructEq
import Derived.Lib.AppendStr
import Derived.Lib.AppendZeros
import Derived.Lib.Hide
import Derived.Lib.Strings
import Derived.LoopIn
import Derived.LoopNIn
import Derived.OneCell
import Derived.OpenShut
import Derived.Outline
import Derived.OwnWalk
import Derived.OwnWalkIn
import Derived.ProofKit
import Derived.RangeFuncBound
import Derived.RangeFuncCalls
import Derived.RangeFuncLeaves
import Derived.RangeFuncNested
import Derived.RegionTactic
import Derived.ScopeJumps
import Derived.Shelf.Abstract
import Derived.Shelf.RegionOpen
import Derived.Shelf.SlSortCmp.QuietGrown
import Derived.StillTailTactics
import Derived.TacticsInMore
import Derived.Test.YtghegmbafbpnjaaDoorChecked
import Derived.WalkKit
import Derived.WalkLawsBesides
import Derived.WalkMore
import Derived.WalkSpells
set_option maxRecDepth 100000
set_option linter.unusedVariables false
set_option linter.unusedVariables false
namespace Go.Proofs.YtghegmbafbpnjaaDoor
set_option maxRecDepth 100000
open Go
theorem set_ne {l : List UInt8} {k : Nat} {y : UInt8} (hk : k < l.length) (hy : y ≠ l[k]) : l.set k y ≠ l := by
  intro h
  have h1 : (l.set k y)[k]'(by rw [List.length_set]; exact hk) = y := List.getElem_set_self _
  apply hy
  rw [← h1]
  simp only [h]
end Go.Proofs.YtghegmbafbpnjaaDoor
set_option linter.unusedVariables false
namespace Go.Proofs.YtghegmbafbpnjaaDoor
set_option maxRecDepth 100000
/-- Another sum. -/
theorem unz_sum {l : List UInt8} (h : l.length ≤ 65535) {F : List UInt8} (hF : F.length = 4) (hne : F ≠ fourL (adSum l)) : unzT (zipL l F) (l.length : Nat) = ([], 17) := by
  rw [unz_zip h, if_neg (by omega), List.take_of_length_le (by omega), if_pos (fun e => hne (ofL_inj4 hF (fourL_length _) (by rw [e, ofL_four (adSum_lt l)])))]
/-- A byte of the sum that is changed: the stream with another sum. -/
theorem wrapT_set (l : List UInt8) {k : Nat} (hk : k < 4) (y : UInt8) : strL ((wrapT l).data.toList.set (2 + (bestX l).size + k) y) = zipL l ((fourL (adSum l)).set k y) := by
  have hbl : (bestX l).data.toList.length = (bestX l).size := by rw [Array.length_toList]; rfl
  rw [wrapT_list]
  unfold zipL
  congr 1
  obtain ⟨m, hm⟩ : ∃ m, 2 + (bestX l).size + k = m + 1 + 1 := ⟨(bestX l).size + k, by omega⟩
  rw [hm, List.set_cons_succ, List.set_cons_succ, List.set_append_right _ _ (by omega)]
  have : m - (bestX l).data.toList.length = k := by omega
  rw [this]
theorem unz_set {l : List UInt8} (h : l.length ≤ 65535) {k : Nat} (hk : k < 4) {y : UInt8} (hy : y ≠ (fourL (adSum l))[k]'(by rw [fourL_length]; exact hk)) :
    unzT (strL ((wrapT l).data.toList.set (2 + (bestX l).size + k) y)) (l.length : Nat) = ([], 17) := by
  rw [wrapT_set l hk, unz_sum h (by rw [List.length_set, fourL_length]) (set_ne _ hy)]
end Go.Proofs.YtghegmbafbpnjaaDoor
set_option maxRecDepth 100000
set_option linter.unusedVariables false
namespace Go.Proofs.YtghegmbafbpnjaaDoor
set_option maxRecDepth 100000
open Go Go.RowKit
attribute [local irreducible] bestX wrapT unzT strL fourL adSum textX storX fixedX dynL
theorem toldZ_text (w : World) (s : ByteArray) (cap k : Nat) (z : UInt8) (fz : Nat × Nat) :
    (convert 27 9 (.slice (some ⟨w.heap.size, 0, none⟩) s.size cap)).run Tryd.prog ((w.alloc (.cells (bytesRow s cap) 5 fz)).setCell ⟨w.heap.size, k, none⟩ (.int .u8 (z.toNat : Int))).drew
      = .ok (.string ⟨(s.data.toList.set k z).toArray⟩) ((w.alloc (.cells (bytesRow s cap) 5 fz)).setCell ⟨w.heap.size, k, none⟩ (.int .u8 (z.toNat : Int))).drew := by
  have hl : (s.data.toList.set k z).length = s.size := by rw [List.length_set]; exact Array.length_toList
  refine ByteRow.text ⟨hl, fun _ => ⟨w.heap.size, 0, rfl, fun i hi => ?_⟩⟩
  have hi' : i < s.data.size := by rw [hl] at hi; exact hi
  have hc : (w.alloc (.cells (bytesRow s cap) 5 fz)).cell? ⟨w.heap.size, i, none⟩ = some (.int .u8 (s.data[i].toNat : Int)) := by
    rw [World.cell?_alloc_mark]; exact bytesRow_at s cap i hi'
  rw [Nat.zero_add]
  show ((w.alloc (.cells (bytesRow s cap) 5 fz)).setCell ⟨w.heap.size, k, none⟩ (.int .u8 (z.toNat : Int))).cell? _ = _
  by_cases e : k = i
  · subst e
    rw [World.cell?_setCell_same _ _ _ hc]
    simp
  · rw [World.cell?_setCell_other _ _ _ _ (by intro h; injection h with _ h2; exact e h2), hc]
    simp [e]
set_option maxHeartbeats 1000000 in
theorem zlibTold_walk {s : ByteArray} {c x : Int} {w : World} (hs : s.size ≤ 140737488351232) (_hc : (Lit.int .i64 c).wf = true) (hx : (Lit.int .u8 x).wf = true) (hG : GL w ∧ GD w) :
    Calls Tryd.prog 4 #[.string s, .int .i64 c, .int .u8 x] w fun e w' => e = .returned (.bool true) ∧ Below w.heap.size w w' := by
  obtain ⟨hL, hD⟩ := hG
  have HA := Lib.hid (fun v hl hd => awake6_any v hl hd)
  by_cases h1 : 10000 < s.size
  · have d : decide ((10000 : Int) < (s.size : Int)) = true := by simp; omega
    have HL := Lib.hid hL
    have HD := Lib.hid hD
    clear hL hD h1
    go_enter Tryd.func4, Tryd.ntmps4
    go_wp2_with fail
    refine (HA.out _ HL.out HD.out).mono ?_
    rintro e w1 ⟨rfl, hB⟩
    have HB1 := Lib.hid hB
    clear hB
    go_wp2
    go_ret
    exact ⟨rfl, HB1.out.belowZ⟩
  · have d : decide ((10000 : Int) < (s.size : Int)) = false := by simp; omega
    by_cases hx0 : x = 0
    · have d2 : (x == 0) = true := by simpa using hx0
      have HL := Lib.hid hL
      have HD := Lib.hid hD
      clear hL hD h1 hx0
      go_enter Tryd.func4, Tryd.ntmps4
      go_wp2_with fail
      refine (HA.out _ HL.out HD.out).mono ?_
      rintro e w1 ⟨rfl, hB⟩
      have HB1 := Lib.hid hB
      clear hB
      go_wp2
      go_ret
      exact ⟨rfl, HB1.out.belowZ⟩
    · have t1 : (x == 0) = false := by rw [beq_eq_false_iff_ne]; omega
      obtain ⟨yb, rfl⟩ := u8_of hx
      have hlen := len_data s
      have H1 := Lib.hid (fun v h => pwrap_any v h (s := s) (by omega))
      have hsz := wrapT_size s.data.toList
      have hb1 := best_least (l := s.data.toList) (by omega)
      have hb2 := bestZ_size (l := s.data.toList) (by omega)
      obtain ⟨j, hj, hje⟩ : ∃ j : Nat, j < 4 ∧ c.tmod 4 % 4 = (j : Int) := ⟨(c.tmod 4 % 4).toNat, by omega, by omega⟩
      have hwl := wrapT_list s.data.toList
      obtain ⟨k, hk⟩ : ∃ k, k = 2 + (bestX s.data.toList).size + (3 - j) := ⟨_, rfl⟩
      have h65 : s.data.toList.length ≤ 65535 := by omega
      have h34 : 3 - j < 4 := by omega
      have hset := fun (y : UInt8) (hy : y ≠ (fourL (adSum s.data.toList))[3 - j]'(by rw [fourL_length]; exact h34)) => unz_set h65 h34 hy
      clear h65
      rw [← hk] at hset
      rw [hlen] at hset
      have hat : ∀ hq : k < (wrapT s.data.toList).data.size, (wrapT s.data.toList).data[k] = (fourL (adSum s.data.toList))[3 - j]'(by rw [fourL_length]; omega) := by
        intro hq
        rw [← Array.getElem_toList]
        simp only [hwl]
        have hbl : (bestX s.data.toList).data.toList.length = (bestX s.data.toList).size := by rw [Array.length_toList]; rfl
        obtain ⟨m, hm⟩ : ∃ m, k = m + 1 + 1 := ⟨(bestX s.data.toList).size + (3 - j), by omega⟩
        simp only [hm, List.getElem_cons_succ]
        rw [List.getElem_append_right (by omega)]
        congr 1
        omega
      obtain ⟨T, hT⟩ : ∃ T, T = wrapT s.data.toList := ⟨_, rfl⟩
      rw [← hT] at hsz
      simp only [← hT] at hset H1 hat
      have h8 : 8 ≤ T.size := by omega
      have h2 : T.size ≤ 20000 := by omega
      have hkd : k < T.data.size := by show k < T.size; omega
      have hat2 := hat hkd
      have hset2 := fun (y : UInt8) (hy : y ≠ T.data[k]) => hset y (by rw [← hat2]; exact hy)
      have hz : (T.data[k] ^^^ yb) ≠ T.data[k] := by
        intro h
        have h2 : T.data[k] ^^^ (T.data[k] ^^^ yb) = T.data[k] ^^^ T.data[k] := by rw [h]
        rw [← UInt8.xor_assoc, UInt8.xor_self, UInt8.zero_xor] at h2
        rw [h2] at t1
        exact absurd t1 (by decide)
      have hset3 := hset2 _ hz
      have HJ := Lib.hid hje
      clear hje
      have hxor : Go.bits .xor .u8 ((T.data[k].toNat : Nat) : Int) (yb.toNat : Int) = (((T.data[k] ^^^ yb).toNat : Nat) : Int) := by
        rw [u8_xor_nat _ _ (UInt8.toNat_lt _) (UInt8.toNat_lt _), UInt8.toNat_xor]
      have hcv := fun v : World => run_bytes_of_string (P := Tryd.prog) v 9 27 5 T Tryd.underlying9 Tryd.underlying27 Tryd.underlying5
      have ht := fun (v : World) cap fz => toldZ_text v T cap k (T.data[k] ^^^ yb) fz
      have hstr : (⟨(T.data.toList.set k (T.data[k] ^^^ yb)).toArray⟩ : ByteArray) = strL (T.data.toList.set k (T.data[k] ^^^ yb)) := by unfold strL; rfl
      simp only [hstr] at ht
      have hX := fun v h => punwrap_any v h (s := strL (T.data.toList.set k (T.data[k] ^^^ yb))) (M := (s.size : Nat)) (by rw [strL_size, List.length_set]; show T.data.toList.length ≤ _; rw [Array.length_toList]; show T.size ≤ _; omega) (by omega)
      rw [hset3, tellU_bad] at hX
      have HX := Lib.hid hX
      have HT := Lib.hid ht
      obtain ⟨z, hzz⟩ : ∃ z, z = T.data[k] ^^^ yb := ⟨_, rfl⟩
      obtain ⟨Y, hY⟩ : ∃ Y, Y = strL (T.data.toList.set k (T.data[k] ^^^ yb)) := ⟨_, rfl⟩
      rw [← hY] at HX HT
      rw [← hzz] at HT hxor
      have HCV := Lib.hid hcv
      have hks : (k : Int) = (T.size : Int) - 1 - (j : Int) := by omega
      have HKS := Lib.hid hks
      have hkT : k < T.size := hkd
      have d8 : decide ((T.size : Int) < 8) = false := by simp; omega
      have HL := Lib.hid hL
      have HD := Lib.hid hD
      clear hset3 hset2 hset hat2 hat
      clear hL hD hx hlen hsz hb1 hb2 hwl hk hT hX ht hstr hzz hY hcv hks h1 hx0 hz
      go_enter Tryd.func4, Tryd.ntmps4
      go_wp2_with fail
      refine (H1.out _ HD.out).mono ?_
      rintro e w1 ⟨rfl, hB⟩
      have HB1 := Lib.hid hB
      have hcv := HCV.out w1
      clear hB
      generalize hcap : grownCap w1 T.size 0 5 = cap at *
      have hcs : T.size ≤ cap := by rw [← hcap]; exact grownCap_ge w1 T.size 0 _
      generalize hfz : ((bytesRow T cap).size, (bytesRow T cap).size + 1) = fz at *
      have ce : (w1.alloc (.cells (bytesRow T cap) 5 fz)).cell? ⟨w1.heap.size, k, none⟩ = some (.int .u8 ((T.data[k]'hkd).toNat : Int)) := by
        rw [World.cell?_alloc_mark]; exact bytesRow_at T cap k hkd
      have ef : (w1.alloc (.cells (bytesRow T cap) 5 fz)).frozen? ⟨w1.heap.size, k, none⟩ = false := by
        rw [← hfz, World.frozen?_alloc_mark]
        have : (bytesRow T cap).size = cap := by unfold bytesRow; simp; have h : T.data.size = T.size := rfl; omega
        rw [this]
        simp; omega
      have ht := HT.out w1 cap fz
      clear hfz hcap
      go_upto_region 6 with (fail)
      go_cut [8] (fun q w2 => q = .int .i64 (k : Int) ∧ w2 = (w1.alloc (.cells (bytesRow T cap) 5 fz)).drew)
      case first =>
        have hm1 := Int.lt_tmod_of_pos c (show (0 : Int) < 4 by omega)
        have hm2 := Int.tmod_lt_of_pos c (show (0 : Int) < 4 by omega)
        clear ce ef ht hcv
        go_wp2
        go_meet
        refine ⟨?_, rfl⟩
        rw [HKS.out, ← HJ.out]
      case rest =>
      obtain ⟨rfl, rfl⟩ := hcut
      go_wp2_with fail
      have hB2 := ((HB1.out.alloc (.cells (bytesRow T cap) 5 fz)).setCell (p := ⟨w1.heap.size, k, none⟩) (.inr HB1.out.size) (.int .u8 (z.toNat : Int))).drew
      have HB2 := Lib.hid hB2
      clear hB2
      refine (HX.out _ (HL.out.but HB2.out)).mono ?_
      rintro e w3 ⟨rfl, hB⟩
      have HB3 := Lib.hid (HB2.out.trans hB)
      clear hB
      go_wp2_with fail
      refine (HA.out _ (HL.out.but HB3.out) (HD.out.but HB3.out)).mono ?_
      rintro e w4 ⟨rfl, hB⟩
      have HB4 := Lib.hid (HB3.out.trans hB)
      clear hB
      go_wp2
      go_ret
      exact ⟨rfl, HB4.out.belowZ⟩
end Go.Proofs.YtghegmbafbpnjaaDoor
