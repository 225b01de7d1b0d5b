/- Several texts in one: WriteD, CoinsM, EfA, EfB, EfC, EfD (what Wraps reach of them). -/
import Derived.Test.YtghegmbafbpnjaaGreatDoorPm01
import Derived.Test.YtghegmbafbpnjaaGreatDoorPm02
import Derived.Test.YtghegmbafbpnjaaGreatDoorPm03
import Derived.Test.YtghegmbafbpnjaaGreatDoorPm04
import Derived.Test.YtghegmbafbpnjaaGreatDoorPm05
import Derived.Test.YtghegmbafbpnjaaGreatDoorPm06
import Derived.Test.YtghegmbafbpnjaaGreatDoorPm07
import Derived.Test.YtghegmbafbpnjaaGreatDoorPm08
import Derived.Test.YtghegmbafbpnjaaGreatDoorPm09
import Derived.Test.YtghegmbafbpnjaaGreatDoorPm10
import Derived.Test.YtghegmbafbpnjaaGreatDoorPm11
import Derived.Test.YtghegmbafbpnjaaGreatDoorPm12
import Derived.Test.YtghegmbafbpnjaaGreatDoorPm13
import Derived.Test.YtghegmbafbpnjaaGreatDoorPm14
import Derived.Below
import Derived.BigQuiet
import Derived.BigRegion
import Derived.Deep.AppendLies
import Derived.Deep.CutRange
import Derived.Deep.DeepCutAuto
import Derived.Deep.Draws
import Derived.Deep.LoopGhost
import Derived.Deep.QuietTactic
import Derived.Deep.RegionLaw
import Derived.Deep.RegionWith
import Derived.Deep.Slices
import Derived.Handy
import Derived.Laws.BitsAllLaws
import Derived.Laws.BitsLemmas
import Derived.Laws.CopyOwn
import Derived.Laws.IdiomStrings
import Derived.Laws.OwnMore
import Derived.Laws.Rows
import Derived.Laws.Strings2
import Derived.Laws.Strings3
import Derived.Laws.StructEq
import Derived.Lib.AppendStr
import Derived.Lib.Hide
import Derived.Lib.Strings
import Derived.LoopIn
import Derived.LoopNIn
import Derived.OneCell
import Derived.OpenShut
import Derived.Outline
import Derived.OwnWalk
import Derived.OwnWalkIn
import Derived.ProofKit
import Derived.RangeFuncBound
import Derived.RangeFuncCalls
import Derived.RangeFuncLeaves
import Derived.RangeFuncNested
import Derived.RegionTactic
import Derived.ScopeJumps
import Derived.Shelf.Abstract
import Derived.Shelf.RegionOpen
import Derived.Shelf.SlSortCmp.QuietGrown
import Derived.StillTailTactics
import Derived.TacticsInMore
import Derived.Test.YtghegmbafbpnjaaGreatDoorChecked
import Derived.WalkKit
import Derived.WalkLawsBesides
import Derived.WalkMore
import Derived.WalkSpells
set_option maxRecDepth 100000
set_option linter.unusedVariables false
namespace Go.Proofs.YtghegmbafbpnjaaGreatDoor
set_option maxRecDepth 100000
open Go Go.RowKit
set_option maxRecDepth 100000 in
theorem fw_new (w : World) (lo : Nat) : FW (w.alloc (.cells #[.slice none 0 0, .int .i64 0] 79)) lo w.heap.size none 0 0 :=
  ⟨.slice none 0 0, [], Is.fresh w _ _, World.ownsRow_nil _ _ _ _, rfl, rfl, rfl, by decide⟩

end Go.Proofs.YtghegmbafbpnjaaGreatDoor
namespace Go.Proofs.YtghegmbafbpnjaaGreatDoor
set_option maxRecDepth 100000
theorem spot_le (c : Nat) : ∀ cs : List (Nat × Nat), spot c cs ≤ cs.length
  | [] => Nat.le_refl _
  | x :: cs => by rw [spot]; have := spot_le c cs; split <;> simp; exact this
end Go.Proofs.YtghegmbafbpnjaaGreatDoor
set_option maxRecDepth 100000
set_option linter.unusedVariables false
namespace Go.Proofs.YtghegmbafbpnjaaGreatDoor
set_option maxRecDepth 100000
open Go Go.RowKit
theorem lsymG_in (n : Nat) : ∀ k, k ≤ 29 → 257 ≤ lsymG n k ∧ lsymG n k ≤ 285
  | 0, _ => ⟨Nat.le_refl _, by show 257 ≤ 285; omega⟩
  | k + 1, h => by
    rw [lsymG]; split
    · omega
    · exact lsymG_in n k (by omega)
theorem dsymG_in (n : Nat) : ∀ k, k ≤ 30 → dsymG n k ≤ 29
  | 0, _ => Nat.zero_le _
  | k + 1, h => by
    rw [dsymG]; split
    · omega
    · exact dsymG_in n k (by omega)
section
variable {w : World}
set_option maxHeartbeats 1000000 in
theorem elength_any (n : Nat) (h1 : 3 ≤ n) (h2 : n ≤ 258) :
    Calls Tryz.prog 54 #[.int .i64 n] w fun e w' => e = .returned (.tuple #[.int .i64 (lsym n : Nat), .int .i64 ((n - lenBase (lsym n) : Nat) : Int), .int .i64 (lenBits (lsym n) : Nat)]) ∧ w = w' := by
  obtain ⟨l1, l2, l3, l4⟩ := lsym_all n (by omega) h1
  have HLE := Lib.hid (fun t h1 h2 => length_any (w := w) t h1 h2)
  have HLF := Lib.hid lenBase_few
  have HIN := Lib.hid (lsymG_in n)
  go_enter Tryz.func54, Tryz.ntmps54
  go_wp2
  go_loopw [5, 6] (fun bv sv wr => ∃ k : Nat, k ≤ 29 ∧ sv = .int .i64 ((257 + k : Nat) : Int) ∧ bv = .int .i64 (lsymG n k : Nat) ∧ w = wr) (fun _ sv _ => 300 - (intOf sv).toNat)
  case atStart => exact ⟨0, Nat.zero_le _, rfl, rfl, rfl⟩
  case round =>
    obtain ⟨k, hk, rfl, rfl, rfl⟩ := hrel
    have hin := HIN.out k hk
    obtain ⟨b, hb⟩ : ∃ b, b = lsymG n k := ⟨_, rfl⟩
    rw [← hb] at hin ⊢
    have HB := Lib.hid hb
    obtain ⟨t, ht⟩ : ∃ t, t = 257 + k := ⟨_, rfl⟩
    rw [← ht]
    have HT := Lib.hid ht
    have htb : 257 ≤ t ∧ t ≤ 286 := by omega
    clear hb
    by_cases hlt : k < 29
    · have hbf := HLF.out t (by omega) (by omega)
      have ht5 : t ≤ 285 := by omega
      have d1 : decide ((t : Int) ≤ 285) = true := by simp; omega
      clear ht
      go_wp2_with fail
      refine (HLE.out t (by omega) (by omega)).mono ?_
      rintro e w1 ⟨rfl, rfl⟩
      obtain ⟨B, hB⟩ : ∃ B, B = lenBase t := ⟨_, rfl⟩
      rw [← hB] at hbf ⊢
      have HBB := Lib.hid hB
      clear hB
      by_cases hle : B ≤ n
      · have d2 : decide ((B : Int) ≤ (n : Int)) = true := by simp; omega
        have d3 : decide (B ≤ n) = true := by simpa using hle
        have HN := Lib.hid (show lsymG n (k + 1) = t by rw [lsymG, if_pos (by rw [← HT.out, ← HBB.out]; exact hle), HT.out])
        go_wp2
        go_roundw
        case rel => exact ⟨k + 1, by omega, by have := HT.out; go_num, by rw [HN.out], by trivial⟩
        case measure => simp [intOf]; omega
      · have d2 : decide ((B : Int) ≤ (n : Int)) = false := by simp; omega
        have d3 : decide (B ≤ n) = false := by simpa using hle
        have HN := Lib.hid (show lsymG n (k + 1) = b by rw [lsymG, if_neg (by rw [← HT.out, ← HBB.out]; exact hle), HB.out])
        go_wp2
        go_roundw
        case rel => exact ⟨k + 1, by omega, by have := HT.out; go_num, by rw [HN.out], by trivial⟩
        case measure => simp [intOf]; omega
    · have d1 : decide ((t : Int) ≤ 285) = false := by simp; omega
      have hk29 : k = 29 := by omega
      have hbs : b = lsym n := by rw [HB.out, hk29]; rfl
      rw [← hbs] at l1 l2 l3 l4
      have HBS := Lib.hid hbs
      obtain ⟨B, hB⟩ : ∃ B, B = lenBase b := ⟨_, rfl⟩
      have hle := HLE.out b (by omega) (by omega)
      rw [← hB] at l3 l4 hle
      have HBQ := Lib.hid hB
      have HL2 := Lib.hid hle
      clear hk29 hbs hB ht hle
      go_wp2_with fail
      refine HL2.out.mono ?_
      rintro e w1 ⟨rfl, rfl⟩
      have e1 : (n : Int) - (B : Int) = ((n - B : Nat) : Int) := by omega
      go_wp2
      go_ret3
      exact ⟨by rw [← HBS.out, ← HBQ.out]; rfl, rfl⟩
set_option maxHeartbeats 1000000 in
theorem edistance_any (n : Nat) (h1 : 1 ≤ n) (h2 : n ≤ 512) :
    Calls Tryz.prog 55 #[.int .i64 n] w fun e w' => e = .returned (.tuple #[.int .i64 (dsym n : Nat), .int .i64 ((n - dstBase (dsym n) : Nat) : Int), .int .i64 (dstBits (dsym n) : Nat)]) ∧ w = w' := by
  obtain ⟨l2, l3, l4⟩ := dsym_all n (by omega) h1
  have HLE := Lib.hid (fun t h2 => distance_any (w := w) t h2)
  have HLF := Lib.hid dstBase_few
  have HIN := Lib.hid (dsymG_in n)
  go_enter Tryz.func55, Tryz.ntmps55
  go_wp2
  go_loopw [5, 6] (fun bv sv wr => ∃ k : Nat, k ≤ 30 ∧ sv = .int .i64 (k : Nat) ∧ bv = .int .i64 (dsymG n k : Nat) ∧ w = wr) (fun _ sv _ => 300 - (intOf sv).toNat)
  case atStart => exact ⟨0, Nat.zero_le _, rfl, rfl, rfl⟩
  case round =>
    obtain ⟨t, hk, rfl, rfl, rfl⟩ := hrel
    have hin := HIN.out t hk
    obtain ⟨b, hb⟩ : ∃ b, b = dsymG n t := ⟨_, rfl⟩
    rw [← hb] at hin ⊢
    have HB := Lib.hid hb
    clear hb
    by_cases hlt : t < 30
    · have hbf := HLF.out t (by omega)
      have d1 : decide ((t : Int) ≤ 29) = true := by simp; omega
      go_wp2_with fail
      refine (HLE.out t (by omega)).mono ?_
      rintro e w1 ⟨rfl, rfl⟩
      obtain ⟨B, hB⟩ : ∃ B, B = dstBase t := ⟨_, rfl⟩
      rw [← hB] at hbf ⊢
      have HBB := Lib.hid hB
      clear hB
      by_cases hle : B ≤ n
      · have d2 : decide ((B : Int) ≤ (n : Int)) = true := by simp; omega
        have d3 : decide (B ≤ n) = true := by simpa using hle
        have HN := Lib.hid (show dsymG n (t + 1) = t by rw [dsymG, if_pos (by rw [← HBB.out]; exact hle)])
        go_wp2
        go_roundw
        case rel => exact ⟨t + 1, by omega, by go_num, by rw [HN.out], by trivial⟩
        case measure => simp [intOf]; omega
      · have d2 : decide ((B : Int) ≤ (n : Int)) = false := by simp; omega
        have d3 : decide (B ≤ n) = false := by simpa using hle
        have HN := Lib.hid (show dsymG n (t + 1) = b by rw [dsymG, if_neg (by rw [← HBB.out]; exact hle), HB.out])
        go_wp2
        go_roundw
        case rel => exact ⟨t + 1, by omega, by go_num, by rw [HN.out], by trivial⟩
        case measure => simp [intOf]; omega
    · have d1 : decide ((t : Int) ≤ 29) = false := by simp; omega
      have hk30 : t = 30 := by omega
      have hbs : b = dsym n := by rw [HB.out, hk30]; rfl
      rw [← hbs] at l2 l3 l4
      have HBS := Lib.hid hbs
      obtain ⟨B, hB⟩ : ∃ B, B = dstBase b := ⟨_, rfl⟩
      have hle := HLE.out b (by omega)
      rw [← hB] at l3 l4 hle
      have HBQ := Lib.hid hB
      have HL2 := Lib.hid hle
      clear hk30 hbs hB hle
      go_wp2_with fail
      refine HL2.out.mono ?_
      rintro e w1 ⟨rfl, rfl⟩
      have e1 : (n : Int) - (B : Int) = ((n - B : Nat) : Int) := by omega
      go_wp2
      go_ret3
      exact ⟨by rw [← HBS.out, ← HBQ.out]; rfl, rfl⟩
set_option maxHeartbeats 1000000 in
theorem upto_any {A : Option Addr} {n c least : Nat} {l : List Int} (hl : Ints w A n l) (hn : n ≤ 1000) (hc : n ≤ c) (hle : least ≤ n) (h1 : 1 ≤ least) :
    Calls Tryz.prog 57 #[.slice A n c, .int .i64 least] w fun e w' => e = .returned (.slice A (uptoN l least n) c) ∧ w = w' := by
  have HI := Lib.hid hl
  have HLN := Lib.hid hl.1
  obtain ⟨g, o, rfl, hgl, hcx⟩ := hl.at (show 0 < n by omega)
  clear hcx hl
  go_enter Tryz.func57, Tryz.ntmps57
  go_wp2
  go_loopw [5] (fun kv wr => ∃ k : Nat, k ≤ n ∧ least ≤ k ∧ kv = .int .i64 k ∧ Hid (uptoN l least k = uptoN l least n) ∧ w = wr) (fun kv _ => (intOf kv).toNat)
  case atStart => exact ⟨n, Nat.le_refl _, hle, rfl, Lib.hid rfl, rfl⟩
  case round =>
    obtain ⟨k, hk, hlk, rfl, HU, rfl⟩ := hrel
    obtain ⟨j, rfl⟩ : ∃ j, k = j + 1 := ⟨k - 1, by omega⟩
    by_cases hgt : least < j + 1
    · obtain ⟨g2, o2, e2, _, hcell⟩ := HI.out.at (i := j) (by omega)
      injection e2 with e2
      injection e2 with e3 e4
      subst e3 e4
      have ej : l[j]'(by have := HLN.out; omega) = l.getD j 0 := by rw [List.getD_eq_getElem?_getD, List.getElem?_eq_getElem (by have := HLN.out; omega)]; rfl
      rw [ej] at hcell
      obtain ⟨x, hx⟩ : ∃ x, x = l.getD j 0 := ⟨_, rfl⟩
      rw [← hx] at hcell
      have HX := Lib.hid hx
      have d1 : decide ((least : Int) < ((j + 1 : Nat) : Int)) = true := by simp; omega
      have d1' : decide (least < j + 1) = true := by simpa using hgt
      have ee : ((j + 1 : Nat) : Int) - 1 = (j : Int) := by omega
      have b0 : (0 : Int) ≤ (j : Int) := by omega
      have b1 : (j : Int) < (n : Int) := by omega
      clear ej hx
      obtain ⟨K, hK⟩ : ∃ K, K = j + 1 := ⟨_, rfl⟩
      rw [← hK] at d1 d1' ee ⊢
      have HK := Lib.hid hK
      clear hK
      by_cases hz : x = 0
      · have dz : (x == 0) = true := by simp [hz]
        have HN := Lib.hid (show uptoN l least j = uptoN l least n by rw [← HU.out, uptoN, if_pos ⟨hgt, by rw [← HX.out]; exact hz⟩])
        clear hz
        go_wp2
        go_roundw
        case rel => exact ⟨j, by omega, by omega, rfl, HN, by trivial⟩
        case measure => have := HK.out; simp [intOf]; omega
      · have dz : (x == 0) = false := by simpa using hz
        have HN := Lib.hid (show uptoN l least n = K by rw [← HU.out, uptoN, if_neg (fun h => hz (by rw [HX.out]; exact h.2)), HK.out])
        have hKn : K ≤ n := by have := HK.out; omega
        have hKc : K ≤ c := by omega
        clear hz
        go_wp2
        go_ret
        exact ⟨by rw [HN.out]; rfl, rfl⟩
    · have d1 : decide ((least : Int) < ((j + 1 : Nat) : Int)) = false := by simp; omega
      have d1' : decide (least < j + 1) = false := by simpa using hgt
      have HN := Lib.hid (show uptoN l least n = j + 1 by rw [← HU.out, uptoN, if_neg (fun h => hgt h.1)])
      obtain ⟨K, hK⟩ : ∃ K, K = j + 1 := ⟨_, rfl⟩
      rw [← hK] at d1 d1' HN ⊢
      have hKn : K ≤ n := by omega
      have hKc : K ≤ c := by omega
      clear hK
      go_wp2
      go_ret
      exact ⟨by rw [HN.out]; rfl, rfl⟩
end
end Go.Proofs.YtghegmbafbpnjaaGreatDoor
set_option maxRecDepth 100000
set_option linter.unusedVariables false
namespace Go.Proofs.YtghegmbafbpnjaaGreatDoor
set_option maxRecDepth 100000
open Go Go.RowKit
theorem info_run : (Tryz.prog.info? 93).map (fun i => (i.zero, i.size, i.bytes)) = some (some (.agg #[.int .i64 0, .int .i64 0]), 2, 16) := by kernel_rfl
/-- Runs, in a slice of the call's own. -/
def GotQ (w : World) (L : List (Int × Nat)) (e : Ending) (w' : World) : Prop := ∃ v, e = .returned v ∧ OwnQ w' w.heap.size v L ∧ But [] w w'

section
variable {w : World}
set_option maxHeartbeats 2000000 in
theorem eruns_any {A : Option Addr} {n c : Nat} {l : List Int} (hl : Ints w A n l) (hn : n ≤ 1000) :
    Calls Tryz.prog 58 #[.slice A n c] w (GotQ w (runs l)) := by
  obtain ⟨i0, hi0, hz0, hz1, hz2⟩ := info_parts info_run
  have HI := Lib.hid hl
  have HLN := Lib.hid hl.1
  clear hl
  go_enter Tryz.func58, Tryz.ntmps58
  go_wp2
  go_loopw [3, 4] (fun ov iv wr => ∃ (i : Nat) (L : List (Int × Nat)), i ≤ n ∧ iv = .int .i64 i ∧ L.length ≤ i ∧ Hid (L ++ runsG l (l.length - i) i = runs l) ∧ Hid (OwnQ wr w.heap.size ov L) ∧ Hid (But [] w wr)) (fun _ iv _ => n - (intOf iv).toNat)
  case atStart => exact ⟨0, [], Nat.zero_le _, rfl, Nat.le_refl _, Lib.hid rfl, Lib.hid (OwnQ.nil _ _), Lib.hid (But.refl _ _)⟩
  case round =>
    obtain ⟨i, L, hin, rfl, hL, HR, HO, HB⟩ := hrel
    obtain ⟨wo, rfl⟩ : ∃ wo : World, wo = wr := ⟨_, rfl⟩
    by_cases hlt : i < n
    · obtain ⟨g, o, rfl, hg, hcell⟩ := HI.out.at hlt
      have hil : i < l.length := by have := HLN.out; omega
      have ex : l[i]'hil = l.getD i 0 := by rw [List.getD_eq_getElem?_getD, List.getElem?_eq_getElem hil]; rfl
      have hcell2 := HB.out.cell hcell (by simp)
      rw [ex] at hcell2
      have HST := Lib.hid (runs_step hil)
      have hrn := runN_in hil
      rw [HLN.out] at hrn
      have HRI := Lib.hid (runAt_in hil)
      obtain ⟨x, hx⟩ : ∃ x, x = l.getD i 0 := ⟨_, rfl⟩
      rw [← hx] at hcell2
      have HX := Lib.hid hx
      have k0 : (0 : Int) ≤ (i : Int) := by omega
      have k1 : (i : Int) < (n : Int) := by omega
      clear ex hx hcell
      obtain ⟨R, hR⟩ : ∃ R, R = runN l i := ⟨_, rfl⟩
      rw [← hR] at hrn
      have HRR := Lib.hid hR
      clear hR
      go_wp2
      go_loopw [5] (fun nv wr => ∃ (k q : Nat), 1 ≤ k ∧ i + k ≤ n ∧ nv = .int .i64 k ∧ Hid (eqRun l i (n + 1 - k) k = R) ∧ wr = wo.drewN q) (fun nv _ => 2000 - (intOf nv).toNat)
      case atStart => exact ⟨1, 0, Nat.le_refl _, by omega, rfl, Lib.hid (by rw [HRR.out, Nat.add_sub_cancel]; unfold runN; rw [HLN.out]), rfl⟩
      case round =>
        obtain ⟨k, q, hk1, hkn, rfl, HE, rfl⟩ := hrel
        by_cases hmore : i + k < n ∧ l.getD (i + k) 0 = l.getD i 0
        · obtain ⟨hm1, hm2⟩ := hmore
          obtain ⟨z, hz⟩ : ∃ z, z = i + k := ⟨_, rfl⟩
          obtain ⟨g2, o2, e2, _, hcz⟩ := HI.out.at (i := z) (by omega)
          injection e2 with e2
          injection e2 with e3 e4
          subst e3 e4
          have hzl : z < l.length := by have := HLN.out; omega
          have ez : l[z]'hzl = x := by
            rw [HX.out, ← hm2, ← hz, List.getD_eq_getElem?_getD, List.getElem?_eq_getElem hzl]; rfl
          rw [ez] at hcz
          have hcz2 := HB.out.cell hcz (by simp)
          have es : (i : Int) + (k : Int) = (z : Int) := by omega
          have wz : IntKind.i64.wrap (z : Int) = (z : Int) := IntWalk.i64_in _ (by omega)
          have dz : decide ((z : Int) < (n : Int)) = true := by simp; omega
          have dz2 : decide (z < n) = true := by simp; omega
          have dx : (x == x) = true := by simp
          have z0 : (0 : Int) ≤ (z : Int) := by omega
          have z1 : (z : Int) < (n : Int) := by omega
          have HN := Lib.hid (show eqRun l i (n + 1 - (k + 1)) (k + 1) = R by
            rw [← HE.out, show n + 1 - k = (n + 1 - (k + 1)) + 1 from by omega, eqRun, if_pos ⟨by rw [HLN.out]; exact hm1, hm2⟩])
          have hkn2 : i + (k + 1) ≤ n := by omega
          clear hcz ez hz hm1 hm2 hkn
          go_wp2
          go_quiet (fail)
          go_wp2
          go_roundw
          case rel => exact ⟨k + 1, q + nq, by omega, hkn2, by go_num, HN, by trivial⟩
          case measure => simp [intOf]; omega
        · have HKR := Lib.hid (show k = R by
            rw [← HE.out]
            by_cases h0 : n + 1 - k = 0
            · rw [h0]; rfl
            · rw [show n + 1 - k = (n + 1 - k - 1) + 1 from by omega, eqRun, if_neg (fun h => hmore ⟨by have := HLN.out; omega, h.2⟩)])
          go_upto_region 5 with (fail)
          go_cut [28] from 10 to 28 (fun v wx => v = .bool false ∧ ∃ q2, wx = wo.drewN q2)
          case first =>
            obtain ⟨z, hz⟩ : ∃ z, z = i + k := ⟨_, rfl⟩
            have es : (i : Int) + (k : Int) = (z : Int) := by omega
            have wz : IntKind.i64.wrap (z : Int) = (z : Int) := IntWalk.i64_in _ (by omega)
            by_cases hzn : z < n
            · obtain ⟨g2, o2, e2, _, hcz⟩ := HI.out.at (i := z) hzn
              injection e2 with e2
              injection e2 with e3 e4
              subst e3 e4
              have hzl : z < l.length := by have := HLN.out; omega
              obtain ⟨y, hy⟩ : ∃ y, y = l[z]'hzl := ⟨_, rfl⟩
              rw [← hy] at hcz
              have hcz2 := HB.out.cell hcz (by simp)
              have hyx : ¬ y = x := fun h => hmore ⟨by omega, by
                rw [← hz, ← HX.out, ← h, hy, List.getD_eq_getElem?_getD, List.getElem?_eq_getElem hzl]; rfl⟩
              have dyx : (y == x) = false := by simpa using hyx
              have dz : decide ((z : Int) < (n : Int)) = true := by simp; omega
              have dz2 : decide (z < n) = true := by simp; omega
              have z0 : (0 : Int) ≤ (z : Int) := by omega
              have z1 : (z : Int) < (n : Int) := by omega
              clear hcz hz hmore hy hyx
              go_quiet (fail)
              go_wp2
              go_meet
              exact ⟨rfl, q + nq, by first | rfl | exact wo.drewN_drewN q nq⟩
            · have dz : decide ((z : Int) < (n : Int)) = false := by simp; omega
              have dz2 : decide (z < n) = false := by simp; omega
              clear hz hmore
              go_quiet (fail)
              go_wp2
              go_meet
              exact ⟨rfl, q + nq, by first | rfl | exact wo.drewN_drewN q nq⟩
          case rest =>
          obtain ⟨rfl, q2, hw⟩ := hcut
          subst hw
          have hkR := HKR.out
          obtain rfl : k = R := hkR
          clear hmore HKR HE
          have HBW := Lib.hid (HB.out.drewN q2)
          have HOW := Lib.hid (HO.out.but ((But.refl [] wo).drewN q2))
          obtain ⟨ww, hww⟩ : ∃ ww, ww = wo.drewN q2 := ⟨_, rfl⟩
          have hc2 : ww.cell? ⟨g, o + i, none⟩ = some (.int .i64 x) := by rw [hww]; exact hcell2
          have hpre : ∀ j, j < n → ww.cell? ⟨g, o + j, none⟩ = some (.int .i64 (l.getD j 0)) := fun j hj => by
            obtain ⟨g2, o2, e2, _, hcz⟩ := HI.out.at (i := j) hj
            injection e2 with e2
            injection e2 with e3 e4
            subst e3 e4
            have hjl : j < l.length := by have := HLN.out; omega
            rw [hww, List.getD_eq_getElem?_getD, List.getElem?_eq_getElem hjl]
            exact HB.out.cell hcz (by simp)
          have HPRE := Lib.hid hpre
          rw [← hww] at HBW HOW ⊢
          have hszw := HBW.out.size
          clear hww hpre hcell2 HO HB
          by_cases hx0 : x = 0
          · have dx0 : (x == 0) = true := by simp [hx0]
            by_cases h11 : 11 ≤ k
            · have d11 : decide ((11 : Int) ≤ (k : Int)) = true := by simp; omega
              obtain ⟨m, hm⟩ : ∃ m, m = min k 138 := ⟨_, rfl⟩
              have hm1 : 11 ≤ m ∧ m ≤ 138 ∧ m ≤ k := by omega
              have HRA := Lib.hid (show runAt l i = ((18 : Int), m - 11, m) by
                unfold runAt; rw [← HRR.out, if_pos ⟨by rw [← HX.out]; exact hx0, h11⟩, hm])
              obtain ⟨y, hy⟩ : ∃ y, y = m - 11 := ⟨_, rfl⟩
              have ey : (m : Int) - 11 = (y : Int) := by omega
              rw [← hy] at HRA
              have HM := Lib.hid hm
              clear hm hy
              go_upto_region 10 with (fail)
              go_cut [5] from 49 to 50 (fun v wx => v = .int .i64 (m : Nat) ∧ ww = wx)
              case first =>
                rcases Nat.lt_or_ge 138 k with h5 | h5
                · have e : m = 138 := by have := HM.out; omega
                  subst e
                  go_wp2
                  all_goals (go_meet; exact ⟨rfl, rfl⟩)
                · have e : m = k := by have := HM.out; omega
                  subst e
                  go_wp2
                  all_goals (go_meet; exact ⟨rfl, rfl⟩)
              case rest =>
              obtain ⟨rfl, rfl⟩ := hcut
              go_wp2_with (at_builtin; refine wpList_append_own _ rfl _ _ 90 rfl w.heap.size 93 i0 (.agg #[.int .i64 0, .int .i64 0]) 2 16 Tryz.underlying90 hi0 hz0 hz1 hz2 rfl (by decide) _ L.length (qCells L) rfl (World.ownsRow.alloc HOW.out _) ⟨ww.heap.size, 0, none⟩ 1 1 [.int .i64 18, .int .i64 (y : Nat)] rfl rfl ?a1 ?a2 ?a3 ?a4 ?a5 ?_)
              case a1 => exact World.news_of_block (cs := #[.int .i64 18, .int .i64 (y : Nat)]) (t := 93) (fr := (0, 0)) (heap_alloc_new ww _)
              case a2 => simp [Value.oneCell']
              case a3 => unfold maxLen; omega
              case a4 => omega
              case a5 => simp; omega
              intro v' w2 hown2 hgrow2 _
              have HP := Lib.hid (OwnQ.pushed (x := ((18 : Int), y)) HBW.out HOW.out hown2 hgrow2)
              clear hown2 hgrow2
              go_wp2
              go_roundw
              case rel => exact ⟨i + m, L ++ [((18 : Int), y)], by omega, by go_num, by rw [List.length_append, List.length_singleton]; omega, Lib.hid (by rw [← HR.out, HST.out, HRA.out, List.append_assoc]; rfl), Lib.hid HP.out.1, Lib.hid HP.out.2⟩
              case measure => simp [intOf]; omega
            · have d11 : decide ((11 : Int) ≤ (k : Int)) = false := by simp; omega
              by_cases h3 : 3 ≤ k
              · have d3 : decide ((3 : Int) ≤ (k : Int)) = true := by simp; omega
                have HRA := Lib.hid (show runAt l i = ((17 : Int), k - 3, k) by
                  unfold runAt; rw [← HRR.out, if_neg (fun h => h11 h.2), if_pos ⟨by rw [← HX.out]; exact hx0, h3⟩])
                obtain ⟨y, hy⟩ : ∃ y, y = k - 3 := ⟨_, rfl⟩
                have ey : (k : Int) - 3 = (y : Int) := by omega
                rw [← hy] at HRA
                clear hy
                go_wp2_with (at_builtin; refine wpList_append_own _ rfl _ _ 90 rfl w.heap.size 93 i0 (.agg #[.int .i64 0, .int .i64 0]) 2 16 Tryz.underlying90 hi0 hz0 hz1 hz2 rfl (by decide) _ L.length (qCells L) rfl (World.ownsRow.alloc HOW.out _) ⟨ww.heap.size, 0, none⟩ 1 1 [.int .i64 17, .int .i64 (y : Nat)] rfl rfl ?b1 ?b2 ?b3 ?b4 ?b5 ?_)
                case b1 => exact World.news_of_block (cs := #[.int .i64 17, .int .i64 (y : Nat)]) (t := 93) (fr := (0, 0)) (heap_alloc_new ww _)
                case b2 => simp [Value.oneCell']
                case b3 => unfold maxLen; omega
                case b4 => omega
                case b5 => simp; omega
                intro v' w2 hown2 hgrow2 _
                have HP := Lib.hid (OwnQ.pushed (x := ((17 : Int), y)) HBW.out HOW.out hown2 hgrow2)
                clear hown2 hgrow2
                go_wp2
                go_roundw
                case rel => exact ⟨i + k, L ++ [((17 : Int), y)], by omega, by go_num, by rw [List.length_append, List.length_singleton]; omega, Lib.hid (by rw [← HR.out, HST.out, HRA.out, List.append_assoc]; rfl), Lib.hid HP.out.1, Lib.hid HP.out.2⟩
                case measure => simp [intOf]; omega
              · have d3 : decide ((3 : Int) ≤ (k : Int)) = false := by simp; omega
                have dn0 : (x != 0) = false := by simp [hx0]
                have HRA := Lib.hid (show runAt l i = (x, 0, 1) by
                  unfold runAt; rw [← HRR.out, if_neg (fun h => h11 h.2), if_neg (fun h => h3 h.2), if_neg (fun h => h.1 (by rw [← HX.out]; exact hx0)), ← HX.out])
                clear hx0
                go_upto_region 14 with (fail)
                go_cut [73] from 74 to 98 (fun v wx => v = .bool false ∧ ∃ q3, wx = ww.drewN q3)
                case first =>
                  go_quiet (fail)
                  go_wp2
                  go_meet
                  exact ⟨rfl, nq, rfl⟩
                case rest =>
                obtain ⟨rfl, q3, hw3⟩ := hcut
                obtain ⟨ww2, rfl⟩ : ∃ ww2 : World, ww2 = wc := ⟨_, rfl⟩
                have HBX : Hid (But [] w ww2) := Lib.hid (by rw [hw3]; exact HBW.out.drewN q3)
                have HOX := Lib.hid (HOW.out.but (w' := ww2) (by rw [hw3]; exact (But.refl [] ww).drewN q3))
                have hc3 : ww2.cell? ⟨g, o + i, none⟩ = some (.int .i64 x) := by rw [hw3]; exact hc2
                have hszx := HBX.out.size
                clear hw3 hc2
                go_wp2_with (at_builtin; refine wpList_append_own _ rfl _ _ 90 rfl w.heap.size 93 i0 (.agg #[.int .i64 0, .int .i64 0]) 2 16 Tryz.underlying90 hi0 hz0 hz1 hz2 rfl (by decide) _ L.length (qCells L) rfl (World.ownsRow.alloc HOX.out _) ⟨ww2.heap.size, 0, none⟩ 1 1 [.int .i64 x, .int .i64 0] rfl rfl ?c1 ?c2 ?c3 ?c4 ?c5 ?_)
                case c1 => exact World.news_of_block (cs := #[.int .i64 x, .int .i64 0]) (t := 93) (fr := (0, 0)) (heap_alloc_new ww2 _)
                case c2 => simp [Value.oneCell']
                case c3 => unfold maxLen; omega
                case c4 => omega
                case c5 => simp; omega
                intro v' w2 hown2 hgrow2 _
                have HP := Lib.hid (OwnQ.pushed (x := ((x : Int), 0)) HBX.out HOX.out hown2 hgrow2)
                clear hown2 hgrow2
                go_wp2
                go_roundw
                case rel => exact ⟨i + 1, L ++ [((x : Int), 0)], by omega, by go_num, by rw [List.length_append, List.length_singleton]; omega, Lib.hid (by rw [← HR.out, HST.out, HRA.out, List.append_assoc]; rfl), Lib.hid HP.out.1, Lib.hid HP.out.2⟩
                case measure => simp [intOf]; omega
          · have dx0 : (x == 0) = false := by simpa using hx0
            have dn0 : (x != 0) = true := by simpa using hx0
            have bi : IntKind.i64.wrap ((i : Int) - 1) = (i : Int) - 1 := IntWalk.i64_in _ (by omega)
            by_cases h16 : 0 < i ∧ l.getD (i - 1) 0 = x ∧ 3 ≤ k
            · obtain ⟨hi0', hpx, h3⟩ := h16
              have hp := HPRE.out (i - 1) (by omega)
              rw [hpx] at hp
              have d0 : decide ((0 : Int) < (i : Int)) = true := by simp; omega
              have d0' : decide (0 < i) = true := by simp; omega
              obtain ⟨j, hj⟩ : ∃ j, j = i - 1 := ⟨_, rfl⟩
              rw [← hj] at hp hpx
              have ej : (i : Int) - 1 = (j : Int) := by omega
              have wj : IntKind.i64.wrap (j : Int) = (j : Int) := IntWalk.i64_in _ (by omega)
              have j0 : (0 : Int) ≤ (j : Int) := by omega
              have j1 : (j : Int) < (n : Int) := by omega
              have dxx : (x == x) = true := by simp
              have d3 : decide ((3 : Int) ≤ (k : Int)) = true := by simp; omega
              obtain ⟨m, hm⟩ : ∃ m, m = min k 6 := ⟨_, rfl⟩
              have hm1 : 3 ≤ m ∧ m ≤ 6 ∧ m ≤ k := by omega
              have HRA := Lib.hid (show runAt l i = ((16 : Int), m - 3, m) by
                unfold runAt
                rw [← HRR.out, if_neg (fun h => hx0 (by rw [HX.out]; exact h.1)), if_neg (fun h => hx0 (by rw [HX.out]; exact h.1)), if_pos ⟨fun h => hx0 (by rw [HX.out]; exact h), hi0', by rw [← HX.out, ← hj]; exact hpx, h3⟩, hm])
              obtain ⟨y, hy⟩ : ∃ y, y = m - 3 := ⟨_, rfl⟩
              have ey : (m : Int) - 3 = (y : Int) := by omega
              rw [← hy] at HRA
              have HM := Lib.hid hm
              clear hm hy hj hpx bi
              go_upto_region 14 with (fail)
              go_cut [73] from 74 to 98 (fun v wx => v = .bool true ∧ ∃ q3, wx = ww.drewN q3)
              case first =>
                go_quiet (fail)
                go_wp2
                go_meet
                exact ⟨rfl, nq, rfl⟩
              case rest =>
              obtain ⟨rfl, q3, hw3⟩ := hcut
              obtain ⟨ww2, rfl⟩ : ∃ ww2 : World, ww2 = wc := ⟨_, rfl⟩
              have HBX : Hid (But [] w ww2) := Lib.hid (by rw [hw3]; exact HBW.out.drewN q3)
              have HOX := Lib.hid (HOW.out.but (w' := ww2) (by rw [hw3]; exact (But.refl [] ww).drewN q3))
              have hszx := HBX.out.size
              clear hw3 hc2 hp
              go_upto_region 15 with (fail)
              go_cut [5] from 99 to 100 (fun v wx => v = .int .i64 (m : Nat) ∧ ww2 = wx)
              case first =>
                rcases Nat.lt_or_ge 6 k with h5 | h5
                · have e : m = 6 := by have := HM.out; omega
                  subst e
                  go_wp2
                  all_goals (go_meet; exact ⟨rfl, rfl⟩)
                · have e : m = k := by have := HM.out; omega
                  subst e
                  go_wp2
                  all_goals (go_meet; exact ⟨rfl, rfl⟩)
              case rest =>
              obtain ⟨rfl, rfl⟩ := hcut
              go_wp2_with (at_builtin; refine wpList_append_own _ rfl _ _ 90 rfl w.heap.size 93 i0 (.agg #[.int .i64 0, .int .i64 0]) 2 16 Tryz.underlying90 hi0 hz0 hz1 hz2 rfl (by decide) _ L.length (qCells L) rfl (World.ownsRow.alloc HOX.out _) ⟨ww2.heap.size, 0, none⟩ 1 1 [.int .i64 16, .int .i64 (y : Nat)] rfl rfl ?d1 ?d2 ?d3 ?d4 ?d5 ?_)
              case d1 => exact World.news_of_block (cs := #[.int .i64 16, .int .i64 (y : Nat)]) (t := 93) (fr := (0, 0)) (heap_alloc_new ww2 _)
              case d2 => simp [Value.oneCell']
              case d3 => unfold maxLen; omega
              case d4 => omega
              case d5 => simp; omega
              intro v' w2 hown2 hgrow2 _
              have HP := Lib.hid (OwnQ.pushed (x := ((16 : Int), y)) HBX.out HOX.out hown2 hgrow2)
              clear hown2 hgrow2
              go_wp2
              go_roundw
              case rel => exact ⟨i + m, L ++ [((16 : Int), y)], by omega, by go_num, by rw [List.length_append, List.length_singleton]; omega, Lib.hid (by rw [← HR.out, HST.out, HRA.out, List.append_assoc]; rfl), Lib.hid HP.out.1, Lib.hid HP.out.2⟩
              case measure => simp [intOf]; omega
            · have HRA := Lib.hid (show runAt l i = (x, 0, 1) by
                unfold runAt
                rw [← HRR.out, if_neg (fun h => hx0 (by rw [HX.out]; exact h.1)), if_neg (fun h => hx0 (by rw [HX.out]; exact h.1)), if_neg (fun h => h16 ⟨h.2.1, by rw [h.2.2.1, ← HX.out], h.2.2.2⟩), ← HX.out])
              go_upto_region 14 with (fail)
              go_cut [73] from 74 to 98 (fun v wx => v = .bool false ∧ ∃ q3, wx = ww.drewN q3)
              case first =>
                by_cases hip : 0 < i
                · have d0 : decide ((0 : Int) < (i : Int)) = true := by simp; omega
                  have d0' : decide (0 < i) = true := by simp; omega
                  have hp := HPRE.out (i - 1) (by omega)
                  obtain ⟨j, hj⟩ : ∃ j, j = i - 1 := ⟨_, rfl⟩
                  rw [← hj] at hp
                  obtain ⟨y, hy⟩ : ∃ y, y = l.getD j 0 := ⟨_, rfl⟩
                  rw [← hy] at hp
                  have ej : (i : Int) - 1 = (j : Int) := by omega
                  have wj : IntKind.i64.wrap (j : Int) = (j : Int) := IntWalk.i64_in _ (by omega)
                  have j0 : (0 : Int) ≤ (j : Int) := by omega
                  have j1 : (j : Int) < (n : Int) := by omega
                  by_cases hyx : y = x
                  · have dyx : (y == x) = true := by simpa using hyx
                    have d3 : decide ((3 : Int) ≤ (k : Int)) = false := decide_eq_false (fun h => h16 ⟨hip, by rw [← hj, ← hy]; exact hyx, by omega⟩)
                    clear hy hj hyx h16 bi
                    go_quiet (fail)
                    go_wp2
                    go_meet
                    exact ⟨rfl, nq, rfl⟩
                  · have dyx : (y == x) = false := by simpa using hyx
                    clear hy hj hyx h16 bi
                    go_quiet (fail)
                    go_wp2
                    go_meet
                    exact ⟨rfl, nq, rfl⟩
                · have d0 : decide ((0 : Int) < (i : Int)) = false := by simp; omega
                  have d0' : decide (0 < i) = false := by simp; omega
                  clear h16 bi
                  go_quiet (fail)
                  go_wp2
                  go_meet
                  exact ⟨rfl, nq, rfl⟩
              case rest =>
              obtain ⟨rfl, q3, hw3⟩ := hcut
              obtain ⟨ww2, rfl⟩ : ∃ ww2 : World, ww2 = wc := ⟨_, rfl⟩
              have HBX : Hid (But [] w ww2) := Lib.hid (by rw [hw3]; exact HBW.out.drewN q3)
              have HOX := Lib.hid (HOW.out.but (w' := ww2) (by rw [hw3]; exact (But.refl [] ww).drewN q3))
              have hc3 : ww2.cell? ⟨g, o + i, none⟩ = some (.int .i64 x) := by rw [hw3]; exact hc2
              have hszx := HBX.out.size
              clear hw3 hc2
              go_wp2_with (at_builtin; refine wpList_append_own _ rfl _ _ 90 rfl w.heap.size 93 i0 (.agg #[.int .i64 0, .int .i64 0]) 2 16 Tryz.underlying90 hi0 hz0 hz1 hz2 rfl (by decide) _ L.length (qCells L) rfl (World.ownsRow.alloc HOX.out _) ⟨ww2.heap.size, 0, none⟩ 1 1 [.int .i64 x, .int .i64 0] rfl rfl ?f1 ?f2 ?f3 ?f4 ?f5 ?_)
              case f1 => exact World.news_of_block (cs := #[.int .i64 x, .int .i64 0]) (t := 93) (fr := (0, 0)) (heap_alloc_new ww2 _)
              case f2 => simp [Value.oneCell']
              case f3 => unfold maxLen; omega
              case f4 => omega
              case f5 => simp; omega
              intro v' w2 hown2 hgrow2 _
              have HP := Lib.hid (OwnQ.pushed (x := ((x : Int), 0)) HBX.out HOX.out hown2 hgrow2)
              clear hown2 hgrow2
              go_wp2
              go_roundw
              case rel => exact ⟨i + 1, L ++ [((x : Int), 0)], by omega, by go_num, by rw [List.length_append, List.length_singleton]; omega, Lib.hid (by rw [← HR.out, HST.out, HRA.out, List.append_assoc]; rfl), Lib.hid HP.out.1, Lib.hid HP.out.2⟩
              case measure => simp [intOf]; omega
    · go_wp2
      go_ret
      refine ⟨_, rfl, ?_, HB.out⟩
      have h := HR.out
      rw [show l.length - i = 0 by have := HLN.out; omega] at h
      have h2 : L ++ [] = runs l := h
      rw [List.append_nil] at h2
      rw [← h2]; exact HO.out
end
end Go.Proofs.YtghegmbafbpnjaaGreatDoor
set_option maxRecDepth 100000
set_option linter.unusedVariables false
namespace Go.Proofs.YtghegmbafbpnjaaGreatDoor
set_option maxRecDepth 100000
open Go Go.RowKit
section
variable {w w1 w' : World} {lo b : Nat} {og : Option Nat} {r : Nat × Nat}
set_option maxHeartbeats 1000000 in
theorem elay_one {l : List Int} {s : Nat} {bt : Nat} (hT : Keep (b :: og.toList) w fun w' => RT w' bt l) (hok : ∀ x ∈ l, 0 ≤ x ∧ x ≤ 15) (hW : WroteF w w1 lo b og r) (hlo : lo ≤ w.heap.size) (hN : r.2 ≤ 1000000000) (hh : has l s) :
    Calls Tryz.prog 60 #[.pointer (some ⟨bt, 0, none⟩), .pointer (some ⟨b, 0, none⟩), .int .i64 s] w1 fun e w' => e = .returned (.int .i64 0) ∧ WroteF w w' lo b og (layC l r s) := by
  obtain ⟨X, N⟩ := r
  have he : layC l (X, N) s = layG ((codes l).getD s 0) (l.getD s 0).toNat X N := by
    unfold layC layS; rw [if_pos hh, Int.toNat_natCast]
  rw [he]; clear he
  obtain ⟨h0, h1, h2⟩ : 0 ≤ (s : Int) ∧ (s : Int) < l.length ∧ l.getD (s : Int).toNat 0 ≠ 0 := hh
  rw [Int.toNat_natCast] at h2
  have hn : s < l.length := by omega
  have hg : l.getD s 0 = l[s] := getD_get hn
  have hcl : (codes l).length = l.length := by unfold codes; exact length_cds _ _
  have hg2 : (codes l).getD s 0 = (codes l)[s]'(by omega) := getD_get _
  have hx := hok _ (List.getElem_mem hn)
  rw [← hg] at hx
  obtain ⟨L, hL⟩ : ∃ L : Nat, l.getD s 0 = (L : Int) := ⟨(l.getD s 0).toNat, by omega⟩
  rw [hL] at hx h2 ⊢
  rw [Int.toNat_natCast]
  obtain ⟨c, hc⟩ : ∃ c, c = (codes l).getD s 0 := ⟨_, rfl⟩
  rw [← hc] at hg2 ⊢
  have hL1 : 1 ≤ L := by omega
  have hL15 : L ≤ 15 := by omega
  have s0 : (0 : Int) ≤ (s : Int) := by omega
  have s1 : (s : Int) < (l.length : Int) := by omega
  have old : ∀ W : World, But (b :: og.toList) w W → ∃ g o cl g2 o2 cc, W.cell? ⟨bt, 0, none⟩ = some (.slice (some ⟨g, o, none⟩) l.length cl) ∧ W.cell? ⟨bt, 1, none⟩ = some (.slice (some ⟨g2, o2, none⟩) l.length cc) ∧ W.cell? ⟨g, o + s, none⟩ = some (.int .i64 (L : Nat)) ∧ W.cell? ⟨g2, o2 + s, none⟩ = some (.int .i64 c) := fun W hB => by
    obtain ⟨Al, cl, Ac, cc, hI, hl, hcs⟩ := hT W hB
    obtain ⟨g, o, rfl, hgl, hc1⟩ := hl.at hn
    obtain ⟨g2, o2, rfl, hgl2, hc2⟩ := hcs.at hn
    rw [← hg, hL] at hc1
    rw [← hg2] at hc2
    exact ⟨g, o, cl, g2, o2, cc, hI.cell 0, hI.cell 1, hc1, hc2⟩
  have OLD := Lib.hid old
  obtain ⟨g, o, cl, g2, o2, cc, c0, c1, c2, c3⟩ := OLD.out _ hW.but
  have HW := Lib.hid hW
  have hz : ((L : Int) == 0) = false := by simp; omega
  have hz1 : decide ((s : Int) < 0) = false := by simp; try omega
  have hz2 : decide (l.length ≤ s) = false := by simp; omega
  clear old hg hg2 hL hcl hT hok h0 h1 h2 hx hc hW
  go_enter Tryz.func60, Tryz.ntmps60
  go_wp2
  clear c0 c1 c2 c3
  go_loopw [7] (fun iv wr => ∃ k X' N' : Nat, k ≤ L ∧ iv = .int .i64 ((k : Int) - 1) ∧ layG c k X' N' = layG c L X N ∧ N' + k = N + L ∧ WroteF w wr lo b og (X', N')) (fun iv _ => ((intOf iv) + 1).toNat)
  case atStart => exact ⟨L, X, N, Nat.le_refl _, rfl, rfl, rfl, HW.out⟩
  case round =>
    obtain ⟨k, X', N', hk, rfl, hG, hNk, hP⟩ := hrel
    clear HW
    obtain ⟨g, o, cl, g2, o2, cc, c0, c1, c2, c3⟩ := OLD.out _ hP.but
    have HP := Lib.hid hP
    have HG := Lib.hid hG
    have HNK := Lib.hid hNk
    clear hP hG hNk
    cases k with
    | zero =>
      go_wp2
      go_ret
      refine ⟨rfl, ?_⟩
      have := HG.out
      rw [← this]
      exact HP.out
    | succ k =>
      have hk1 : ((k + 1 : Nat) : Int) - 1 = (k : Int) := by omega
      rw [hk1]
      have hN2 : N ≤ 1000000000 := hN
      have hN' : N' ≤ 100000000000 := by have := HNK.out; omega
      clear hk1
      go_wp2_with fail
      refine (HP.out.bitsI hlo hN' (c / 2 ^ k) 1).mono ?_
      rintro e w2 ⟨rfl, hP2⟩
      have HP2 := Lib.hid hP2
      clear hP2 c0 c1 c2 c3
      go_wp2
      go_roundw
      case rel =>
        refine ⟨k, _, _, by omega, rfl, ?_, ?_, HP2.out⟩
        · have := HG.out; rw [layG] at this; exact this
        · have := HNK.out; rw [layN_one]; omega
      case measure => simp [intOf]
end
end Go.Proofs.YtghegmbafbpnjaaGreatDoor
set_option maxRecDepth 100000
set_option linter.unusedVariables false
namespace Go.Proofs.YtghegmbafbpnjaaGreatDoor
set_option maxRecDepth 100000
open Go Go.RowKit
section
variable {w w1 w' : World} {lo b : Nat} {og : Option Nat} {r : Nat × Nat}
set_option maxHeartbeats 2000000 in
theorem elay_any {l d : List Int} {bt bu n c : Nat} {A : Option Addr} {ts : List Tk} (hT : Keep (b :: og.toList) w fun w' => RT w' bt l) (hU : Keep (b :: og.toList) w fun w' => RT w' bu d) (hK : Keep (b :: og.toList) w fun w' => Tks w' A n (ts.map tkI))
    (hl : ∀ x ∈ l, 0 ≤ x ∧ x ≤ 15) (hd : ∀ x ∈ d, 0 ≤ x ∧ x ≤ 15) (hh : ∀ t ∈ ts, tkHas l d t) (h256 : has l (256 : Nat)) (hn : n ≤ 1000000) (hW : WroteF w w1 lo b og r) (hlo : lo ≤ w.heap.size) (hN : r.2 ≤ 100000) :
    Calls Tryz.prog 52 #[.pointer (some ⟨b, 0, none⟩), .slice A n c, .pointer (some ⟨bt, 0, none⟩), .pointer (some ⟨bu, 0, none⟩)] w1 fun e w' => e = .returned (.tuple #[]) ∧ WroteF w w' lo b og (layC l (layTs l d r ts) 256) := by
  have hlen : ts.length = n := by
    have := (hK.now).1
    rwa [List.length_map] at this
  have HLN := Lib.hid hlen
  have HK := Lib.hid hK
  have HH := Lib.hid hh
  have HW := Lib.hid hW
  have HLA := Lib.hid (fun (s : Nat) (hs : has l s) (w2 : World) (r2 : Nat × Nat) (hW2 : WroteF w w2 lo b og r2) (h2 : r2.2 ≤ 1000000000) => elay_one hT hl hW2 hlo h2 hs)
  have HLD := Lib.hid (fun (s : Nat) (hs : has d s) (w2 : World) (r2 : Nat × Nat) (hW2 : WroteF w w2 lo b og r2) (h2 : r2.2 ≤ 1000000000) => elay_one hU hd hW2 hlo h2 hs)
  have HL15 := Lib.hid hl
  have HD15 := Lib.hid hd
  have H256 := Lib.hid h256
  clear hlen hT hU hK hh hW hl hd h256
  go_enter Tryz.func52, Tryz.ntmps52
  go_wp2
  go_loopw [8] (fun iv wr => ∃ k : Nat, k ≤ n ∧ iv = .int .i64 k ∧ Hid (WroteF w wr lo b og (layTs l d r (ts.take k))) ∧ (layTs l d r (ts.take k)).2 ≤ 100000 + 60 * k) (fun iv _ => n - (intOf iv).toNat)
  case atStart => exact ⟨0, Nat.zero_le _, rfl, HW, by show r.2 ≤ 100000 + 60 * 0; omega⟩
  case round =>
    obtain ⟨k, hk, rfl, HP, hb⟩ := hrel
    clear HW
    obtain ⟨q, hq⟩ : ∃ q, q = layTs l d r (ts.take k) := ⟨_, rfl⟩
    rw [← hq] at HP hb
    have HQ := Lib.hid hq
    clear hq
    by_cases hlt : k < n
    · have hkt : k < ts.length := by have := HLN.out; omega
      have hmem := HH.out _ (List.getElem_mem hkt)
      have hts : ts.take (k + 1) = ts.take k ++ [ts[k]] := List.take_succ_eq_append_getElem hkt
      have hnx : layTs l d r (ts.take (k + 1)) = layT l d q ts[k] := by rw [hts, layTs_snoc, ← HQ.out]
      have hfw := layT_few HL15.out HD15.out hmem q
      have hcells : ∀ W : World, But (b :: og.toList) w W → ∃ g o, A = some ⟨g, o, none⟩ ∧ W.cell? ⟨g, o + k * 3, none⟩ = some (.int .i64 (ts[k].2.2 : Nat)) ∧ W.cell? ⟨g, o + k * 3 + 1, none⟩ = some (.int .i64 (ts[k].1 : Nat)) ∧ W.cell? ⟨g, o + k * 3 + 2, none⟩ = some (.int .i64 (ts[k].2.1 : Nat)) := fun W hB => by
        obtain ⟨g, o, bb, x, z, e, hg, c0, c1, c2, h1⟩ := (HK.out W hB).at hlt
        rw [List.getElem?_map, List.getElem?_eq_getElem hkt] at h1
        injection h1 with h1
        unfold tkI at h1
        injection h1 with h2 h3
        injection h3 with h3 h4
        subst h2 h3 h4
        exact ⟨g, o, e, c0, c1, c2⟩
      obtain ⟨t, ht⟩ : ∃ t, t = ts[k] := ⟨_, rfl⟩
      rw [← ht] at hmem hnx hfw hcells
      obtain ⟨x, z, y⟩ := t
      obtain ⟨g, o, rfl, c0, c1, c2⟩ := hcells _ HP.out.but
      have HC := Lib.hid hcells
      have HNX := Lib.hid hnx
      dsimp only at c0 c1 c2
      have k0 : (0 : Int) ≤ (k : Int) := by omega
      have k1 : (k : Int) < (n : Int) := by omega
      unfold tkHas at hmem
      dsimp only at hmem
      clear ht hts hnx hcells
      by_cases hx : x = 0
      · rw [if_pos hx] at hmem
        have eT : layT l d q (x, z, y) = layC l q y := by unfold layT; rw [if_pos (show (x, z, y).1 = 0 from hx)]
        rw [eT] at hfw
        have HE := Lib.hid eT
        have dx : ((x : Int) == 0) = true := by simp [hx]
        have HCALL := Lib.hid (HLA.out y hmem.2 _ q HP.out (by omega))
        clear eT hmem hx
        go_wp2_with fail
        refine HCALL.out.mono ?_
        rintro e w3 ⟨rfl, hW3⟩
        have HW3 := Lib.hid hW3
        clear hW3 c0 c1 c2
        go_wp2
        go_roundw
        case rel => exact ⟨k + 1, by omega, by go_num, Lib.hid (by rw [HNX.out, HE.out]; exact HW3.out), by rw [HNX.out, HE.out]; omega⟩
        case measure => simp [intOf]; omega
      · rw [if_neg hx] at hmem
        obtain ⟨a1, a2, a3, a4, a5, a6⟩ := hmem
        obtain ⟨b1, b2, b3, b4⟩ := lsym_all x (by omega) a1
        obtain ⟨d1, d2, d3⟩ := dsym_all z (by omega) a3
        have dx : ((x : Int) == 0) = false := by simp; omega
        have f5 := lenBase_few (lsym x) (by omega) b1
        have f6 := dstBase_few (dsym z) (by omega)
        have f1 := layC_few HL15.out q (lsym x)
        have f2 := layB_few (layC l q (lsym x)) (x - lenBase (lsym x)) (lenBits (lsym x))
        have f3 := layC_few HD15.out (layB (layC l q (lsym x)) (x - lenBase (lsym x)) (lenBits (lsym x))) (dsym z)
        have eT : layT l d q (x, z, y) = layB (layC d (layB (layC l q (lsym x)) (x - lenBase (lsym x)) (lenBits (lsym x))) (dsym z)) (z - dstBase (dsym z)) (dstBits (dsym z)) := by unfold layT; rw [if_neg (show ¬ (x, z, y).1 = 0 from hx)]
        rw [eT] at hfw
        have HE := Lib.hid eT
        have HEL := Lib.hid (fun (W : World) => elength_any (w := W) x a1 a2)
        have HED := Lib.hid (fun (W : World) => edistance_any (w := W) z a3 a4)
        have C1 := Lib.hid (fun W h h2 => HLA.out (lsym x) a5 W q h h2)
        have C2 := Lib.hid (fun W h h2 => HLD.out (dsym z) a6 W (layB (layC l q (lsym x)) (x - lenBase (lsym x)) (lenBits (lsym x))) h h2)
        clear eT hx b4 d3 b3 d2
        obtain ⟨S1, hS1⟩ : ∃ S1, S1 = lsym x := ⟨_, rfl⟩
        obtain ⟨S2, hS2⟩ : ∃ S2, S2 = dsym z := ⟨_, rfl⟩
        rw [← hS1] at HEL C1 C2 HE f1 f2 f3 f5 hfw b1 b2
        rw [← hS2] at HED C2 HE f6 f3 hfw d1
        obtain ⟨V1, hV1⟩ : ∃ V1, V1 = x - lenBase S1 := ⟨_, rfl⟩
        obtain ⟨V2, hV2⟩ : ∃ V2, V2 = z - dstBase S2 := ⟨_, rfl⟩
        rw [← hV1] at HEL C2 HE f2 f3 hfw
        rw [← hV2] at HED HE hfw
        obtain ⟨M1, hM1⟩ : ∃ M1, M1 = lenBits S1 := ⟨_, rfl⟩
        obtain ⟨M2, hM2⟩ : ∃ M2, M2 = dstBits S2 := ⟨_, rfl⟩
        rw [← hM1] at HEL C2 HE f2 f3 f5 hfw
        rw [← hM2] at HED HE hfw f6
        obtain ⟨q1, hq1⟩ : ∃ q1, q1 = layC l q S1 := ⟨_, rfl⟩
        rw [← hq1] at C1 C2 HE f1 f2 f3 hfw
        obtain ⟨q2, hq2⟩ : ∃ q2, q2 = layB q1 V1 M1 := ⟨_, rfl⟩
        rw [← hq2] at C2 HE f2 f3 hfw
        obtain ⟨q3, hq3⟩ : ∃ q3, q3 = layC d q2 S2 := ⟨_, rfl⟩
        rw [← hq3] at C2 HE f3 hfw
        have HQ2 := Lib.hid hq2
        clear hS1 hS2 hV1 hV2 hM1 hM2 hq1 hq2 hq3
        go_wp2_with fail
        refine (HEL.out _).mono ?_
        rintro e w3 ⟨rfl, rfl⟩
        go_wp2_with fail
        refine (C1.out _ HP.out (by omega)).mono ?_
        rintro e w3 ⟨rfl, hW3⟩
        obtain ⟨g1, o1, e1, c01, c11, c21⟩ := HC.out _ hW3.but
        injection e1 with e1
        injection e1 with e1 e2
        subst e1 e2
        (try dsimp only at c01 c11 c21)
        have HW3 := Lib.hid hW3
        clear hW3 c0 c1 c2
        go_wp2_with fail
        refine (HW3.out.bits hlo (by omega) V1 M1).mono ?_
        rintro e w4 ⟨rfl, hW4⟩
        rw [← HQ2.out] at hW4
        obtain ⟨g1, o1, e1, c02, c12, c22⟩ := HC.out _ hW4.but
        injection e1 with e1
        injection e1 with e1 e2
        subst e1 e2
        (try dsimp only at c02 c12 c22)
        have HW4 := Lib.hid hW4
        clear hW4 c01 c11 c21 HW3
        go_wp2_with fail
        refine (HED.out _).mono ?_
        rintro e w5 ⟨rfl, rfl⟩
        go_wp2_with fail
        refine (C2.out _ HW4.out (by omega)).mono ?_
        rintro e w5 ⟨rfl, hW5⟩
        have HW5 := Lib.hid hW5
        clear hW5 c02 c12 c22 HW4
        go_wp2_with fail
        refine (HW5.out.bits hlo (by omega) V2 M2).mono ?_
        rintro e w6 ⟨rfl, hW6⟩
        have HW6 := Lib.hid hW6
        clear hW6 HW5
        go_wp2
        go_roundw
        case rel => exact ⟨k + 1, by omega, by go_num, Lib.hid (by rw [HNX.out, HE.out]; exact HW6.out), by rw [HNX.out, HE.out]; omega⟩
        case measure => simp [intOf]; omega
    · have hqe : q = layTs l d r ts := by rw [HQ.out, List.take_of_length_le (by have := HLN.out; omega)]
      have HQE := Lib.hid hqe
      have HCALL := Lib.hid (HLA.out 256 H256.out _ q HP.out (by omega))
      clear hqe
      go_wp2_with fail
      refine HCALL.out.mono ?_
      rintro e w3 ⟨rfl, hW3⟩
      have HW3 := Lib.hid hW3
      clear hW3
      go_wp2
      go_end0
      exact ⟨rfl, by rw [← HQE.out]; exact HW3.out⟩
end
end Go.Proofs.YtghegmbafbpnjaaGreatDoor
