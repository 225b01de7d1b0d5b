/- Several texts in one: Things, LawI (what Wraps reach of them). -/
import Derived.Test.YtghegmbafbpnjaaGreatDoorPm01
import Derived.Test.YtghegmbafbpnjaaGreatDoorPm02
import Derived.Test.YtghegmbafbpnjaaGreatDoorPm03
import Derived.Test.YtghegmbafbpnjaaGreatDoorPm04
import Derived.Test.YtghegmbafbpnjaaGreatDoorPm05
import Derived.Test.YtghegmbafbpnjaaGreatDoorPm06
import Derived.Test.YtghegmbafbpnjaaGreatDoorPm07
import Derived.Test.YtghegmbafbpnjaaGreatDoorPm08
import Derived.Test.YtghegmbafbpnjaaGreatDoorPm09
import Derived.Test.YtghegmbafbpnjaaGreatDoorPm10
import Derived.Test.YtghegmbafbpnjaaGreatDoorPm11
import Derived.Test.YtghegmbafbpnjaaGreatDoorPm12
import Derived.Test.YtghegmbafbpnjaaGreatDoorPm13
import Derived.Test.YtghegmbafbpnjaaGreatDoorPm14
import Derived.Test.YtghegmbafbpnjaaGreatDoorPm15
import Derived.Test.YtghegmbafbpnjaaGreatDoorPm27
import Derived.Below
import Derived.BigQuiet
import Derived.BigRegion
import Derived.Deep.AppendLies
import Derived.Deep.CutBlock
import Derived.Deep.CutRange
import Derived.Deep.DeepCutAuto
import Derived.Deep.Draws
import Derived.Deep.QuietTactic
import Derived.Deep.RegionLaw
import Derived.Deep.Slices
import Derived.Laws.BitsAllLaws
import Derived.Laws.BitsLemmas
import Derived.Laws.IdiomStrings
import Derived.Laws.OwnMore
import Derived.Laws.Rows
import Derived.Lib.AppendStr
import Derived.Lib.Hide
import Derived.Lib.Strings
import Derived.LoopIn
import Derived.LoopNIn
import Derived.OneCell
import Derived.OpenShut
import Derived.Outline
import Derived.OwnWalk
import Derived.OwnWalkIn
import Derived.ProofKit
import Derived.RangeFuncBound
import Derived.RangeFuncCalls
import Derived.RangeFuncLeaves
import Derived.RangeFuncNested
import Derived.RegionTactic
import Derived.Shelf.Abstract
import Derived.Shelf.RegionOpen
import Derived.Shelf.SlSortCmp.QuietGrown
import Derived.StillTailTactics
import Derived.TacticsInMore
import Derived.Test.YtghegmbafbpnjaaGreatDoorChecked
import Derived.WalkKit
import Derived.WalkLawsBesides
import Derived.WalkSpells
set_option maxRecDepth 100000
set_option linter.unusedVariables false
namespace Go.Proofs.YtghegmbafbpnjaaGreatDoor
set_option maxRecDepth 100000
open Go Go.RowKit
def Th.t (x : Th) : Tg := (x.n, x.v)
theorem thCells_append (len : Nat) (L M : List Th) : thCells len (L ++ M) = thCells len L ++ thCells len M := by simp [thCells]
theorem info_thing : (Tryz.prog.info? 130).map (fun i => (i.zero, i.size, i.bytes)) = some (some (.agg #[.int .i64 0, .bool false, .slice none 0 0]), 3, 40) := by kernel_rfl
theorem OwnT.pushed {w wr w' : World} {len : Nat} {v v' : Value} {L : List Th} {x : Th} {cs : Array Value} {t : TypeId} (hB : But [] w wr) (hO : OwnT wr w.heap.size len v L)
    (h1 : w'.ownsRow w.heap.size 130 3 v' (L.length + 1) (thCells len L ++ [.int .i64 x.n, .bool x.b, .slice x.a len x.c])) (hg : (wr.alloc (.cells cs t)).grownBy w' v.ownBlock) :
    OwnT w' w.heap.size len v' (L ++ [x]) ∧ But [] w w' := by
  refine ⟨?_, (hB.alloc _).grown hg (fun g e => .inr (hO.lt g e).1)⟩
  unfold OwnT
  rw [List.length_append, thCells_append]
  simpa [thCells] using h1

def keyTh (x : Th) : Nat := x.n
/-- A merge of things, in a slice of the call's own. -/
def GotThings (w : World) (len : Nat) (L : List Th) (e : Ending) (w' : World) : Prop := ∃ v, e = .returned v ∧ OwnT w' w.heap.size len v L ∧ But [] w w'
set_option maxRecDepth 100000 in
set_option maxHeartbeats 2000000 in
theorem row_any {w : World} {A B : Option Addr} {n m c d len : Nat} {C P : List Th} (hC : Things w A n len C) (hP : Things w B m len P) (hn : n ≤ 600) (hm : m ≤ 600) :
    Calls Tryz.prog 86 #[.slice A n c, .slice B m d] w (GotThings w len (mrgG keyTh C P)) := by
  obtain ⟨i0, hi0, hz0, hz1, hz2⟩ := info_parts info_thing
  have hCl := hC.1
  have hPl := hP.1
  have HC := Lib.hid hC
  have HP := Lib.hid hP
  have HCL := Lib.hid hCl
  have HPL := Lib.hid hPl
  clear hC hP hCl hPl
  go_enter Tryz.func86, Tryz.ntmps86
  go_wp2
  go_loopw [5, 6, 7] (fun ov iv kv wr => ∃ (i k : Nat) (L : List Th), i ≤ n ∧ k ≤ m ∧ iv = .int .i64 i ∧ kv = .int .i64 k ∧ L.length = i + k ∧ L ++ mrgG keyTh (C.drop i) (P.drop k) = mrgG keyTh C P ∧ OwnT wr w.heap.size len ov L ∧ But [] w wr) (fun _ iv kv _ => 2000 - (intOf iv).toNat - (intOf kv).toNat)
  case atStart => exact ⟨0, 0, [], Nat.zero_le _, Nat.zero_le _, rfl, rfl, rfl, rfl, OwnT.nil _ _ _, But.refl _ _⟩
  case round =>
    obtain ⟨i, k, L, hi, hk, rfl, rfl, hL, hm2, hO, hB⟩ := hrel
    have hsz := hB.size
    have HO := Lib.hid hO
    have HB := Lib.hid hB
    have HM := Lib.hid hm2
    have HLL := Lib.hid hL
    have hLb : L.length ≤ 1200 := by omega
    clear hO hB hm2 hL
    by_cases hend : i = n ∧ k = m
    · obtain ⟨rfl, rfl⟩ := hend
      go_wp2
      go_ret
      refine ⟨_, rfl, ?_, HB.out⟩
      have h := HM.out
      rw [List.drop_of_length_le (by have := HCL.out; omega), List.drop_of_length_le (by have := HPL.out; omega), mrgG_none, List.append_nil] at h
      rw [← h]; exact HO.out
    · by_cases hcoin : i < n ∧ (k = m ∨ ∃ (h1 : i < C.length) (h2 : k < P.length), C[i].n ≤ P[k].n)
      · obtain ⟨hin, hcc⟩ := hcoin
        obtain ⟨g, o, rfl, hg, c0, c1, c2⟩ := HC.out.at hin
        have hnext := mrgG_coin (key := keyTh) (C := C) (P := P) (i := i) (k := k) (by have := HCL.out; omega) (by
          rcases hcc with h | ⟨h1, h2, h3⟩
          · left; have := HPL.out; omega
          · right; exact ⟨h2, h3⟩)
        have hN : (L ++ [C[i]'(by have := HCL.out; omega)]) ++ mrgG keyTh (C.drop (i + 1)) (P.drop k) = mrgG keyTh C P := by
          rw [← HM.out, hnext]; simp
        have HNX := Lib.hid hN
        have i0' : (0 : Int) ≤ (i : Int) := by omega
        have i1' : (i : Int) < (n : Int) := by omega
        have din : decide (i < n) = true := by simpa using hin
        have e0 := HB.out.cell c0 (by simp)
        have e1 := HB.out.cell c1 (by simp)
        have e2 := HB.out.cell c2 (by simp)
        go_upto_region 5 with (fail)
        go_cut [40] (fun v wx => v = .bool true ∧ But [] w wx ∧ OwnT wx w.heap.size len u5 L)
        case first =>
          rcases hcc with h | ⟨h1, h2, h3⟩
          · have dk : ((k : Int) == (m : Int)) = true := by simp; omega
            clear hnext hN h
            go_quiet (fail)
            go_wp2
            go_meet
            exact ⟨rfl, HB.out.drewN _, HO.out.but ((But.refl [] wr).drewN _)⟩
          · have hkm : k < m := by have := HPL.out; omega
            have dk : ((k : Int) == (m : Int)) = false := by simp; omega
            obtain ⟨g2, o2, rfl, hg2, p0, _, _⟩ := HP.out.at hkm
            have q0 := HB.out.cell p0 (by simp)
            generalize C[i].n = X at *
            generalize P[k].n = Y at *
            have k0' : (0 : Int) ≤ (k : Int) := by omega
            have k1' : (k : Int) < (m : Int) := by omega
            have dxy : decide (X ≤ Y) = true := by simpa using h3
            clear hnext hN c0 c1 c2 p0
            go_quiet (fail)
            go_wp2
            go_meet
            exact ⟨rfl, HB.out.drewN _, HO.out.but ((But.refl [] wr).drewN _)⟩
        case rest =>
          obtain ⟨rfl, hB2, hO2⟩ := hcut
          clear e0 e1 e2 hnext hN hcc
          have e0 := hB2.cell c0 (by simp)
          have e1 := hB2.cell c1 (by simp)
          have e2 := hB2.cell c2 (by simp)
          obtain ⟨x, hx⟩ : ∃ x, x = C[i]'(by have := HCL.out; omega) := ⟨_, rfl⟩
          rw [← hx] at e0 e1 e2
          have HX := Lib.hid hx
          have HO2 := Lib.hid hO2
          have HB2 := Lib.hid hB2
          have hsz2 := hB2.size
          clear hx hO2 hB2 c0 c1 c2
          go_wp2_with (at_builtin; refine wpList_append_own _ rfl _ _ 128 rfl w.heap.size 130 i0 (.agg #[.int .i64 0, .bool false, .slice none 0 0]) 3 40 Tryz.underlying128 hi0 hz0 hz1 hz2 rfl (by decide) _ L.length (thCells len L) rfl (World.ownsRow.alloc HO2.out _) ⟨wc.heap.size, 0, none⟩ 1 1 [.int .i64 x.n, .bool x.b, .slice x.a len x.c] rfl rfl ?c1 ?c2 ?c3 ?c4 ?c5 ?_)
          case c1 => exact World.news_of_block (cs := #[.int .i64 x.n, .bool x.b, .slice x.a len x.c]) (t := 130) (fr := (0, 0)) (heap_alloc_new wc _)
          case c2 => simp [Value.oneCell']
          case c3 => unfold maxLen; omega
          case c4 => omega
          case c5 => simp; omega
          intro v' w1 hown1 hgrow _
          have HN := Lib.hid (OwnT.pushed HB2.out HO2.out hown1 hgrow)
          clear hown1 hgrow e0 e1 e2
          go_wp2
          go_roundw
          case rel => exact ⟨i + 1, k, L ++ [x], by omega, hk, by go_num, rfl, by have := HLL.out; simp; omega, by rw [HX.out]; exact HNX.out, HN.out.1, HN.out.2⟩
          case measure => simp [intOf]; omega
      · have hkm : k < m := by
          apply Classical.byContradiction; intro h
          have hkm : k = m := by omega
          exact hcoin ⟨by omega, .inl hkm⟩
        have hpk : n ≤ i ∨ ∃ (h1 : i < C.length) (h2 : k < P.length), P[k].n < C[i].n := by
          by_cases hin : i < n
          · right
            have h1 : i < C.length := by have := HCL.out; omega
            have h2 : k < P.length := by have := HPL.out; omega
            refine ⟨h1, h2, ?_⟩
            apply Classical.byContradiction; intro h
            exact hcoin ⟨hin, .inr ⟨h1, h2, by omega⟩⟩
          · left; omega
        obtain ⟨g, o, rfl, hg, c0, c1, c2⟩ := HP.out.at hkm
        have hnext := mrgG_pair (key := keyTh) (C := C) (P := P) (i := i) (k := k) (by have := HPL.out; omega) (by
          rcases hpk with h | ⟨h1, h2, h3⟩
          · left; have := HCL.out; omega
          · right; exact ⟨h1, h3⟩)
        have hN : (L ++ [P[k]'(by have := HPL.out; omega)]) ++ mrgG keyTh (C.drop i) (P.drop (k + 1)) = mrgG keyTh C P := by
          rw [← HM.out, hnext]; simp
        have HNX := Lib.hid hN
        have k0' : (0 : Int) ≤ (k : Int) := by omega
        have k1' : (k : Int) < (m : Int) := by omega
        have dkm : decide (k < m) = true := by simpa using hkm
        have dk : ((k : Int) == (m : Int)) = false := by simp; omega
        have e0 := HB.out.cell c0 (by simp)
        have e1 := HB.out.cell c1 (by simp)
        have e2 := HB.out.cell c2 (by simp)
        clear hcoin hend
        rcases hpk with h | ⟨h1, h2, h3⟩
        · have din : decide (i < n) = false := by simp; omega
          clear h
          go_upto_region 5 with (fail)
          go_cut [40] (fun v wx => v = .bool false ∧ But [] w wx ∧ OwnT wx w.heap.size len u5 L)
          case first =>
            clear hnext hN
            go_quiet (fail)
            go_wp2
            go_meet
            exact ⟨rfl, HB.out.drewN _, HO.out.but ((But.refl [] wr).drewN _)⟩
          case rest =>
            obtain ⟨rfl, hB2, hO2⟩ := hcut
            clear e0 e1 e2 hnext hN
            have e0 := hB2.cell c0 (by simp)
            have e1 := hB2.cell c1 (by simp)
            have e2 := hB2.cell c2 (by simp)
            obtain ⟨x, hx⟩ : ∃ x, x = P[k]'(by have := HPL.out; omega) := ⟨_, rfl⟩
            rw [← hx] at e0 e1 e2
            have HX := Lib.hid hx
            have HO2 := Lib.hid hO2
            have HB2 := Lib.hid hB2
            have hsz2 := hB2.size
            clear hx hO2 hB2 c0 c1 c2
            go_wp2_with (at_builtin; refine wpList_append_own _ rfl _ _ 128 rfl w.heap.size 130 i0 (.agg #[.int .i64 0, .bool false, .slice none 0 0]) 3 40 Tryz.underlying128 hi0 hz0 hz1 hz2 rfl (by decide) _ L.length (thCells len L) rfl (World.ownsRow.alloc HO2.out _) ⟨wc.heap.size, 0, none⟩ 1 1 [.int .i64 x.n, .bool x.b, .slice x.a len x.c] rfl rfl ?c1 ?c2 ?c3 ?c4 ?c5 ?_)
            case c1 => exact World.news_of_block (cs := #[.int .i64 x.n, .bool x.b, .slice x.a len x.c]) (t := 130) (fr := (0, 0)) (heap_alloc_new wc _)
            case c2 => simp [Value.oneCell']
            case c3 => unfold maxLen; omega
            case c4 => omega
            case c5 => simp; omega
            intro v' w1 hown1 hgrow _
            have HN := Lib.hid (OwnT.pushed HB2.out HO2.out hown1 hgrow)
            clear hown1 hgrow e0 e1 e2
            go_wp2
            go_roundw
            case rel => exact ⟨i, k + 1, L ++ [x], hi, by omega, rfl, by go_num, by have := HLL.out; simp; omega, by rw [HX.out]; exact HNX.out, HN.out.1, HN.out.2⟩
            case measure => simp [intOf]; omega
        · have hin : i < n := by have := HCL.out; omega
          have din : decide (i < n) = true := by simpa using hin
          go_upto_region 5 with (fail)
          go_cut [40] (fun v wx => v = .bool false ∧ But [] w wx ∧ OwnT wx w.heap.size len u5 L)
          case first =>
            obtain ⟨g2, o2, rfl, hg2, p0, _, _⟩ := HC.out.at hin
            have q0 := HB.out.cell p0 (by simp)
            generalize C[i].n = X at *
            generalize P[k].n = Y at *
            have i0' : (0 : Int) ≤ (i : Int) := by omega
            have i1' : (i : Int) < (n : Int) := by omega
            have dxy : decide (X ≤ Y) = false := by simpa using h3
            clear hnext hN c0 c1 c2 p0
            go_quiet (fail)
            go_wp2
            go_meet
            exact ⟨rfl, HB.out.drewN _, HO.out.but ((But.refl [] wr).drewN _)⟩
          case rest =>
            obtain ⟨rfl, hB2, hO2⟩ := hcut
            clear e0 e1 e2 hnext hN
            have e0 := hB2.cell c0 (by simp)
            have e1 := hB2.cell c1 (by simp)
            have e2 := hB2.cell c2 (by simp)
            obtain ⟨x, hx⟩ : ∃ x, x = P[k]'(by have := HPL.out; omega) := ⟨_, rfl⟩
            rw [← hx] at e0 e1 e2
            have HX := Lib.hid hx
            have HO2 := Lib.hid hO2
            have HB2 := Lib.hid hB2
            have hsz2 := hB2.size
            clear hx hO2 hB2 c0 c1 c2
            go_wp2_with (at_builtin; refine wpList_append_own _ rfl _ _ 128 rfl w.heap.size 130 i0 (.agg #[.int .i64 0, .bool false, .slice none 0 0]) 3 40 Tryz.underlying128 hi0 hz0 hz1 hz2 rfl (by decide) _ L.length (thCells len L) rfl (World.ownsRow.alloc HO2.out _) ⟨wc.heap.size, 0, none⟩ 1 1 [.int .i64 x.n, .bool x.b, .slice x.a len x.c] rfl rfl ?c1 ?c2 ?c3 ?c4 ?c5 ?_)
            case c1 => exact World.news_of_block (cs := #[.int .i64 x.n, .bool x.b, .slice x.a len x.c]) (t := 130) (fr := (0, 0)) (heap_alloc_new wc _)
            case c2 => simp [Value.oneCell']
            case c3 => unfold maxLen; omega
            case c4 => omega
            case c5 => simp; omega
            intro v' w1 hown1 hgrow _
            have HN := Lib.hid (OwnT.pushed HB2.out HO2.out hown1 hgrow)
            clear hown1 hgrow e0 e1 e2
            go_wp2
            go_roundw
            case rel => exact ⟨i, k + 1, L ++ [x], hi, by omega, rfl, by go_num, by have := HLL.out; simp; omega, by rw [HX.out]; exact HNX.out, HN.out.1, HN.out.2⟩
            case measure => simp [intOf]; omega
end Go.Proofs.YtghegmbafbpnjaaGreatDoor
namespace Go.Proofs.YtghegmbafbpnjaaGreatDoor
set_option maxRecDepth 100000
open Go Go.RowKit
theorem count_range {l : List Int} (h : okCounts l = true) (i : Nat) : 0 ≤ l.getD i 0 ∧ l.getD i 0 ≤ 1000000000 := by
  rw [List.getD_eq_getElem?_getD]
  by_cases hi : i < l.length
  · rw [List.getElem?_eq_getElem hi]
    have := List.all_eq_true.1 h _ (List.getElem_mem hi)
    simpa [okCount] using this
  · rw [List.getElem?_eq_none (by omega)]; simp
theorem getD_in {l : List Int} {n : Nat} (h : n < l.length) : l.getD n 0 = l[n] := by rw [List.getD_eq_getElem?_getD, List.getElem?_eq_getElem h]; rfl
theorem wrap_small (x : Int) (h0 : 0 ≤ x) (h1 : x ≤ 100000000000000) : IntKind.i64.wrap x = x := IntWalk.i64_in _ (by omega)

end Go.Proofs.YtghegmbafbpnjaaGreatDoor
