/- Several texts in one: BbI, BbH (what BandsReads reach of them). -/
import Derived.Test.YtmdiilnipoblbaaDoorK01
import Derived.Test.YtmdiilnipoblbaaDoorK02
import Derived.Test.YtmdiilnipoblbaaDoorK04
import Derived.Test.YtmdiilnipoblbaaDoorK05
import Derived.Test.YtmdiilnipoblbaaDoorK07
import Derived.Test.YtmdiilnipoblbaaDoorK10
import Derived.Test.YtmdiilnipoblbaaDoorK14
import Derived.Test.YtmdiilnipoblbaaDoorK17
import Derived.Test.YtmdiilnipoblbaaDoorK18
import Derived.ArgAppend
import Derived.Below
import Derived.BigQuiet
import Derived.BigRegion
import Derived.Deep.AppendLies
import Derived.Deep.Cut
import Derived.Deep.CutBlock
import Derived.Deep.CutRange
import Derived.Deep.DeepCutAuto
import Derived.Deep.Draws
import Derived.Deep.LoopGhost
import Derived.Deep.QuietTactic
import Derived.Deep.RegionLaw
import Derived.Deep.RegionWith
import Derived.Deep.Slices
import Derived.Handy
import Derived.Laws.BitsAllLaws
import Derived.Laws.BitsLemmas
import Derived.Laws.BytesArg
import Derived.Laws.Cells
import Derived.Laws.Externs
import Derived.Laws.IdiomStrings
import Derived.Laws.MakeOwn
import Derived.Laws.OwnMore
import Derived.Laws.Rows
import Derived.Laws.StructEq
import Derived.Laws.Tables
import Derived.Lib.AppendStr
import Derived.Lib.BufferWrite
import Derived.Lib.Hide
import Derived.Lib.UnsafeStr
import Derived.Maps.AppendAt
import Derived.OpenShut
import Derived.OrdersHeld
import Derived.OrdersIn
import Derived.Outline
import Derived.OwnWalk
import Derived.OwnWalkIn
import Derived.ProofKit
import Derived.RangeFuncCalls
import Derived.RegionTactic
import Derived.Shelf.LaysM
import Derived.Shelf.Small.Wraps
import Derived.Shelf.Strconv.Clone
import Derived.Shelf.Strings.Builder1
import Derived.Shelf.Strings.BuilderF
import Derived.Shelf.Strings.Prefix
import Derived.Shelf.Strings.Repeat
import Derived.Sort.CutIn
import Derived.TacticsInMore
import Derived.Test.YtmdiilnipoblbaaDoorChecked
import Derived.WalkKit
set_option maxRecDepth 100000
set_option linter.unusedVariables false
set_option maxRecDepth 100000
set_option linter.unusedVariables false
namespace Go.Proofs.YtmdiilnipoblbaaDoor
set_option maxRecDepth 100000
open Go Go.RowKit
/-- What Read tells. -/
noncomputable def readA (s : List UInt8) : Nat × Nat × List ByteArray × Int := open Classical in if okM s then (manW s, manH s, (hashesB s).map strL, 0) else (0, 0, [], 42)
theorem pread_all (w : World) (s : ByteArray) (hs : s.size ≤ 140737488351232) :
    Calls Tryd.prog 17 #[.string s] w fun e w' => ∃ A n c, e = .returned (.tuple #[.int .i64 ((readA s.data.toList).1 : Nat), .int .i64 ((readA s.data.toList).2.1 : Nat), .slice A n c, .int .i64 (readA s.data.toList).2.2.2]) ∧ Sr w' A n (readA s.data.toList).2.2.1 ∧ n ≤ 128 ∧ But [] w w' := by
  have hl : s.data.toList.length = s.size := Array.length_toList
  by_cases h : okM s.data.toList
  · have e := preadB_any w h
    rw [strL_of] at e
    refine e.mono ?_
    rintro e w1 ⟨b, v, rfl, hO, hB⟩
    obtain ⟨A, c, rfl, hS⟩ := hO.srs
    unfold readA
    rw [if_pos h]
    refine ⟨A, _, c, rfl, hS, ?_, hB⟩
    rw [List.length_map, hashesB_length]
    exact many_few h.2.1
  · have e := preadB_bad w (by rw [hl]; exact hs) h
    rw [strL_of] at e
    refine e.mono ?_
    rintro e w1 ⟨rfl, hB⟩
    unfold readA
    rw [if_neg h]
    exact ⟨none, 0, 0, rfl, sr_nil _ _, by omega, hB⟩
theorem eread_all (w : World) (s : ByteArray) (hs : s.size ≤ 140737488351232) :
    Calls Tryd.prog 18 #[.string s] w fun e w' => ∃ A n c, e = .returned (.tuple #[.int .i64 ((readA s.data.toList).1 : Nat), .int .i64 ((readA s.data.toList).2.1 : Nat), .slice A n c, .int .i64 (readA s.data.toList).2.2.2]) ∧ Sr w' A n (readA s.data.toList).2.2.1 ∧ n ≤ 128 ∧ But [] w w' := by
  have hl : s.data.toList.length = s.size := Array.length_toList
  by_cases h : okM s.data.toList
  · have e := ereadB_any w h
    rw [strL_of] at e
    refine e.mono ?_
    rintro e w1 ⟨b, v, rfl, hO, hB⟩
    obtain ⟨A, c, rfl, hS⟩ := hO.srs
    unfold readA
    rw [if_pos h]
    refine ⟨A, _, c, rfl, hS, ?_, hB⟩
    rw [List.length_map, hashesB_length]
    exact many_few h.2.1
  · have e := ereadB_bad w (by rw [hl]; exact hs) h
    rw [strL_of] at e
    refine e.mono ?_
    rintro e w1 ⟨rfl, hB⟩
    unfold readA
    rw [if_neg h]
    exact ⟨none, 0, 0, rfl, sr_nil _ _, by omega, hB⟩
end Go.Proofs.YtmdiilnipoblbaaDoor
set_option maxRecDepth 100000
set_option linter.unusedVariables false
namespace Go.Proofs.YtmdiilnipoblbaaDoor
set_option maxRecDepth 100000
open Go Go.RowKit
set_option maxHeartbeats 1000000 in
theorem bandsReads_walk {s : ByteArray} {w : World} (hs : s.size ≤ 140737488351232) (hG : GK w) : Calls Tryd.prog 5 #[.string s] w fun e w' => e = .returned (.bool true) ∧ Below w.heap.size w w' := by
  have HG := Lib.hid hG
  have HA := Lib.hid fun W hG => awake15_any W hG
  have HC := Lib.hid fun W => pread_all W s hs
  have HD := Lib.hid fun W => eread_all W s hs
  obtain ⟨x, hx⟩ : ∃ z, z = (readA s.data.toList).1 := ⟨_, rfl⟩
  obtain ⟨y, hy⟩ : ∃ z, z = (readA s.data.toList).2.1 := ⟨_, rfl⟩
  obtain ⟨L, hL⟩ : ∃ z, z = (readA s.data.toList).2.2.1 := ⟨_, rfl⟩
  obtain ⟨q, hq⟩ : ∃ z, z = (readA s.data.toList).2.2.2 := ⟨_, rfl⟩
  rw [← hx, ← hy, ← hL, ← hq] at HC HD
  clear hx hy hL hq hG
  go_enter Tryd.func5, Tryd.ntmps5
  go_wp2_with fail
  refine (HC.out _).mono ?_
  rintro e w1 ⟨A1, n1, cp1, rfl, hS1, hn1, hB1⟩
  have HS1 := Lib.hid hS1
  have HB1 := Lib.hid hB1
  clear hB1 hS1
  go_wp2_with fail
  refine (HD.out _).mono ?_
  rintro e w2 ⟨A2, n2, cp2, rfl, hS2, hn2, hB2⟩
  obtain rfl : n1 = n2 := by rw [← HS1.out.1, ← hS2.1]
  have HT := Lib.hid (texts_any w2 (c := cp1) (d := cp2) (HS1.out.but hB2) hS2 (by omega))
  have HB2 := Lib.hid (HB1.out.trans hB2)
  clear hB2 hS2
  go_wp2_with fail
  refine HT.out.mono ?_
  rintro e w5 ⟨rfl, hB5⟩
  have HB5 := Lib.hid (HB2.out.trans hB5)
  clear hB5
  go_wp2_with fail
  refine (HA.out _ (HG.out.but HB5.out)).mono ?_
  rintro e w6 ⟨rfl, hB6⟩
  have HB6 := Lib.hid (HB5.out.trans hB6)
  clear hB6
  go_wp2
  go_ret
  exact ⟨rfl, but_belowH HB6.out⟩
end Go.Proofs.YtmdiilnipoblbaaDoor
