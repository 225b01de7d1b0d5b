/- Several texts in one: BaA, BbH (what BandsNames reach of them). -/
import Derived.Test.YtmdiilnipoblbaaDoorK01
import Derived.Test.YtmdiilnipoblbaaDoorK02
import Derived.Test.YtmdiilnipoblbaaDoorK04
import Derived.Test.YtmdiilnipoblbaaDoorK05
import Derived.ArgAppend
import Derived.Below
import Derived.BigQuiet
import Derived.BigRegion
import Derived.Deep.AppendLies
import Derived.Deep.Cut
import Derived.Deep.CutBlock
import Derived.Deep.CutRange
import Derived.Deep.DeepCutAuto
import Derived.Deep.Draws
import Derived.Deep.LoopGhost
import Derived.Deep.QuietTactic
import Derived.Deep.RegionLaw
import Derived.Deep.RegionWith
import Derived.Deep.Slices
import Derived.Handy
import Derived.Laws.BitsAllLaws
import Derived.Laws.BitsLemmas
import Derived.Laws.BytesArg
import Derived.Laws.Cells
import Derived.Laws.Externs
import Derived.Laws.IdiomStrings
import Derived.Laws.MakeOwn
import Derived.Laws.OwnMore
import Derived.Laws.Rows
import Derived.Laws.StructEq
import Derived.Laws.Tables
import Derived.Lib.AppendStr
import Derived.Lib.BufferWrite
import Derived.Lib.Hide
import Derived.Lib.UnsafeStr
import Derived.Maps.AppendAt
import Derived.OpenShut
import Derived.OrdersHeld
import Derived.OrdersIn
import Derived.Outline
import Derived.OwnWalk
import Derived.OwnWalkIn
import Derived.ProofKit
import Derived.RangeFuncCalls
import Derived.RegionTactic
import Derived.Shelf.LaysM
import Derived.Shelf.Small.Wraps
import Derived.Shelf.Strconv.Clone
import Derived.Shelf.Strings.Builder1
import Derived.Shelf.Strings.BuilderF
import Derived.Shelf.Strings.Prefix
import Derived.Shelf.Strings.Repeat
import Derived.Sort.CutIn
import Derived.TacticsInMore
import Derived.Test.YtmdiilnipoblbaaDoorChecked
import Derived.WalkKit
set_option maxRecDepth 100000
set_option linter.unusedVariables false
set_option maxRecDepth 100000
set_option linter.unusedVariables false
namespace Go.Proofs.YtmdiilnipoblbaaDoor
set_option maxRecDepth 100000
open Go Go.RowKit
set_option maxHeartbeats 1000000 in
theorem ename_any (w : World) (s : ByteArray) (hs : s.size ≤ 140737488351232) : Calls Tryd.prog 16 #[.string s] w fun e w' => e = .returned (.int .i64 (nameA s.data.toList)) ∧ w' = w := by
  have hln : s.data.toList.length = s.size := Array.length_toList
  by_cases hz : s.size = 0
  · have HR : Hid (nameA s.data.toList = 40) := Lib.hid (nameA_bad fun h => by have := h.1; omega)
    have e1 : s.toList = [] := by
      rw [ByteArray.toList_eq]
      exact List.eq_nil_of_length_eq_zero (by rw [hln, hz])
    rw [HR.out]
    clear hln hz
    go_enter Tryd.func16, Tryd.ntmps16
    go_wp2
    all_goals
      go_ret
      exact ⟨rfl, rfl⟩
  · have e1 : (s.toList == []) = false := by
      rw [ByteArray.toList_eq]
      have h2 : s.data.toList ≠ [] := fun e => hz (by rw [← hln, e]; rfl)
      simpa using h2
    by_cases hb : 32 < s.size
    · have HR : Hid (nameA s.data.toList = 40) := Lib.hid (nameA_bad fun h => by have := h.2.1; omega)
      rw [HR.out]
      have i1 : (32 : Int) < (s.size : Int) := by omega
      clear hln hz
      go_enter Tryd.func16, Tryd.ntmps16
      go_wp2
      go_ret
      exact ⟨rfl, rfl⟩
    · have i1 : ¬ (32 : Int) < (s.size : Int) := by omega
      have HB : Hid (∀ i, i < s.size → ¬ (33 ≤ (s.data.toList.getD i 0).toNat ∧ (s.data.toList.getD i 0).toNat ≤ 126) → nameA s.data.toList = 40) := Lib.hid fun i hi h => nameA_bad fun f => h (f.2.2 i (by omega))
      have HO : Hid ((∀ i, i < s.size → 33 ≤ (s.data.toList.getD i 0).toNat ∧ (s.data.toList.getD i 0).toNat ≤ 126) → nameA s.data.toList = 0) := Lib.hid fun f => nameA_ok ⟨by omega, by omega, fun i hi => f i (by omega)⟩
      obtain ⟨R, hR⟩ : ∃ R, R = nameA s.data.toList := ⟨_, rfl⟩
      rw [← hR] at HB HO ⊢
      obtain ⟨wz, hwz⟩ : ∃ W, W = w := ⟨w, rfl⟩
      have HWZ := Lib.hid hwz
      clear hln hz hb hR hwz
      go_enter Tryd.func16, Tryd.ntmps16
      go_wp2
      go_loopw [3] (fun kv wx => ∃ k : Nat, k ≤ s.size ∧ kv = .int .i64 k ∧ Hid (∀ i, i < k → 33 ≤ (s.data.toList.getD i 0).toNat ∧ (s.data.toList.getD i 0).toNat ≤ 126) ∧ Hid (wx = w)) (fun kv _ => s.size - (intOf kv).toNat)
      case atStart => exact ⟨0, Nat.zero_le _, rfl, Lib.hid (fun i hi => by omega), Lib.hid rfl⟩
      case round =>
        obtain ⟨k, hk, rfl, HP, HW⟩ := hrel
        by_cases hlt : k < s.size
        · have kx : ∀ w, (Instr.index 9 (.string s) (.int .i64 (k : Int))).run Tryd.prog w = .ok (.int .u8 (s[k].toNat : Nat)) w := fun w => byteR_run hlt w
          obtain ⟨x, hx⟩ : ∃ x, x = s[k].toNat := ⟨_, rfl⟩
          simp only [← hx] at kx
          have hgx : (s.data.toList.getD k 0).toNat = x := by rw [getD_byte s hlt, hx]
          by_cases h1 : x < 33
          · have HR : Hid (R = 40) := Lib.hid (HB.out k hlt (by rw [hgx]; omega))
            have c1 : (x : Int) < 33 := by omega
            clear hx hgx
            go_wp2
            go_ret
            exact ⟨by rw [HR.out]; rfl, HW.out⟩
          · have c1 : ¬ (x : Int) < 33 := by omega
            by_cases h2 : 126 < x
            · have HR : Hid (R = 40) := Lib.hid (HB.out k hlt (by rw [hgx]; omega))
              have c2 : (126 : Int) < (x : Int) := by omega
              clear hx hgx
              go_wp2
              go_ret
              exact ⟨by rw [HR.out]; rfl, HW.out⟩
            · have c2 : ¬ (126 : Int) < (x : Int) := by omega
              have HP2 : Hid (∀ i, i < k + 1 → 33 ≤ (s.data.toList.getD i 0).toNat ∧ (s.data.toList.getD i 0).toNat ≤ 126) := Lib.hid fun i hi => by
                by_cases e : i = k
                · rw [e, hgx]; omega
                · exact HP.out i (by omega)
              clear hx hgx
              go_wp2
              go_roundw
              case rel => exact ⟨k + 1, by omega, by go_num, HP2, HW⟩
              case measure => simp [intOf] <;> omega
        · have HR : Hid (R = 0) := Lib.hid (HO.out fun i hi => HP.out i (by omega))
          have c1 : ¬ (k : Int) < (s.size : Int) := by omega
          go_wp2
          go_ret
          exact ⟨by rw [HR.out]; rfl, HW.out⟩
end Go.Proofs.YtmdiilnipoblbaaDoor
set_option maxRecDepth 100000
set_option linter.unusedVariables false
namespace Go.Proofs.YtmdiilnipoblbaaDoor
set_option maxRecDepth 100000
open Go Go.RowKit
set_option maxHeartbeats 1000000 in
theorem bandsNames_walk {s : ByteArray} {w : World} (hs : s.size ≤ 140737488351232) (hG : GK w) : Calls Tryd.prog 4 #[.string s] w fun e w' => e = .returned (.bool true) ∧ Below w.heap.size w w' := by
  have HA := Lib.hid (awake15_any w hG)
  have HP : Hid (∀ v, Calls Tryd.prog 15 #[.string s] v fun e w' => e = .returned (.int .i64 (nameA s.data.toList)) ∧ v = w') := Lib.hid fun v => (pname15_any v s hs).mono fun _ _ h => ⟨h.1, h.2.symm⟩
  have HE : Hid (∀ v, Calls Tryd.prog 16 #[.string s] v fun e w' => e = .returned (.int .i64 (nameA s.data.toList)) ∧ v = w') := Lib.hid fun v => (ename_any v s hs).mono fun _ _ h => ⟨h.1, h.2.symm⟩
  obtain ⟨r, hr⟩ : ∃ z, z = nameA s.data.toList := ⟨_, rfl⟩
  rw [← hr] at HP HE
  clear hr hG
  go_enter Tryd.func4, Tryd.ntmps4
  go_wp2_with fail
  refine (HP.out _).mono ?_
  rintro e wz ⟨rfl, rfl⟩
  go_wp2_with fail
  refine (HE.out _).mono ?_
  rintro e wz ⟨rfl, rfl⟩
  go_wp2_with fail
  refine HA.out.mono ?_
  rintro e w1 ⟨rfl, hB1⟩
  have HB1 := Lib.hid hB1
  clear hB1
  go_wp2
  go_ret
  exact ⟨rfl, but_belowH HB1.out⟩
end Go.Proofs.YtmdiilnipoblbaaDoor
