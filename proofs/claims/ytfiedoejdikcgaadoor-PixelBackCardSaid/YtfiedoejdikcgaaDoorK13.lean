/- Several texts in one: SbS (what PixelBack, PixelChecks reach of them). -/
import Derived.Test.YtfiedoejdikcgaaDoorK02
import Derived.Test.YtfiedoejdikcgaaDoorK03
import Derived.Test.YtfiedoejdikcgaaDoorK04
import Derived.Test.YtfiedoejdikcgaaDoorK05
import Derived.Test.YtfiedoejdikcgaaDoorK06
import Derived.Test.YtfiedoejdikcgaaDoorK07
import Derived.Test.YtfiedoejdikcgaaDoorK08
import Derived.Test.YtfiedoejdikcgaaDoorK11
import Derived.Test.YtfiedoejdikcgaaDoorK12
import Derived.Below
import Derived.BigQuiet
import Derived.BigRegion
import Derived.Deep.AppendLies
import Derived.Deep.CutBlock
import Derived.Deep.CutRange
import Derived.Deep.DeepCutAuto
import Derived.Deep.Draws
import Derived.Deep.QuietTactic
import Derived.Deep.RegionLaw
import Derived.Deep.RegionWith
import Derived.Handy
import Derived.Laws.BitsAllLaws
import Derived.Laws.BitsLemmas
import Derived.Laws.BytesArg
import Derived.Laws.IdiomStrings
import Derived.Laws.MakeOwn
import Derived.Laws.OwnMore
import Derived.Laws.Rows
import Derived.Lib.Hide
import Derived.Maps.AppendAt
import Derived.OrdersHeld
import Derived.OrdersIn
import Derived.Outline
import Derived.OwnWalk
import Derived.OwnWalkIn
import Derived.RangeFuncCalls
import Derived.RegionTactic
import Derived.TacticsInMore
import Derived.Test.YtfiedoejdikcgaaDoorChecked
import Derived.WalkKit
set_option maxRecDepth 100000
set_option linter.unusedVariables false
set_option maxRecDepth 100000
set_option linter.unusedVariables false
namespace Go.Proofs.YtfiedoejdikcgaaDoor
set_option maxRecDepth 100000
open Go Go.RowKit
theorem cut_fromS (s : ByteArray) {i : Nat} (W : World) (hi : i ≤ s.size) : (Instr.slice 9 (.string s) (some (.int .i64 (i : Int))) none none).run Tryd.prog W = .ok (.string (strL (s.data.toList.drop i))) W := by
  rw [run_slice_string_from_if W 9 s .i64 (i : Int) Tryd.underlying9, if_pos (by omega), Int.toNat_natCast, ext_list, List.take_of_length_le (by rw [Array.length_toList]; exact Nat.le_refl _)]
theorem drop_byte {s : ByteArray} {i j : Nat} (h : i + j < s.size) (w : World) : (Instr.index 9 (.string (strL (s.data.toList.drop i))) (.int .i64 (j : Int))).run Tryd.prog w = .ok (.int .u8 (s[i + j].toNat : Nat)) w := by
  have hl : j < (strL (s.data.toList.drop i)).size := by rw [strL_size, List.length_drop, Array.length_toList]; show j < s.size - i; omega
  rw [byteR_run hl w, ← getD_byte _ hl, strL_list, ← getD_byte s h, List.getD_eq_getElem?_getD, List.getElem?_drop, ← List.getD_eq_getElem?_getD]
theorem Calls.tup {P : Program} {f : FuncId} {args : Array Value} {w : World} {s s' : ByteArray} {e e' : Int} (h : Calls P f args w fun r w' => r = .returned (.tuple #[.string s, .int .i64 e]) ∧ But [] w w') (h1 : s = s') (h2 : e = e') : Calls P f args w fun r w' => r = .returned (.tuple #[.string s', .int .i64 e']) ∧ But [] w w' := by
  subst h1 h2; exact h
/-- The pixel of a place of a palette. -/
def palA (pal tr : ByteArray) (has : Bool) (k : Nat) : ByteArray × Int :=
  if pal.size < 3 * k + 3 then (⟨#[]⟩, 29) else
  (px4 (257 * (pal.data.toList.getD (3 * k) 0).toNat) (257 * (pal.data.toList.getD (3 * k + 1) 0).toNat) (257 * (pal.data.toList.getD (3 * k + 2) 0).toNat) (alphaP tr has k), 0)
theorem alphaP_lt (tr : ByteArray) (has : Bool) (k : Nat) : alphaP tr has k < 65536 := by
  unfold alphaP
  split
  · have := (tr.data.toList.getD k 0).toNat_lt; omega
  · decide
set_option maxHeartbeats 2000000 in
theorem pindexed_any (w : World) {a b c d e0 : Int} {pal tr : ByteArray} {has : Bool} {k : Nat} (hk : k < 65536) (hp : pal.size ≤ 140737488351232) (ht : tr.size ≤ 140737488351232) :
    Calls Tryd.prog 74 #[.agg #[.int .i64 a, .int .i64 b, .int .i64 d, .int .i64 c, .int .i64 e0, .string pal, .string tr, .bool has], .int .i64 k] w fun r w' => r = .returned (.tuple #[.string (palA pal tr has k).1, .int .i64 (palA pal tr has k).2]) ∧ But [] w w' := by
  have hA := (But.refl [] w).alloc (.cells #[.int .i64 a, .int .i64 b, .int .i64 d, .int .i64 c, .int .i64 e0, .string pal, .string tr, .bool has] 31)
  obtain ⟨b0, hb0⟩ : ∃ g, g = w.heap.size := ⟨_, rfl⟩
  obtain ⟨w1, hw1⟩ : ∃ X, X = w.alloc (.cells #[.int .i64 a, .int .i64 b, .int .i64 d, .int .i64 c, .int .i64 e0, .string pal, .string tr, .bool has] 31) := ⟨_, rfl⟩
  have hI : Is w1 b0 31 #[.int .i64 a, .int .i64 b, .int .i64 d, .int .i64 c, .int .i64 e0, .string pal, .string tr, .bool has] := by rw [hw1, hb0]; exact Is.fresh _ _ _
  rw [← hw1] at hA
  have HA := Lib.hid hA
  have HC : Hid (∀ v, But [] w1 v → v.cell? ⟨b0, 0, none⟩ = some (.int .i64 a) ∧ v.cell? ⟨b0, 1, none⟩ = some (.int .i64 b) ∧ v.cell? ⟨b0, 2, none⟩ = some (.int .i64 d) ∧ v.cell? ⟨b0, 3, none⟩ = some (.int .i64 c) ∧ v.cell? ⟨b0, 4, none⟩ = some (.int .i64 e0) ∧ v.cell? ⟨b0, 5, none⟩ = some (.string pal) ∧ v.cell? ⟨b0, 6, none⟩ = some (.string tr) ∧ v.cell? ⟨b0, 7, none⟩ = some (.bool has) ∧ b0 < v.heap.size) := Lib.hid fun v hv => by
    have hh := hI.but hv (by simp)
    exact ⟨hh.cell 0, hh.cell 1, hh.cell 2, hh.cell 3, hh.cell 4, hh.cell 5, hh.cell 6, hh.cell 7, hh.lt⟩
  obtain ⟨k3, hk3⟩ : ∃ z, z = 3 * k := ⟨_, rfl⟩
  have e1 : (3 : Int) * (k : Int) = (k3 : Int) := by omega
  obtain ⟨k6, hk6⟩ : ∃ z, z = k3 + 3 := ⟨_, rfl⟩
  have e6 : (k3 : Int) + 3 = (k6 : Int) := by omega
  have v0 := wrapI_in (show k < 1000000000000000 by omega)
  have v1 := wrapI_in (show k3 < 1000000000000000 by omega)
  have v6 := wrapI_in (show k6 < 1000000000000000 by omega)
  by_cases hsh : pal.size < k6
  · have HR : Hid (palA pal tr has k = (⟨#[]⟩, 29)) := Lib.hid (by unfold palA; rw [if_pos (by omega)])
    rw [HR.out]
    clear hk3 hk6
    have c0 := hI.cell 0
    have c6 := hI.cell 6
    have c7 := hI.cell 7
    clear hA hI
    go_enter Tryd.func74, Tryd.ntmps74
    go_upto_region 1 with (fail)
    rw [← hw1, ← hb0]
    clear c0 c6 c7 hw1 hb0
    obtain ⟨c0, c1, c2, c3, c4, c5, c6, c7, hgl⟩ := HC.out w1 (But.refl [] _)
    go_wp2
    go_ret2
    exact ⟨rfl, HA.out⟩
  have hl3 : k3 + 0 < pal.size := by omega
  have hl4 : k3 + 1 < pal.size := by omega
  have hl5 : k3 + 2 < pal.size := by omega
  obtain ⟨p0, hp0⟩ : ∃ z, z = pal[k3 + 0].toNat := ⟨_, rfl⟩
  have y0 : p0 < 256 := by rw [hp0]; exact pal[k3 + 0].toNat_lt
  have wp0 := wrapI_in (show p0 < 1000000000000000 by omega)
  obtain ⟨p1, hp1⟩ : ∃ z, z = pal[k3 + 1].toNat := ⟨_, rfl⟩
  have y1 : p1 < 256 := by rw [hp1]; exact pal[k3 + 1].toNat_lt
  have wp1 := wrapI_in (show p1 < 1000000000000000 by omega)
  obtain ⟨p2, hp2⟩ : ∃ z, z = pal[k3 + 2].toNat := ⟨_, rfl⟩
  have y2 : p2 < 256 := by rw [hp2]; exact pal[k3 + 2].toNat_lt
  have wp2 := wrapI_in (show p2 < 1000000000000000 by omega)
  obtain ⟨E, hE⟩ : ∃ z, z = strL (pal.data.toList.drop k3) := ⟨_, rfl⟩
  have hEs : 3 ≤ E.size := by rw [hE, strL_size, List.length_drop, Array.length_toList]; show 3 ≤ pal.size - k3; omega
  have kc : ∀ W, (Instr.slice 9 (.string pal) (some (.int .i64 (k3 : Int))) none none).run Tryd.prog W = .ok (.string E) W := fun W => by rw [hE]; exact cut_fromS pal W (by omega)
  have i0 : ∀ W, (Instr.index 9 (.string E) (.int .i64 0)).run Tryd.prog W = .ok (.int .u8 (p0 : Nat)) W := fun W => by rw [hE, hp0]; exact drop_byte (j := 0) hl3 W
  have i1 : ∀ W, (Instr.index 9 (.string E) (.int .i64 1)).run Tryd.prog W = .ok (.int .u8 (p1 : Nat)) W := fun W => by rw [hE, hp1]; exact drop_byte (j := 1) hl4 W
  have i2 : ∀ W, (Instr.index 9 (.string E) (.int .i64 2)).run Tryd.prog W = .ok (.int .u8 (p2 : Nat)) W := fun W => by rw [hE, hp2]; exact drop_byte (j := 2) hl5 W
  obtain ⟨al, hal⟩ : ∃ z, z = alphaP tr has k := ⟨_, rfl⟩
  have HAL := Lib.hid hal
  have hall : al < 65536 := by rw [hal]; exact alphaP_lt _ _ _
  obtain ⟨R, hR⟩ : ∃ z, z = palA pal tr has k := ⟨_, rfl⟩
  have hR2 : R = (px4 (257 * p0) (257 * p1) (257 * p2) al, 0) := by
    rw [hR]
    unfold palA
    rw [if_neg (by omega), ← hk3, show pal.data.toList.getD k3 0 = pal[k3 + 0] from getD_byte pal hl3, getD_byte pal hl4, getD_byte pal hl5, ← hp0, ← hp1, ← hp2, ← hal]
  have HCOL : Hid (∀ (v : World) (g : Nat), Is v g 3 #[.int .i64 (p0 : Nat), .int .i64 (p1 : Nat), .int .i64 (p2 : Nat)] → Calls Tryd.prog 75 #[.int .i64 8, .slice (some ⟨g, 0, none⟩) 3 3, .int .i64 (al : Nat)] v fun e w' => e = .returned (.tuple #[.string R.1, .int .i64 R.2]) ∧ But [] v w') := Lib.hid fun v g hg =>
    Calls.tup (pcoloured_any v (d := 8) (m := 3) (cp := 3) (al := al) (l := [(p0 : Int), (p1 : Int), (p2 : Int)]) (Zs.is (l := [(p0 : Int), (p1 : Int), (p2 : Int)]) hg) (by decide) (by decide) hall) (by
      rw [hR2]
      show px4 (wideA (p0 : Int) 8) (wideA (p1 : Int) 8) (wideA (p2 : Int) 8) al = _
      rw [wideA_8 y0, wideA_8 y1, wideA_8 y2]) (by rw [hR2])
  rw [← hR]
  obtain ⟨R1, R2⟩ := R
  clear hk3 hk6 hp0 hp1 hp2 hE hal hR hR2
  obtain ⟨r, hr⟩ : ∃ r, r = (has && decide (k < tr.size)) := ⟨_, rfl⟩
  have Hr := Lib.hid hr
  have HF65 : Hid (r = false → al = 65535) := Lib.hid fun h => by
    rw [HAL.out]
    unfold alphaP
    rw [if_neg]
    rintro ⟨h1, h2⟩
    rw [hr, h1, decide_eq_true h2] at h
    cases h
  have HTR : Hid (r = true → k < tr.size ∧ al = 257 * (tr.data.toList.getD k 0).toNat) := Lib.hid fun h => by
    rw [hr, Bool.and_eq_true] at h
    have h2 := of_decide_eq_true h.2
    refine ⟨h2, ?_⟩
    rw [HAL.out]
    unfold alphaP
    rw [if_pos ⟨h.1, h2⟩]
  clear hr
  have c0 := hI.cell 0
  have c6 := hI.cell 6
  have c7 := hI.cell 7
  clear hA hI
  go_enter Tryd.func74, Tryd.ntmps74
  go_upto_region 1 with (fail)
  rw [← hw1, ← hb0]
  clear c0 c6 c7 hw1 hb0
  obtain ⟨c0, c1, c2, c3, c4, c5, c6, c7, hgl⟩ := HC.out w1 (But.refl [] _)
  go_upto_region 4 with (fail)
  go_cut [23] from 15 to 24 (fun v wx => v = .bool r ∧ w1 = wx)
  case first =>
    cases has with
    | false =>
      obtain rfl : false = r := by rw [Hr.out]; rfl
      go_wp2
      go_meet
      exact ⟨rfl, rfl⟩
    | true =>
      by_cases htr : k < tr.size
      · obtain rfl : true = r := by rw [Hr.out, decide_eq_true htr]; rfl
        go_wp2
        go_meet
        exact ⟨rfl, rfl⟩
      · obtain rfl : false = r := by rw [Hr.out, decide_eq_false htr]; rfl
        go_wp2
        go_meet
        exact ⟨rfl, rfl⟩
  case rest =>
  obtain ⟨rfl, rfl⟩ := hcut
  go_upto_if 23 with (fail)
  go_cut [6] from 24 to 30 (fun v wx => v = .int .i64 (al : Nat) ∧ w1 = wx)
  case first =>
    cases r with
    | false =>
      have eal := HF65.out rfl
      go_wp2
      go_meet
      exact ⟨by rw [eal]; rfl, rfl⟩
    | true =>
      obtain ⟨htr, hal⟩ := HTR.out rfl
      obtain ⟨pa, hpa⟩ : ∃ z, z = tr[k].toNat := ⟨_, rfl⟩
      have ba : pa < 256 := by rw [hpa]; exact tr[k].toNat_lt
      have ia : ∀ w, (Instr.index 9 (.string tr) (.int .i64 (k : Int))).run Tryd.prog w = .ok (.int .u8 (pa : Int)) w := fun w => by rw [hpa]; exact byteR_run htr w
      have wpa := wrapI_in (show pa < 1000000000000000 by omega)
      have HW : Hid (∀ v, Calls Tryd.prog 76 #[.int .i64 (pa : Nat), .int .i64 8] v fun e w' => e = .returned (.int .i64 (al : Nat)) ∧ v = w') := Lib.hid fun v => by
        have h := swide_any v (pa : Int) 8
        rw [wideA_8 ba] at h
        rw [hal, getD_byte tr htr, ← hpa]
        exact h
      clear hpa hal
      go_wp2_with fail
      refine (HW.out _).mono ?_
      rintro e w3 ⟨rfl, rfl⟩
      go_wp2
      go_meet
      exact ⟨rfl, rfl⟩
  case rest =>
  obtain ⟨rfl, rfl⟩ := hcut
  clear HF65 HTR Hr
  go_upto_region 7 with (fail)
  refine wp_region_m (S := fun v => But [] w1 v) (R := fun v v' => But [] v v') (fun w => But.refl [] w) (by kernel_rfl) ((But.refl [] w1).drew) ?_
  refine wpM_take (fun w => But.refl [] w) (fun x y z h k => h.trans k) (i := 0) (v := .string E) rfl (by kernel_rfl) (by kernel_rfl) (by kernel_rfl) (fun _ _ _ h => h) (YieldsR.read (fun w => But.refl [] w) ?_ fun w hS => ?_) ?_
  · go_simp
  · go_simp
  refine wpM_take (fun w => But.refl [] w) (fun x y z h k => h.trans k) (i := 1) (v := .int .u8 (p0 : Nat)) rfl (by kernel_rfl) (by kernel_rfl) (by kernel_rfl) (fun _ _ _ h => h) (YieldsR.read (fun w => But.refl [] w) ?_ fun w hS => ?_) ?_
  · go_simp
  · go_simp
  refine wpM_take (fun w => But.refl [] w) (fun x y z h k => h.trans k) (i := 2) (v := .int .i64 (p0 : Nat)) rfl (by kernel_rfl) (by kernel_rfl) (by kernel_rfl) (fun _ _ _ h => h) (YieldsR.read (fun w => But.refl [] w) ?_ fun w hS => ?_) ?_
  · go_simp
  · go_simp
  refine wpM_take (fun w => But.refl [] w) (fun x y z h k => h.trans k) (i := 3) (v := .string E) rfl (by kernel_rfl) (by kernel_rfl) (by kernel_rfl) (fun _ _ _ h => h) (YieldsR.read (fun w => But.refl [] w) ?_ fun w hS => ?_) ?_
  · go_simp
  · go_simp
  refine wpM_take (fun w => But.refl [] w) (fun x y z h k => h.trans k) (i := 4) (v := .int .u8 (p1 : Nat)) rfl (by kernel_rfl) (by kernel_rfl) (by kernel_rfl) (fun _ _ _ h => h) (YieldsR.read (fun w => But.refl [] w) ?_ fun w hS => ?_) ?_
  · go_simp
  · go_simp
  refine wpM_take (fun w => But.refl [] w) (fun x y z h k => h.trans k) (i := 5) (v := .int .i64 (p1 : Nat)) rfl (by kernel_rfl) (by kernel_rfl) (by kernel_rfl) (fun _ _ _ h => h) (YieldsR.read (fun w => But.refl [] w) ?_ fun w hS => ?_) ?_
  · go_simp
  · go_simp
  refine wpM_take (fun w => But.refl [] w) (fun x y z h k => h.trans k) (i := 6) (v := .string E) rfl (by kernel_rfl) (by kernel_rfl) (by kernel_rfl) (fun _ _ _ h => h) (YieldsR.read (fun w => But.refl [] w) ?_ fun w hS => ?_) ?_
  · go_simp
  · go_simp
  refine wpM_take (fun w => But.refl [] w) (fun x y z h k => h.trans k) (i := 7) (v := .int .u8 (p2 : Nat)) rfl (by kernel_rfl) (by kernel_rfl) (by kernel_rfl) (fun _ _ _ h => h) (YieldsR.read (fun w => But.refl [] w) ?_ fun w hS => ?_) ?_
  · go_simp
  · go_simp
  refine wpM_take (fun w => But.refl [] w) (fun x y z h k => h.trans k) (i := 8) (v := .int .i64 (p2 : Nat)) rfl (by kernel_rfl) (by kernel_rfl) (by kernel_rfl) (fun _ _ _ h => h) (YieldsR.read (fun w => But.refl [] w) ?_ fun w hS => ?_) ?_
  · go_simp
  · go_simp
  refine wpM_take (fun w => But.refl [] w) (fun x y z h k => h.trans k) (i := 10) (v := .int .i64 (al : Nat)) rfl (by kernel_rfl) (by kernel_rfl) (by kernel_rfl) (fun _ _ _ h => h) (YieldsR.read (fun w => But.refl [] w) ?_ fun w hS => ?_) ?_
  · go_simp
  · go_simp
  refine wpM_one (i := 9) rfl (by kernel_rfl) fun w6 hR6 hS6 K' hK => ?_
  have HS6 := Lib.hid hS6
  have HI6 := Lib.hid (Is.fresh w6 3 #[.int .i64 (p0 : Nat), .int .i64 (p1 : Nat), .int .i64 (p2 : Nat)])
  clear hR6 hS6
  go_simp
  refine hK _ _ ⟨HS6.out.alloc _, ?_⟩
  clear hK K' HS6
  obtain ⟨g6, hg6⟩ : ∃ g, g = w6.heap.size := ⟨_, rfl⟩
  rw [← hg6] at HI6 ⊢
  clear hg6
  refine wpM_one (i := 11) rfl (by kernel_rfl) fun w7 hR7 hS7 K' hK => ?_
  go_simp
  refine (HCOL.out w7 g6 (HI6.out.but hR7 (by simp))).mono ?_
  rintro e w8 ⟨rfl, hB8⟩
  refine hK _ _ ⟨hS7.trans hB8, ?_⟩
  clear hK K' hR7 hS7 hB8 HI6
  refine wpM_take (fun w => But.refl [] w) (fun x y z h k => h.trans k) (i := 12) (v := .string R1) rfl (by kernel_rfl) (by kernel_rfl) (by kernel_rfl) (fun _ _ _ h => h) (YieldsR.read (fun w => But.refl [] w) ?_ fun w hS => ?_) ?_
  · go_simp
  · go_simp
  refine wpM_take (fun w => But.refl [] w) (fun x y z h k => h.trans k) (i := 13) (v := .int .i64 R2) rfl (by kernel_rfl) (by kernel_rfl) (by kernel_rfl) (fun _ _ _ h => h) (YieldsR.read (fun w => But.refl [] w) ?_ fun w hS => ?_) ?_
  · go_simp
  · go_simp
  refine wpM_take (fun w => But.refl [] w) (fun x y z h k => h.trans k) (i := 14) (v := .string R1) rfl (by kernel_rfl) (by kernel_rfl) (by kernel_rfl) (fun _ _ _ h => h) (YieldsR.read (fun w => But.refl [] w) ?_ fun w hS => ?_) ?_
  · go_simp
  · go_simp
  refine wpM_take (fun w => But.refl [] w) (fun x y z h k => h.trans k) (i := 15) (v := .int .i64 R2) rfl (by kernel_rfl) (by kernel_rfl) (by kernel_rfl) (fun _ _ _ h => h) (YieldsR.read (fun w => But.refl [] w) ?_ fun w hS => ?_) ?_
  · go_simp
  · go_simp
  refine ⟨by kernel_rfl, fun w9 hR9 hS9 => ?_⟩
  have HB9 := Lib.hid hS9
  clear hR9 hS9
  go_simp
  go_wp2
  go_ret2
  exact ⟨rfl, HA.out.trans HB9.out⟩
end Go.Proofs.YtfiedoejdikcgaaDoor
