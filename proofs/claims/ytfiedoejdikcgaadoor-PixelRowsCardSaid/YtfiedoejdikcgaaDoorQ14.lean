/- Several texts in one: SbS, SbW (what PixelImages, PixelRows, PixelSame reach of them). -/
import Derived.Test.YtfiedoejdikcgaaDoorQ01
import Derived.Test.YtfiedoejdikcgaaDoorQ02
import Derived.Test.YtfiedoejdikcgaaDoorQ03
import Derived.Test.YtfiedoejdikcgaaDoorQ04
import Derived.Test.YtfiedoejdikcgaaDoorQ05
import Derived.Test.YtfiedoejdikcgaaDoorQ06
import Derived.Test.YtfiedoejdikcgaaDoorQ07
import Derived.Test.YtfiedoejdikcgaaDoorQ08
import Derived.Test.YtfiedoejdikcgaaDoorQ09
import Derived.Test.YtfiedoejdikcgaaDoorQ12
import Derived.Test.YtfiedoejdikcgaaDoorQ13
import Derived.Below
import Derived.BigQuiet
import Derived.BigRegion
import Derived.Deep.AppendLies
import Derived.Deep.CutBlock
import Derived.Deep.CutRange
import Derived.Deep.DeepCutAuto
import Derived.Deep.Draws
import Derived.Deep.QuietTactic
import Derived.Deep.RegionLaw
import Derived.Deep.RegionWith
import Derived.Handy
import Derived.Laws.BitsAllLaws
import Derived.Laws.BitsLemmas
import Derived.Laws.BytesArg
import Derived.Laws.IdiomStrings
import Derived.Laws.MakeOwn
import Derived.Laws.OwnMore
import Derived.Laws.Rows
import Derived.Lib.Hide
import Derived.Maps.AppendAt
import Derived.OrdersHeld
import Derived.OrdersIn
import Derived.Outline
import Derived.OwnWalk
import Derived.OwnWalkIn
import Derived.RangeFuncCalls
import Derived.RegionTactic
import Derived.TacticsInMore
import Derived.Test.YtfiedoejdikcgaaDoorChecked
import Derived.WalkKit
set_option maxRecDepth 100000
set_option linter.unusedVariables false
set_option maxRecDepth 100000
set_option linter.unusedVariables false
namespace Go.Proofs.YtfiedoejdikcgaaDoor
set_option maxRecDepth 100000
open Go Go.RowKit
theorem cut_fromS (s : ByteArray) {i : Nat} (W : World) (hi : i ≤ s.size) : (Instr.slice 9 (.string s) (some (.int .i64 (i : Int))) none none).run Tryd.prog W = .ok (.string (strL (s.data.toList.drop i))) W := by
  rw [run_slice_string_from_if W 9 s .i64 (i : Int) Tryd.underlying9, if_pos (by omega), Int.toNat_natCast, ext_list, List.take_of_length_le (by rw [Array.length_toList]; exact Nat.le_refl _)]
theorem drop_byte {s : ByteArray} {i j : Nat} (h : i + j < s.size) (w : World) : (Instr.index 9 (.string (strL (s.data.toList.drop i))) (.int .i64 (j : Int))).run Tryd.prog w = .ok (.int .u8 (s[i + j].toNat : Nat)) w := by
  have hl : j < (strL (s.data.toList.drop i)).size := by rw [strL_size, List.length_drop, Array.length_toList]; show j < s.size - i; omega
  rw [byteR_run hl w, ← getD_byte _ hl, strL_list, ← getD_byte s h, List.getD_eq_getElem?_getD, List.getElem?_drop, ← List.getD_eq_getElem?_getD]
theorem Calls.tup {P : Program} {f : FuncId} {args : Array Value} {w : World} {s s' : ByteArray} {e e' : Int} (h : Calls P f args w fun r w' => r = .returned (.tuple #[.string s, .int .i64 e]) ∧ But [] w w') (h1 : s = s') (h2 : e = e') : Calls P f args w fun r w' => r = .returned (.tuple #[.string s', .int .i64 e']) ∧ But [] w w' := by
  subst h1 h2; exact h
/-- The pixel of a place of a palette. -/
def palA (pal tr : ByteArray) (has : Bool) (k : Nat) : ByteArray × Int :=
  if pal.size < 3 * k + 3 then (⟨#[]⟩, 29) else
  (px4 (257 * (pal.data.toList.getD (3 * k) 0).toNat) (257 * (pal.data.toList.getD (3 * k + 1) 0).toNat) (257 * (pal.data.toList.getD (3 * k + 2) 0).toNat) (alphaP tr has k), 0)
theorem alphaP_lt (tr : ByteArray) (has : Bool) (k : Nat) : alphaP tr has k < 65536 := by
  unfold alphaP
  split
  · have := (tr.data.toList.getD k 0).toNat_lt; omega
  · decide
set_option maxHeartbeats 2000000 in
theorem pindexed_any (w : World) {a b c d e0 : Int} {pal tr : ByteArray} {has : Bool} {k : Nat} (hk : k < 65536) (hp : pal.size ≤ 140737488351232) (ht : tr.size ≤ 140737488351232) :
    Calls Tryd.prog 74 #[.agg #[.int .i64 a, .int .i64 b, .int .i64 d, .int .i64 c, .int .i64 e0, .string pal, .string tr, .bool has], .int .i64 k] w fun r w' => r = .returned (.tuple #[.string (palA pal tr has k).1, .int .i64 (palA pal tr has k).2]) ∧ But [] w w' := by
  have hA := (But.refl [] w).alloc (.cells #[.int .i64 a, .int .i64 b, .int .i64 d, .int .i64 c, .int .i64 e0, .string pal, .string tr, .bool has] 31)
  obtain ⟨b0, hb0⟩ : ∃ g, g = w.heap.size := ⟨_, rfl⟩
  obtain ⟨w1, hw1⟩ : ∃ X, X = w.alloc (.cells #[.int .i64 a, .int .i64 b, .int .i64 d, .int .i64 c, .int .i64 e0, .string pal, .string tr, .bool has] 31) := ⟨_, rfl⟩
  have hI : Is w1 b0 31 #[.int .i64 a, .int .i64 b, .int .i64 d, .int .i64 c, .int .i64 e0, .string pal, .string tr, .bool has] := by rw [hw1, hb0]; exact Is.fresh _ _ _
  rw [← hw1] at hA
  have HA := Lib.hid hA
  have HC : Hid (∀ v, But [] w1 v → v.cell? ⟨b0, 0, none⟩ = some (.int .i64 a) ∧ v.cell? ⟨b0, 1, none⟩ = some (.int .i64 b) ∧ v.cell? ⟨b0, 2, none⟩ = some (.int .i64 d) ∧ v.cell? ⟨b0, 3, none⟩ = some (.int .i64 c) ∧ v.cell? ⟨b0, 4, none⟩ = some (.int .i64 e0) ∧ v.cell? ⟨b0, 5, none⟩ = some (.string pal) ∧ v.cell? ⟨b0, 6, none⟩ = some (.string tr) ∧ v.cell? ⟨b0, 7, none⟩ = some (.bool has) ∧ b0 < v.heap.size) := Lib.hid fun v hv => by
    have hh := hI.but hv (by simp)
    exact ⟨hh.cell 0, hh.cell 1, hh.cell 2, hh.cell 3, hh.cell 4, hh.cell 5, hh.cell 6, hh.cell 7, hh.lt⟩
  obtain ⟨k3, hk3⟩ : ∃ z, z = 3 * k := ⟨_, rfl⟩
  have e1 : (3 : Int) * (k : Int) = (k3 : Int) := by omega
  obtain ⟨k6, hk6⟩ : ∃ z, z = k3 + 3 := ⟨_, rfl⟩
  have e6 : (k3 : Int) + 3 = (k6 : Int) := by omega
  have v0 := wrapI_in (show k < 1000000000000000 by omega)
  have v1 := wrapI_in (show k3 < 1000000000000000 by omega)
  have v6 := wrapI_in (show k6 < 1000000000000000 by omega)
  by_cases hsh : pal.size < k6
  · have HR : Hid (palA pal tr has k = (⟨#[]⟩, 29)) := Lib.hid (by unfold palA; rw [if_pos (by omega)])
    rw [HR.out]
    clear hk3 hk6
    have c0 := hI.cell 0
    have c6 := hI.cell 6
    have c7 := hI.cell 7
    clear hA hI
    go_enter Tryd.func74, Tryd.ntmps74
    go_upto_region 1 with (fail)
    rw [← hw1, ← hb0]
    clear c0 c6 c7 hw1 hb0
    obtain ⟨c0, c1, c2, c3, c4, c5, c6, c7, hgl⟩ := HC.out w1 (But.refl [] _)
    go_wp2
    go_ret2
    exact ⟨rfl, HA.out⟩
  have hl3 : k3 + 0 < pal.size := by omega
  have hl4 : k3 + 1 < pal.size := by omega
  have hl5 : k3 + 2 < pal.size := by omega
  obtain ⟨p0, hp0⟩ : ∃ z, z = pal[k3 + 0].toNat := ⟨_, rfl⟩
  have y0 : p0 < 256 := by rw [hp0]; exact pal[k3 + 0].toNat_lt
  have wp0 := wrapI_in (show p0 < 1000000000000000 by omega)
  obtain ⟨p1, hp1⟩ : ∃ z, z = pal[k3 + 1].toNat := ⟨_, rfl⟩
  have y1 : p1 < 256 := by rw [hp1]; exact pal[k3 + 1].toNat_lt
  have wp1 := wrapI_in (show p1 < 1000000000000000 by omega)
  obtain ⟨p2, hp2⟩ : ∃ z, z = pal[k3 + 2].toNat := ⟨_, rfl⟩
  have y2 : p2 < 256 := by rw [hp2]; exact pal[k3 + 2].toNat_lt
  have wp2 := wrapI_in (show p2 < 1000000000000000 by omega)
  obtain ⟨E, hE⟩ : ∃ z, z = strL (pal.data.toList.drop k3) := ⟨_, rfl⟩
  have hEs : 3 ≤ E.size := by rw [hE, strL_size, List.length_drop, Array.length_toList]; show 3 ≤ pal.size - k3; omega
  have kc : ∀ W, (Instr.slice 9 (.string pal) (some (.int .i64 (k3 : Int))) none none).run Tryd.prog W = .ok (.string E) W := fun W => by rw [hE]; exact cut_fromS pal W (by omega)
  have i0 : ∀ W, (Instr.index 9 (.string E) (.int .i64 0)).run Tryd.prog W = .ok (.int .u8 (p0 : Nat)) W := fun W => by rw [hE, hp0]; exact drop_byte (j := 0) hl3 W
  have i1 : ∀ W, (Instr.index 9 (.string E) (.int .i64 1)).run Tryd.prog W = .ok (.int .u8 (p1 : Nat)) W := fun W => by rw [hE, hp1]; exact drop_byte (j := 1) hl4 W
  have i2 : ∀ W, (Instr.index 9 (.string E) (.int .i64 2)).run Tryd.prog W = .ok (.int .u8 (p2 : Nat)) W := fun W => by rw [hE, hp2]; exact drop_byte (j := 2) hl5 W
  obtain ⟨al, hal⟩ : ∃ z, z = alphaP tr has k := ⟨_, rfl⟩
  have HAL := Lib.hid hal
  have hall : al < 65536 := by rw [hal]; exact alphaP_lt _ _ _
  obtain ⟨R, hR⟩ : ∃ z, z = palA pal tr has k := ⟨_, rfl⟩
  have hR2 : R = (px4 (257 * p0) (257 * p1) (257 * p2) al, 0) := by
    rw [hR]
    unfold palA
    rw [if_neg (by omega), ← hk3, show pal.data.toList.getD k3 0 = pal[k3 + 0] from getD_byte pal hl3, getD_byte pal hl4, getD_byte pal hl5, ← hp0, ← hp1, ← hp2, ← hal]
  have HCOL : Hid (∀ (v : World) (g : Nat), Is v g 3 #[.int .i64 (p0 : Nat), .int .i64 (p1 : Nat), .int .i64 (p2 : Nat)] → Calls Tryd.prog 75 #[.int .i64 8, .slice (some ⟨g, 0, none⟩) 3 3, .int .i64 (al : Nat)] v fun e w' => e = .returned (.tuple #[.string R.1, .int .i64 R.2]) ∧ But [] v w') := Lib.hid fun v g hg =>
    Calls.tup (pcoloured_any v (d := 8) (m := 3) (cp := 3) (al := al) (l := [(p0 : Int), (p1 : Int), (p2 : Int)]) (Zs.is (l := [(p0 : Int), (p1 : Int), (p2 : Int)]) hg) (by decide) (by decide) hall) (by
      rw [hR2]
      show px4 (wideA (p0 : Int) 8) (wideA (p1 : Int) 8) (wideA (p2 : Int) 8) al = _
      rw [wideA_8 y0, wideA_8 y1, wideA_8 y2]) (by rw [hR2])
  rw [← hR]
  obtain ⟨R1, R2⟩ := R
  clear hk3 hk6 hp0 hp1 hp2 hE hal hR hR2
  obtain ⟨r, hr⟩ : ∃ r, r = (has && decide (k < tr.size)) := ⟨_, rfl⟩
  have Hr := Lib.hid hr
  have HF65 : Hid (r = false → al = 65535) := Lib.hid fun h => by
    rw [HAL.out]
    unfold alphaP
    rw [if_neg]
    rintro ⟨h1, h2⟩
    rw [hr, h1, decide_eq_true h2] at h
    cases h
  have HTR : Hid (r = true → k < tr.size ∧ al = 257 * (tr.data.toList.getD k 0).toNat) := Lib.hid fun h => by
    rw [hr, Bool.and_eq_true] at h
    have h2 := of_decide_eq_true h.2
    refine ⟨h2, ?_⟩
    rw [HAL.out]
    unfold alphaP
    rw [if_pos ⟨h.1, h2⟩]
  clear hr
  have c0 := hI.cell 0
  have c6 := hI.cell 6
  have c7 := hI.cell 7
  clear hA hI
  go_enter Tryd.func74, Tryd.ntmps74
  go_upto_region 1 with (fail)
  rw [← hw1, ← hb0]
  clear c0 c6 c7 hw1 hb0
  obtain ⟨c0, c1, c2, c3, c4, c5, c6, c7, hgl⟩ := HC.out w1 (But.refl [] _)
  go_upto_region 4 with (fail)
  go_cut [23] from 15 to 24 (fun v wx => v = .bool r ∧ w1 = wx)
  case first =>
    cases has with
    | false =>
      obtain rfl : false = r := by rw [Hr.out]; rfl
      go_wp2
      go_meet
      exact ⟨rfl, rfl⟩
    | true =>
      by_cases htr : k < tr.size
      · obtain rfl : true = r := by rw [Hr.out, decide_eq_true htr]; rfl
        go_wp2
        go_meet
        exact ⟨rfl, rfl⟩
      · obtain rfl : false = r := by rw [Hr.out, decide_eq_false htr]; rfl
        go_wp2
        go_meet
        exact ⟨rfl, rfl⟩
  case rest =>
  obtain ⟨rfl, rfl⟩ := hcut
  go_upto_if 23 with (fail)
  go_cut [6] from 24 to 30 (fun v wx => v = .int .i64 (al : Nat) ∧ w1 = wx)
  case first =>
    cases r with
    | false =>
      have eal := HF65.out rfl
      go_wp2
      go_meet
      exact ⟨by rw [eal]; rfl, rfl⟩
    | true =>
      obtain ⟨htr, hal⟩ := HTR.out rfl
      obtain ⟨pa, hpa⟩ : ∃ z, z = tr[k].toNat := ⟨_, rfl⟩
      have ba : pa < 256 := by rw [hpa]; exact tr[k].toNat_lt
      have ia : ∀ w, (Instr.index 9 (.string tr) (.int .i64 (k : Int))).run Tryd.prog w = .ok (.int .u8 (pa : Int)) w := fun w => by rw [hpa]; exact byteR_run htr w
      have wpa := wrapI_in (show pa < 1000000000000000 by omega)
      have HW : Hid (∀ v, Calls Tryd.prog 76 #[.int .i64 (pa : Nat), .int .i64 8] v fun e w' => e = .returned (.int .i64 (al : Nat)) ∧ v = w') := Lib.hid fun v => by
        have h := swide_any v (pa : Int) 8
        rw [wideA_8 ba] at h
        rw [hal, getD_byte tr htr, ← hpa]
        exact h
      clear hpa hal
      go_wp2_with fail
      refine (HW.out _).mono ?_
      rintro e w3 ⟨rfl, rfl⟩
      go_wp2
      go_meet
      exact ⟨rfl, rfl⟩
  case rest =>
  obtain ⟨rfl, rfl⟩ := hcut
  clear HF65 HTR Hr
  go_upto_region 7 with (fail)
  refine wp_region_m (S := fun v => But [] w1 v) (R := fun v v' => But [] v v') (fun w => But.refl [] w) (by kernel_rfl) ((But.refl [] w1).drew) ?_
  refine wpM_take (fun w => But.refl [] w) (fun x y z h k => h.trans k) (i := 0) (v := .string E) rfl (by kernel_rfl) (by kernel_rfl) (by kernel_rfl) (fun _ _ _ h => h) (YieldsR.read (fun w => But.refl [] w) ?_ fun w hS => ?_) ?_
  · go_simp
  · go_simp
  refine wpM_take (fun w => But.refl [] w) (fun x y z h k => h.trans k) (i := 1) (v := .int .u8 (p0 : Nat)) rfl (by kernel_rfl) (by kernel_rfl) (by kernel_rfl) (fun _ _ _ h => h) (YieldsR.read (fun w => But.refl [] w) ?_ fun w hS => ?_) ?_
  · go_simp
  · go_simp
  refine wpM_take (fun w => But.refl [] w) (fun x y z h k => h.trans k) (i := 2) (v := .int .i64 (p0 : Nat)) rfl (by kernel_rfl) (by kernel_rfl) (by kernel_rfl) (fun _ _ _ h => h) (YieldsR.read (fun w => But.refl [] w) ?_ fun w hS => ?_) ?_
  · go_simp
  · go_simp
  refine wpM_take (fun w => But.refl [] w) (fun x y z h k => h.trans k) (i := 3) (v := .string E) rfl (by kernel_rfl) (by kernel_rfl) (by kernel_rfl) (fun _ _ _ h => h) (YieldsR.read (fun w => But.refl [] w) ?_ fun w hS => ?_) ?_
  · go_simp
  · go_simp
  refine wpM_take (fun w => But.refl [] w) (fun x y z h k => h.trans k) (i := 4) (v := .int .u8 (p1 : Nat)) rfl (by kernel_rfl) (by kernel_rfl) (by kernel_rfl) (fun _ _ _ h => h) (YieldsR.read (fun w => But.refl [] w) ?_ fun w hS => ?_) ?_
  · go_simp
  · go_simp
  refine wpM_take (fun w => But.refl [] w) (fun x y z h k => h.trans k) (i := 5) (v := .int .i64 (p1 : Nat)) rfl (by kernel_rfl) (by kernel_rfl) (by kernel_rfl) (fun _ _ _ h => h) (YieldsR.read (fun w => But.refl [] w) ?_ fun w hS => ?_) ?_
  · go_simp
  · go_simp
  refine wpM_take (fun w => But.refl [] w) (fun x y z h k => h.trans k) (i := 6) (v := .string E) rfl (by kernel_rfl) (by kernel_rfl) (by kernel_rfl) (fun _ _ _ h => h) (YieldsR.read (fun w => But.refl [] w) ?_ fun w hS => ?_) ?_
  · go_simp
  · go_simp
  refine wpM_take (fun w => But.refl [] w) (fun x y z h k => h.trans k) (i := 7) (v := .int .u8 (p2 : Nat)) rfl (by kernel_rfl) (by kernel_rfl) (by kernel_rfl) (fun _ _ _ h => h) (YieldsR.read (fun w => But.refl [] w) ?_ fun w hS => ?_) ?_
  · go_simp
  · go_simp
  refine wpM_take (fun w => But.refl [] w) (fun x y z h k => h.trans k) (i := 8) (v := .int .i64 (p2 : Nat)) rfl (by kernel_rfl) (by kernel_rfl) (by kernel_rfl) (fun _ _ _ h => h) (YieldsR.read (fun w => But.refl [] w) ?_ fun w hS => ?_) ?_
  · go_simp
  · go_simp
  refine wpM_take (fun w => But.refl [] w) (fun x y z h k => h.trans k) (i := 10) (v := .int .i64 (al : Nat)) rfl (by kernel_rfl) (by kernel_rfl) (by kernel_rfl) (fun _ _ _ h => h) (YieldsR.read (fun w => But.refl [] w) ?_ fun w hS => ?_) ?_
  · go_simp
  · go_simp
  refine wpM_one (i := 9) rfl (by kernel_rfl) fun w6 hR6 hS6 K' hK => ?_
  have HS6 := Lib.hid hS6
  have HI6 := Lib.hid (Is.fresh w6 3 #[.int .i64 (p0 : Nat), .int .i64 (p1 : Nat), .int .i64 (p2 : Nat)])
  clear hR6 hS6
  go_simp
  refine hK _ _ ⟨HS6.out.alloc _, ?_⟩
  clear hK K' HS6
  obtain ⟨g6, hg6⟩ : ∃ g, g = w6.heap.size := ⟨_, rfl⟩
  rw [← hg6] at HI6 ⊢
  clear hg6
  refine wpM_one (i := 11) rfl (by kernel_rfl) fun w7 hR7 hS7 K' hK => ?_
  go_simp
  refine (HCOL.out w7 g6 (HI6.out.but hR7 (by simp))).mono ?_
  rintro e w8 ⟨rfl, hB8⟩
  refine hK _ _ ⟨hS7.trans hB8, ?_⟩
  clear hK K' hR7 hS7 hB8 HI6
  refine wpM_take (fun w => But.refl [] w) (fun x y z h k => h.trans k) (i := 12) (v := .string R1) rfl (by kernel_rfl) (by kernel_rfl) (by kernel_rfl) (fun _ _ _ h => h) (YieldsR.read (fun w => But.refl [] w) ?_ fun w hS => ?_) ?_
  · go_simp
  · go_simp
  refine wpM_take (fun w => But.refl [] w) (fun x y z h k => h.trans k) (i := 13) (v := .int .i64 R2) rfl (by kernel_rfl) (by kernel_rfl) (by kernel_rfl) (fun _ _ _ h => h) (YieldsR.read (fun w => But.refl [] w) ?_ fun w hS => ?_) ?_
  · go_simp
  · go_simp
  refine wpM_take (fun w => But.refl [] w) (fun x y z h k => h.trans k) (i := 14) (v := .string R1) rfl (by kernel_rfl) (by kernel_rfl) (by kernel_rfl) (fun _ _ _ h => h) (YieldsR.read (fun w => But.refl [] w) ?_ fun w hS => ?_) ?_
  · go_simp
  · go_simp
  refine wpM_take (fun w => But.refl [] w) (fun x y z h k => h.trans k) (i := 15) (v := .int .i64 R2) rfl (by kernel_rfl) (by kernel_rfl) (by kernel_rfl) (fun _ _ _ h => h) (YieldsR.read (fun w => But.refl [] w) ?_ fun w hS => ?_) ?_
  · go_simp
  · go_simp
  refine ⟨by kernel_rfl, fun w9 hR9 hS9 => ?_⟩
  have HB9 := Lib.hid hS9
  clear hR9 hS9
  go_simp
  go_wp2
  go_ret2
  exact ⟨rfl, HA.out.trans HB9.out⟩
end Go.Proofs.YtfiedoejdikcgaaDoor
set_option maxRecDepth 100000
set_option linter.unusedVariables false
namespace Go.Proofs.YtfiedoejdikcgaaDoor
set_option maxRecDepth 100000
open Go Go.RowKit
theorem palA_pix {D : Nat} {c : Int} {pal tr : ByteArray} {has : Bool} {l : List Int} {k : Nat} (hc : c = 3) (h : l.getD 0 0 = (k : Int)) : pixA D c pal tr has l = palA pal tr has k := by
  subst hc
  unfold pixA palA
  rw [if_neg (by decide), if_neg (by decide), if_neg (by decide), if_neg (by decide), h]
  rfl
theorem alphaA_lt (D : Nat) (tr : ByteArray) (has : Bool) (l : List Int) : alphaA D tr has l < 65536 := by
  unfold alphaA
  split <;> decide
theorem pwalk_take {w : World} {A : Option Addr} {n : Nat} {l : List Int} (h : Zs w A n l) {k : Nat} (hk : k ≤ n) : Zs w A k (l.take k) := by
  refine ⟨by rw [List.length_take, h.1]; omega, fun hp => ?_⟩
  obtain ⟨g, o, e, hg, hc⟩ := h.2 (by omega)
  refine ⟨g, o, e, hg, fun i hi => ?_⟩
  rw [List.getElem_take]
  exact hc i _
attribute [local irreducible] pixA palA alphaA
set_option maxHeartbeats 4000000 in
theorem ppixel_a (w : World) {a b c d e0 : Int} {pal tr : ByteArray} {has : Bool} {A : Option Addr} {n cp : Nat} {l : List Int} (hx : ¬ (c = 4 ∨ c = 6)) (hZ : Zs w A n l) (hn : n ≤ 1000) (hcp : n ≤ cp) (hp : pal.size ≤ 140737488351232) (ht : tr.size ≤ 140737488351232) :
    Calls Tryd.prog 65 #[.agg #[.int .i64 a, .int .i64 b, .int .i64 d, .int .i64 c, .int .i64 e0, .string pal, .string tr, .bool has], .slice A n cp] w fun r w' => r = .returned (.tuple #[.string (pixelA d c pal tr has l).1, .int .i64 (pixelA d c pal tr has l).2]) ∧ But [] w w' := by
  have hln := hZ.1
  have hA := (But.refl [] w).alloc (.cells #[.int .i64 a, .int .i64 b, .int .i64 d, .int .i64 c, .int .i64 e0, .string pal, .string tr, .bool has] 31)
  obtain ⟨b0, hb0⟩ : ∃ g, g = w.heap.size := ⟨_, rfl⟩
  obtain ⟨w1, hw1⟩ : ∃ X, X = w.alloc (.cells #[.int .i64 a, .int .i64 b, .int .i64 d, .int .i64 c, .int .i64 e0, .string pal, .string tr, .bool has] 31) := ⟨_, rfl⟩
  have hI : Is w1 b0 31 #[.int .i64 a, .int .i64 b, .int .i64 d, .int .i64 c, .int .i64 e0, .string pal, .string tr, .bool has] := by rw [hw1, hb0]; exact Is.fresh _ _ _
  rw [← hw1] at hA
  have HA := Lib.hid hA
  have HC : Hid (∀ v, But [] w1 v → v.cell? ⟨b0, 0, none⟩ = some (.int .i64 a) ∧ v.cell? ⟨b0, 1, none⟩ = some (.int .i64 b) ∧ v.cell? ⟨b0, 2, none⟩ = some (.int .i64 d) ∧ v.cell? ⟨b0, 3, none⟩ = some (.int .i64 c) ∧ v.cell? ⟨b0, 4, none⟩ = some (.int .i64 e0) ∧ v.cell? ⟨b0, 5, none⟩ = some (.string pal) ∧ v.cell? ⟨b0, 6, none⟩ = some (.string tr) ∧ v.cell? ⟨b0, 7, none⟩ = some (.bool has) ∧ b0 < v.heap.size) := Lib.hid fun v hv => by
    have hh := hI.but hv (by simp)
    exact ⟨hh.cell 0, hh.cell 1, hh.cell 2, hh.cell 3, hh.cell 4, hh.cell 5, hh.cell 6, hh.cell 7, hh.lt⟩
  have HZ : Hid (∀ v, But [] w1 v → Zs v A n l) := Lib.hid fun v hv => hZ.but (hA.trans hv)
  have HSM : Hid (∀ v, Calls Tryd.prog 63 #[.int .i64 c] v fun e w' => e = .returned (.int .i64 (samplesI c)) ∧ v = w') := Lib.hid fun v => psamples_any v c
  have HDP : Hid (∀ v, Calls Tryd.prog 71 #[.int .i64 d] v fun e w' => e = .returned (.bool (depB d)) ∧ v = w') := Lib.hid fun v => pisdepth_any v d
  by_cases h2 : n = 0
  · subst h2
    have HR := Lib.hid (pixelA_bad (d := d) (c := c) (pal := pal) (tr := tr) (has := has) (l := l) (.inr (.inl hln)))
    rw [HR.out]
    clear hln hZ
    have c0 := hI.cell 0
    have c6 := hI.cell 6
    have c7 := hI.cell 7
    clear hA hI
    go_enter Tryd.func65, Tryd.ntmps65
    go_upto_region 1 with (fail)
    rw [← hw1, ← hb0]
    clear c0 c6 c7 hw1 hb0
    obtain ⟨c0, c1, c2, c3, c4, c5, c6, c7, hgl⟩ := HC.out w1 (But.refl [] _)
    go_wp2_with (first | (refine (HSM.out _).mono ?_; rintro e wz ⟨rfl, rfl⟩) | (refine (HDP.out _).mono ?_; rintro e wz ⟨rfl, rfl⟩))
    go_ret2
    exact ⟨rfl, HA.out⟩
  have t2 : ((n : Int) == 0) = false := by simp; exact h2
  have t2b : ¬ (n : Int) = 0 := by omega
  obtain ⟨sc, hsc⟩ : ∃ z, z = samplesI c := ⟨_, rfl⟩
  rw [← hsc] at HSM
  by_cases h1 : sc = (n : Int)
  · subst h1
    have HSC := Lib.hid hsc
    have t1 : ((n : Int) != (n : Int)) = false := by simp
    by_cases hd : depB d = false
    · have HR := Lib.hid (pixelA_bad (d := d) (c := c) (pal := pal) (tr := tr) (has := has) (l := l) (.inr (.inr (.inl hd))))
      rw [HR.out]
      rw [hd] at HDP
      clear hln hZ hsc hd
      have c0 := hI.cell 0
      have c6 := hI.cell 6
      have c7 := hI.cell 7
      clear hA hI
      go_enter Tryd.func65, Tryd.ntmps65
      go_upto_region 1 with (fail)
      rw [← hw1, ← hb0]
      clear c0 c6 c7 hw1 hb0
      obtain ⟨c0, c1, c2, c3, c4, c5, c6, c7, hgl⟩ := HC.out w1 (But.refl [] _)
      go_wp2_with (first | (refine (HSM.out _).mono ?_; rintro e wz ⟨rfl, rfl⟩) | (refine (HDP.out _).mono ?_; rintro e wz ⟨rfl, rfl⟩))
      go_ret2
      exact ⟨rfl, HA.out⟩
    have hd : depB d = true := by simpa using hd
    rw [hd] at HDP
    obtain ⟨D, rfl, hdep, hD1, hD16⟩ := depB_nat hd
    have HWI : Hid (∀ v, But [] w1 v → Calls Tryd.prog 73 #[.int .i64 (D : Nat), .slice A n cp] v fun e w' => e = .returned (.bool (inR D l)) ∧ v = w') := Lib.hid fun v hv => (pwithin_any v (cp := cp) (HZ.out v hv) hn hD16).mono fun _ _ ⟨h1, h2⟩ => ⟨h1, h2.symm⟩
    by_cases hin : inR D l = false
    · have HR := Lib.hid (pixelA_bad (d := (D : Int)) (c := c) (pal := pal) (tr := tr) (has := has) (l := l) (.inr (.inr (.inr hin))))
      rw [HR.out]
      rw [hin] at HWI
      clear hln hZ hsc hd hdep hin
      have c0 := hI.cell 0
      have c6 := hI.cell 6
      have c7 := hI.cell 7
      clear hA hI
      go_enter Tryd.func65, Tryd.ntmps65
      go_upto_region 1 with (fail)
      rw [← hw1, ← hb0]
      clear c0 c6 c7 hw1 hb0
      obtain ⟨c0, c1, c2, c3, c4, c5, c6, c7, hgl⟩ := HC.out w1 (But.refl [] _)
      go_wp2_with (first | (refine (HSM.out _).mono ?_; rintro e wz ⟨rfl, rfl⟩) | (refine (HDP.out _).mono ?_; rintro e wz ⟨rfl, rfl⟩) | (refine (HWI.out _ (But.refl [] _)).mono ?_; rintro e wz ⟨rfl, rfl⟩))
      go_ret2
      exact ⟨rfl, HA.out⟩
    have hin : inR D l = true := by simpa using hin
    rw [hin] at HWI
    have HIN := Lib.hid hin
    have HR := Lib.hid (pixelA_ok (c := c) (pal := pal) (tr := tr) (has := has) hln hsc.symm (by omega) hd hin)
    rw [HR.out]
    have HC4 := Lib.hid (samplesI_cases hsc.symm (by omega))
    have HLN := Lib.hid hln
    have HDE := Lib.hid hd
    have HIND : Hid (∀ (v : World) (k : Nat), k < 65536 → Calls Tryd.prog 74 #[.agg #[.int .i64 a, .int .i64 b, .int .i64 D, .int .i64 c, .int .i64 e0, .string pal, .string tr, .bool has], .int .i64 k] v fun r w' => r = .returned (.tuple #[.string (palA pal tr has k).1, .int .i64 (palA pal tr has k).2]) ∧ But [] v w') := Lib.hid fun v k hk => pindexed_any v hk hp ht
    have HCOL : Hid (∀ (v : World) (m al : Nat) (l' : List Int), Zs v A m l' → 0 < m → m ≤ 1000 → al < 65536 → Calls Tryd.prog 75 #[.int .i64 (D : Nat), .slice A m cp, .int .i64 al] v fun e w' => e = .returned (.tuple #[.string (px4 (wideA (l'.getD (0 % m) 0) D) (wideA (l'.getD (1 % m) 0) D) (wideA (l'.getD (2 % m) 0) D) al), .int .i64 0]) ∧ But [] v w') := Lib.hid fun v m al l' h1 h2 h3 h4 => pcoloured_any v h1 h2 h3 h4
    have HCL : Hid (∀ v, But [] w1 v → Calls Tryd.prog 77 #[.agg #[.int .i64 a, .int .i64 b, .int .i64 D, .int .i64 c, .int .i64 e0, .string pal, .string tr, .bool has], .slice A n cp] v fun r w' => r = .returned (.bool (sameS D tr has l)) ∧ But [] v w') := Lib.hid fun v hv => pclear_any v hD16 (HZ.out v hv) hn ht
    obtain ⟨R, hR⟩ : ∃ R, R = pixA D c pal tr has l := ⟨_, rfl⟩
    rw [← hR]
    have HRR := Lib.hid hR
    clear hln hZ hsc hd hdep hin hR HR
    rcases HC4.out with ⟨hcc, hnn⟩ | ⟨hcc, hnn⟩ | ⟨hcc, hnn⟩ | ⟨hcc, hnn⟩ | ⟨hcc, hnn⟩
    · subst hcc hnn
      obtain ⟨x0, hx0⟩ : ∃ x, l[0]? = some x := ⟨_, List.getElem?_eq_getElem (by rw [HLN.out]; decide)⟩
      have HX0 := Lib.hid hx0
      clear hx0
      obtain ⟨sv, hsv⟩ : ∃ z, z = sameS D tr has l := ⟨_, rfl⟩
      have HSV := Lib.hid hsv
      rw [← hsv] at HCL
      clear hsv
      have HPX : Hid (∀ al, al = alphaA D tr has l → R = (px4 (wideA (l.getD (0 % 1) 0) D) (wideA (l.getD (1 % 1) 0) D) (wideA (l.getD (2 % 1) 0) D) al, 0)) := Lib.hid fun al hal => by
        rw [HRR.out, hal]
        unfold pixA
        rw [if_pos rfl]
      have HCA : Hid (∀ al, al = alphaA D tr has l → ∀ v, But [] w1 v → Calls Tryd.prog 75 #[.int .i64 (D : Nat), .slice A 1 cp, .int .i64 al] v fun e w' => e = .returned (.tuple #[.string R.1, .int .i64 R.2]) ∧ But [] v w') := Lib.hid fun al hal v hv => by
        have h := HCOL.out v 1 al l (HZ.out v hv) (by decide) (by decide) (by rw [hal]; exact alphaA_lt _ _ _ _)
        rw [HPX.out al hal]
        exact h
      have HAT : Hid (sv = true → (0 : Nat) = alphaA D tr has l) := Lib.hid fun h => by unfold alphaA; rw [← HSV.out, if_pos h]
      have HAF : Hid (sv = false → (65535 : Nat) = alphaA D tr has l) := Lib.hid fun h => by unfold alphaA; rw [← HSV.out, if_neg (by rw [h]; decide)]
      obtain ⟨R1, R2⟩ := R
      clear HCOL HIND HPX
      have c0 := hI.cell 0
      have c6 := hI.cell 6
      have c7 := hI.cell 7
      clear hA hI
      go_enter Tryd.func65, Tryd.ntmps65
      go_upto_region 1 with (fail)
      rw [← hw1, ← hb0]
      clear c0 c6 c7 hw1 hb0
      obtain ⟨c0, c1, c2, c3, c4, c5, c6, c7, hgl⟩ := HC.out w1 (But.refl [] _)
      go_wp2_with (first | (refine (HSM.out _).mono ?_; rintro e wz ⟨rfl, rfl⟩) | (refine (HDP.out _).mono ?_; rintro e wz ⟨rfl, rfl⟩) | (refine (HWI.out _ (But.refl [] _)).mono ?_; rintro e wz ⟨rfl, rfl⟩))
      refine (HCL.out _ (But.refl [] _)).mono ?_
      rintro e w2 ⟨rfl, hB2⟩
      have HB2 := Lib.hid hB2
      clear hB2 c0 c1 c2 c3 c4 c5 c6 c7 hgl
      obtain ⟨c0, c1, c2, c3, c4, c5, c6, c7, hgl⟩ := HC.out w2 HB2.out
      cases sv with
      | true =>
        have HCC : Hid (∀ v, But [] w1 v → Calls Tryd.prog 75 #[.int .i64 (D : Nat), .slice A 1 cp, .int .i64 0] v fun e w' => e = .returned (.tuple #[.string R1, .int .i64 R2]) ∧ But [] v w') := Lib.hid fun v hv => HCA.out 0 (HAT.out rfl) v hv
        clear HCA HAT HAF
        go_wp2_with fail
        refine (HCC.out _ HB2.out).mono ?_
        rintro e w3 ⟨rfl, hB3⟩
        have HB3 := Lib.hid (HB2.out.trans hB3)
        clear hB3
        go_wp2
        go_ret2
        exact ⟨rfl, HA.out.trans HB3.out⟩
      | false =>
        have HCC : Hid (∀ v, But [] w1 v → Calls Tryd.prog 75 #[.int .i64 (D : Nat), .slice A 1 cp, .int .i64 65535] v fun e w' => e = .returned (.tuple #[.string R1, .int .i64 R2]) ∧ But [] v w') := Lib.hid fun v hv => HCA.out 65535 (HAF.out rfl) v hv
        clear HCA HAT HAF
        go_wp2_with fail
        refine (HCC.out _ HB2.out).mono ?_
        rintro e w3 ⟨rfl, hB3⟩
        have HB3 := Lib.hid (HB2.out.trans hB3)
        clear hB3
        go_wp2
        go_ret2
        exact ⟨rfl, HA.out.trans HB3.out⟩
    · subst hcc hnn
      obtain ⟨x0, hx0⟩ : ∃ x, l[0]? = some x := ⟨_, List.getElem?_eq_getElem (by rw [HLN.out]; decide)⟩
      have HX0 := Lib.hid hx0
      clear hx0
      obtain ⟨x1, hx1⟩ : ∃ x, l[1]? = some x := ⟨_, List.getElem?_eq_getElem (by rw [HLN.out]; decide)⟩
      have HX1 := Lib.hid hx1
      clear hx1
      obtain ⟨x2, hx2⟩ : ∃ x, l[2]? = some x := ⟨_, List.getElem?_eq_getElem (by rw [HLN.out]; decide)⟩
      have HX2 := Lib.hid hx2
      clear hx2
      obtain ⟨sv, hsv⟩ : ∃ z, z = sameS D tr has l := ⟨_, rfl⟩
      have HSV := Lib.hid hsv
      rw [← hsv] at HCL
      clear hsv
      have HPX : Hid (∀ al, al = alphaA D tr has l → R = (px4 (wideA (l.getD (0 % 3) 0) D) (wideA (l.getD (1 % 3) 0) D) (wideA (l.getD (2 % 3) 0) D) al, 0)) := Lib.hid fun al hal => by
        rw [HRR.out, hal]
        unfold pixA
        rw [if_neg (by decide)]
        rw [if_pos rfl]
      have HCA : Hid (∀ al, al = alphaA D tr has l → ∀ v, But [] w1 v → Calls Tryd.prog 75 #[.int .i64 (D : Nat), .slice A 3 cp, .int .i64 al] v fun e w' => e = .returned (.tuple #[.string R.1, .int .i64 R.2]) ∧ But [] v w') := Lib.hid fun al hal v hv => by
        have h := HCOL.out v 3 al l (HZ.out v hv) (by decide) (by decide) (by rw [hal]; exact alphaA_lt _ _ _ _)
        rw [HPX.out al hal]
        exact h
      have HAT : Hid (sv = true → (0 : Nat) = alphaA D tr has l) := Lib.hid fun h => by unfold alphaA; rw [← HSV.out, if_pos h]
      have HAF : Hid (sv = false → (65535 : Nat) = alphaA D tr has l) := Lib.hid fun h => by unfold alphaA; rw [← HSV.out, if_neg (by rw [h]; decide)]
      obtain ⟨R1, R2⟩ := R
      clear HCOL HIND HPX
      have c0 := hI.cell 0
      have c6 := hI.cell 6
      have c7 := hI.cell 7
      clear hA hI
      go_enter Tryd.func65, Tryd.ntmps65
      go_upto_region 1 with (fail)
      rw [← hw1, ← hb0]
      clear c0 c6 c7 hw1 hb0
      obtain ⟨c0, c1, c2, c3, c4, c5, c6, c7, hgl⟩ := HC.out w1 (But.refl [] _)
      go_wp2_with (first | (refine (HSM.out _).mono ?_; rintro e wz ⟨rfl, rfl⟩) | (refine (HDP.out _).mono ?_; rintro e wz ⟨rfl, rfl⟩) | (refine (HWI.out _ (But.refl [] _)).mono ?_; rintro e wz ⟨rfl, rfl⟩))
      refine (HCL.out _ (But.refl [] _)).mono ?_
      rintro e w2 ⟨rfl, hB2⟩
      have HB2 := Lib.hid hB2
      clear hB2 c0 c1 c2 c3 c4 c5 c6 c7 hgl
      obtain ⟨c0, c1, c2, c3, c4, c5, c6, c7, hgl⟩ := HC.out w2 HB2.out
      cases sv with
      | true =>
        have HCC : Hid (∀ v, But [] w1 v → Calls Tryd.prog 75 #[.int .i64 (D : Nat), .slice A 3 cp, .int .i64 0] v fun e w' => e = .returned (.tuple #[.string R1, .int .i64 R2]) ∧ But [] v w') := Lib.hid fun v hv => HCA.out 0 (HAT.out rfl) v hv
        clear HCA HAT HAF
        go_wp2_with fail
        refine (HCC.out _ HB2.out).mono ?_
        rintro e w3 ⟨rfl, hB3⟩
        have HB3 := Lib.hid (HB2.out.trans hB3)
        clear hB3
        go_wp2
        go_ret2
        exact ⟨rfl, HA.out.trans HB3.out⟩
      | false =>
        have HCC : Hid (∀ v, But [] w1 v → Calls Tryd.prog 75 #[.int .i64 (D : Nat), .slice A 3 cp, .int .i64 65535] v fun e w' => e = .returned (.tuple #[.string R1, .int .i64 R2]) ∧ But [] v w') := Lib.hid fun v hv => HCA.out 65535 (HAF.out rfl) v hv
        clear HCA HAT HAF
        go_wp2_with fail
        refine (HCC.out _ HB2.out).mono ?_
        rintro e w3 ⟨rfl, hB3⟩
        have HB3 := Lib.hid (HB2.out.trans hB3)
        clear hB3
        go_wp2
        go_ret2
        exact ⟨rfl, HA.out.trans HB3.out⟩
    · subst hcc hnn
      obtain ⟨x0, hx0⟩ : ∃ x, l[0]? = some x := ⟨_, List.getElem?_eq_getElem (by rw [HLN.out]; decide)⟩
      have HX0 := Lib.hid hx0
      clear hx0
      obtain ⟨k, rfl⟩ : ∃ k : Nat, x0 = (k : Int) := ⟨x0.toNat, by have := inR_at HIN.out HX0.out; omega⟩
      have hk : k < 65536 := by
        have h1 := (inR_at HIN.out HX0.out).2
        have h2 : 2 ^ D ≤ 2 ^ 16 := Nat.pow_le_pow_right (by decide) hD16
        have h3 : (2 : Nat) ^ 16 = 65536 := by decide
        omega
      have HRP : Hid (R = palA pal tr has k) := Lib.hid (by rw [HRR.out]; exact palA_pix rfl (getD_of HX0.out))
      have HIK : Hid (∀ (v : World), Calls Tryd.prog 74 #[.agg #[.int .i64 a, .int .i64 b, .int .i64 D, .int .i64 3, .int .i64 e0, .string pal, .string tr, .bool has], .int .i64 k] v fun r w' => r = .returned (.tuple #[.string R.1, .int .i64 R.2]) ∧ But [] v w') := Lib.hid fun v => by rw [HRP.out]; exact HIND.out v k hk
      have HEL : Hid (∀ v, But [] w1 v → ∃ g o, A = some ⟨g, o, none⟩ ∧ v.cell? ⟨g, o, none⟩ = some (.int .i64 (k : Nat))) := Lib.hid fun v hv => by
        obtain ⟨g, o, y, hA0, hg, hy, k0⟩ := (HZ.out v hv).at (i := 0) (by decide)
        rw [HX0.out] at hy
        obtain rfl : (k : Int) = y := Option.some.inj hy
        rw [Nat.add_zero] at k0
        exact ⟨g, o, hA0, k0⟩
      obtain ⟨g, o, hA0, _⟩ := HEL.out w1 (But.refl [] _)
      subst hA0
      have HEC : Hid (∀ v, But [] w1 v → v.cell? ⟨g, o, none⟩ = some (.int .i64 (k : Nat))) := Lib.hid fun v hv => by
        obtain ⟨g', o', e, h⟩ := HEL.out v hv
        injection e with e
        injection e with e1 e2
        rw [e1, e2]
        exact h
      obtain ⟨R1, R2⟩ := R
      clear HCOL HCL HRP HIND HRR HEL
      have c0 := hI.cell 0
      have c6 := hI.cell 6
      have c7 := hI.cell 7
      clear hA hI
      go_enter Tryd.func65, Tryd.ntmps65
      go_upto_region 1 with (fail)
      rw [← hw1, ← hb0]
      clear c0 c6 c7 hw1 hb0
      obtain ⟨c0, c1, c2, c3, c4, c5, c6, c7, hgl⟩ := HC.out w1 (But.refl [] _)
      go_upto_region 6 with (first | (refine (HSM.out _).mono ?_; rintro e wz ⟨rfl, rfl⟩) | (refine (HDP.out _).mono ?_; rintro e wz ⟨rfl, rfl⟩) | (refine (HWI.out _ (But.refl [] _)).mono ?_; rintro e wz ⟨rfl, rfl⟩))
      clear c0 c1 c2 c3 c4 c5 c6 c7 hgl
      refine wp_region_m (S := fun v => But [] w1 v) (R := fun v v' => But [] v v') (fun w => But.refl [] w) (by kernel_rfl) ((But.refl [] w1).drew) ?_
      refine wpM_take (fun w => But.refl [] w) (fun x y z h k => h.trans k) (i := 0) (v := .agg #[.int .i64 a, .int .i64 b, .int .i64 D, .int .i64 3, .int .i64 e0, .string pal, .string tr, .bool has]) rfl (by kernel_rfl) (by kernel_rfl) (by kernel_rfl) (fun _ _ _ h => h) (YieldsR.read (fun w => But.refl [] w) ?_ fun w hS => ?_) ?_
      · go_simp
      · obtain ⟨c0, c1, c2, c3, c4, c5, c6, c7, hgl⟩ := HC.out w hS; go_simp
      refine wpM_take (fun w => But.refl [] w) (fun x y z h k => h.trans k) (i := 1) (v := .slice (some ⟨g, o, none⟩) 1 cp) rfl (by kernel_rfl) (by kernel_rfl) (by kernel_rfl) (fun _ _ _ h => h) (YieldsR.read (fun w => But.refl [] w) ?_ fun w hS => ?_) ?_
      · go_simp
      · go_simp
      refine wpM_take (fun w => But.refl [] w) (fun x y z h k => h.trans k) (i := 2) (v := .pointer (some ⟨g, o, none⟩)) rfl (by kernel_rfl) (by kernel_rfl) (by kernel_rfl) (fun _ _ _ h => h) (YieldsR.read (fun w => But.refl [] w) ?_ fun w hS => ?_) ?_
      · go_simp
      · go_simp
      refine wpM_take (fun w => But.refl [] w) (fun x y z h k => h.trans k) (i := 3) (v := .int .i64 (k : Nat)) rfl (by kernel_rfl) (by kernel_rfl) (by kernel_rfl) (fun _ _ _ h => h) (YieldsR.read (fun w => But.refl [] w) ?_ fun w hS => ?_) ?_
      · go_simp
      · have y := HEC.out w hS; go_simp
      refine wpM_take (fun w => But.refl [] w) (fun x y z h k => h.trans k) (i := 4) (v := .tuple #[.string R1, .int .i64 R2]) rfl (by kernel_rfl) (by kernel_rfl) (by kernel_rfl) (fun _ _ _ h => h) (.inl ⟨?_, fun w hS => .inr ⟨_, _, ?_, (HIK.out w).mono ?_⟩⟩) ?_
      · go_simp
      · go_simp
      · rintro e wy ⟨rfl, hB⟩; exact ⟨rfl, hS.trans hB, hB⟩
      refine wpM_take (fun w => But.refl [] w) (fun x y z h k => h.trans k) (i := 5) (v := .string R1) rfl (by kernel_rfl) (by kernel_rfl) (by kernel_rfl) (fun _ _ _ h => h) (YieldsR.read (fun w => But.refl [] w) ?_ fun w hS => ?_) ?_
      · go_simp
      · go_simp
      refine wpM_take (fun w => But.refl [] w) (fun x y z h k => h.trans k) (i := 6) (v := .int .i64 R2) rfl (by kernel_rfl) (by kernel_rfl) (by kernel_rfl) (fun _ _ _ h => h) (YieldsR.read (fun w => But.refl [] w) ?_ fun w hS => ?_) ?_
      · go_simp
      · go_simp
      refine wpM_take (fun w => But.refl [] w) (fun x y z h k => h.trans k) (i := 7) (v := .string R1) rfl (by kernel_rfl) (by kernel_rfl) (by kernel_rfl) (fun _ _ _ h => h) (YieldsR.read (fun w => But.refl [] w) ?_ fun w hS => ?_) ?_
      · go_simp
      · go_simp
      refine wpM_take (fun w => But.refl [] w) (fun x y z h k => h.trans k) (i := 8) (v := .int .i64 R2) rfl (by kernel_rfl) (by kernel_rfl) (by kernel_rfl) (fun _ _ _ h => h) (YieldsR.read (fun w => But.refl [] w) ?_ fun w hS => ?_) ?_
      · go_simp
      · go_simp
      refine ⟨by kernel_rfl, fun w9 hR9 hS9 => ?_⟩
      have HB9 := Lib.hid hS9
      clear hR9 hS9
      go_simp
      go_wp2
      go_ret2
      exact ⟨rfl, HA.out.trans HB9.out⟩
    · omega
    · omega
  · have HR := Lib.hid (pixelA_bad (d := d) (c := c) (pal := pal) (tr := tr) (has := has) (l := l) (.inl (by rw [hln, ← hsc]; exact h1)))
    rw [HR.out]
    have t1 : ((n : Int) != sc) = true := by simp; exact fun e => h1 e.symm
    have t3 : ((n : Int) = sc) = False := by simp; exact fun e => h1 e.symm
    clear hln hZ hsc
    have c0 := hI.cell 0
    have c6 := hI.cell 6
    have c7 := hI.cell 7
    clear hA hI
    go_enter Tryd.func65, Tryd.ntmps65
    go_upto_region 1 with (fail)
    rw [← hw1, ← hb0]
    clear c0 c6 c7 hw1 hb0
    obtain ⟨c0, c1, c2, c3, c4, c5, c6, c7, hgl⟩ := HC.out w1 (But.refl [] _)
    go_wp2_with (first | (refine (HSM.out _).mono ?_; rintro e wz ⟨rfl, rfl⟩) | (refine (HDP.out _).mono ?_; rintro e wz ⟨rfl, rfl⟩))
    go_ret2
    exact ⟨rfl, HA.out⟩
end Go.Proofs.YtfiedoejdikcgaaDoor
