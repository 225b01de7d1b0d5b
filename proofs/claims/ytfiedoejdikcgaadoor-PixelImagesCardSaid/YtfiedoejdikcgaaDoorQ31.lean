/- Several texts in one: FiD, PxC (what PixelImages reach of them). -/
import Derived.Test.YtfiedoejdikcgaaDoorQ01
import Derived.Test.YtfiedoejdikcgaaDoorQ02
import Derived.Test.YtfiedoejdikcgaaDoorQ03
import Derived.Test.YtfiedoejdikcgaaDoorQ05
import Derived.Test.YtfiedoejdikcgaaDoorQ06
import Derived.Test.YtfiedoejdikcgaaDoorQ07
import Derived.Test.YtfiedoejdikcgaaDoorQ28
import Derived.Below
import Derived.BigQuiet
import Derived.BigRegion
import Derived.Deep.AppendLies
import Derived.Deep.CutBlock
import Derived.Deep.CutRange
import Derived.Deep.DeepCutAuto
import Derived.Deep.Draws
import Derived.Deep.QuietTactic
import Derived.Deep.RegionLaw
import Derived.Deep.RegionWith
import Derived.Handy
import Derived.Laws.BitsAllLaws
import Derived.Laws.BitsLemmas
import Derived.Laws.BytesArg
import Derived.Laws.IdiomStrings
import Derived.Laws.MakeOwn
import Derived.Laws.OwnMore
import Derived.Laws.Rows
import Derived.Laws.StructEq
import Derived.Lib.BufferWrite
import Derived.Lib.Hide
import Derived.Maps.AppendAt
import Derived.OrdersHeld
import Derived.OrdersIn
import Derived.Outline
import Derived.OwnWalk
import Derived.OwnWalkIn
import Derived.RangeFuncCalls
import Derived.RegionTactic
import Derived.TacticsInMore
import Derived.Test.YtfiedoejdikcgaaDoorChecked
import Derived.WalkKit
set_option maxRecDepth 100000
set_option linter.unusedVariables false
set_option maxRecDepth 100000
set_option linter.unusedVariables false
namespace Go.Proofs.YtfiedoejdikcgaaDoor
set_option maxRecDepth 100000
open Go Go.RowKit
set_option maxHeartbeats 1000000 in
theorem eundo_any (w : World) (bpp kind : Int) (s t : ByteArray) (hs : s.size ≤ 140737488351232) (ht : t.size ≤ 140737488351232) :
    Calls Tryd.prog 27 #[.int .i64 bpp, .int .i64 kind, .string s, .string t] w fun e w' => e = .returned (.tuple #[.string (strL (undoA bpp kind s t)), .int .i64 (wrongF bpp kind s t)]) ∧ But [] w w' := by
  have hW := fun v => ewrong_any v bpp kind s t (by omega) (by omega)
  by_cases h0 : wrongF bpp kind s t ≠ 0
  · obtain ⟨er, her⟩ : ∃ x, x = wrongF bpp kind s t := ⟨_, rfl⟩
    rw [undoA_bad h0]
    have h1 : er = 1 ∨ er = 28 := by rcases wrongF_cases bpp kind s t with h | h | h <;> simp_all
    rw [← her]
    simp only [← her] at hW
    have HW := Lib.hid hW
    clear hW her h0
    rcases h1 with rfl | rfl
    · go_enter Tryd.func27, Tryd.ntmps27
      go_wp2_with fail
      refine (HW.out _).mono ?_
      rintro e w1 ⟨rfl, rfl⟩
      go_wp2
      go_ret2
      exact ⟨rfl, But.refl [] _⟩
    · go_enter Tryd.func27, Tryd.ntmps27
      go_wp2_with fail
      refine (HW.out _).mono ?_
      rintro e w1 ⟨rfl, rfl⟩
      go_wp2
      go_ret2
      exact ⟨rfl, But.refl [] _⟩
  have h0 : wrongF bpp kind s t = 0 := by simpa using h0
  obtain ⟨⟨hb1, hb8⟩, hts, hk0, hk4⟩ := wrongF_zero h0
  obtain ⟨n, rfl⟩ : ∃ n : Nat, bpp = (n : Int) := ⟨bpp.toNat, by omega⟩
  have hn1 : 1 ≤ n := by omega
  have hn8 : n ≤ 8 := by omega
  rw [undoA_ok h0, h0]
  rw [h0] at hW
  have HW := Lib.hid hW
  have HTS := Lib.hid hts
  obtain ⟨R, hR⟩ : ∃ R, R = undoF kind n s.data.toList t.data.toList := ⟨_, rfl⟩
  rw [← hR]
  have HR := Lib.hid hR
  obtain ⟨i0, hi0, hz0, hz1, hz2⟩ := info_parts info_u8F
  clear hW h0 hts hR hb1 hb8
  go_enter Tryd.func27, Tryd.ntmps27
  go_wp2_with fail
  refine (HW.out _).mono ?_
  rintro e w1 ⟨rfl, rfl⟩
  go_wp2_with fail
  go_loopw [11, 12] (fun ov kv wr => ∃ (k : Nat) (L : List UInt8), k ≤ s.size ∧ kv = .int .i64 k ∧ Hid (L = undoF kind n (s.data.toList.take k) t.data.toList) ∧ Hid (OwnF wr w.heap.size ov L) ∧ Hid (But [] w wr)) (fun _ kv _ => s.size - (intOf kv).toNat)
  case atStart => exact ⟨0, [], Nat.zero_le _, rfl, Lib.hid (by rw [List.take_zero]; rfl), Lib.hid (OwnF.nil _ _), Lib.hid (But.refl [] _)⟩
  case round =>
    obtain ⟨k, L, hk, rfl, HL, HO, HB⟩ := hrel
    by_cases hlt : k < s.size
    · obtain ⟨A, c, rfl⟩ := HO.out.shape
      have hLl : L.length = k := by rw [HL.out, undoF_length, List.length_take, Array.length_toList]; exact Nat.min_eq_left hk
      have HLL := Lib.hid hLl
      rw [hLl]
      obtain ⟨b, hb⟩ : ∃ b, b = s[k].toNat := ⟨_, rfl⟩
      have kx : ∀ w, (Instr.index 9 (.string s) (.int .i64 (k : Int))).run Tryd.prog w = .ok (.int .u8 (b : Int)) w := fun w => by rw [hb]; exact byteF_run hlt w
      have hb256 : b < 256 := by rw [hb]; exact s[k].toNat_lt
      obtain ⟨qa, hqa⟩ : ∃ q, q = behindF L n k := ⟨_, rfl⟩
      obtain ⟨qb, hqb⟩ : ∃ q, q = (t.data.toList.getD k 0).toNat := ⟨_, rfl⟩
      obtain ⟨qc, hqc⟩ : ∃ q, q = behindF t.data.toList n k := ⟨_, rfl⟩
      have la : qa < 256 := by rw [hqa]; exact behindF_lt _ _ _
      have lb : qb < 256 := by rw [hqb]; exact UInt8.toNat_lt _
      have lc : qc < 256 := by rw [hqc]; exact behindF_lt _ _ _
      have HQB : Hid (∀ v, Calls Tryd.prog 48 #[.string t, .int .i64 (k : Int)] v fun e w' => e = .returned (.int .i64 (qb : Nat)) ∧ v = w') := Lib.hid fun v => by
        rw [hqb, ← atF_nat]; exact eat_any v t _ (by omega)
      have HC : Hid (∀ v, Calls Tryd.prog 48 #[.string t, .int .i64 ((k : Int) - (n : Int))] v fun e w' => e = .returned (.int .i64 (qc : Nat)) ∧ v = w') := Lib.hid fun v => by
        rw [hqc, ← atF_behind]; exact eat_any v t _ (by omega)
      have ha0 : k < n → qa = 0 := fun h => by rw [hqa]; unfold behindF; rw [if_pos h]
      have ha1 : n ≤ k → ∃ (i : Nat) (g : Nat), (k : Int) - (n : Int) = (i : Int) ∧ i < k ∧ A = some ⟨g, 0, none⟩ ∧ wr.cell? ⟨g, i, none⟩ = some (.int .u8 (qa : Int)) := fun h => by
        obtain ⟨g, e, hc⟩ := HO.out.byte (i := k - n) (by omega)
        refine ⟨k - n, g, by omega, by omega, e, ?_⟩
        rw [hc, hqa]; unfold behindF; rw [if_neg (by omega)]
      obtain ⟨p, hp⟩ : ∃ p, p = predF kind qa qb qc := ⟨_, rfl⟩
      have wb : IntKind.i64.wrap (b : Int) = (b : Int) := by rw [IntKind.wrap_i64]; omega
      have wqa : IntKind.i64.wrap (qa : Int) = (qa : Int) := by rw [IntKind.wrap_i64]; omega
      have wqa2 : wrap64 (qa : Int) = (qa : Int) := IntWalk.wrap64_in _ ⟨by omega, by omega⟩
      have hp256 : p < 256 := by rw [hp]; exact predF_lt kind la lb lc
      have wbp : IntKind.i64.wrap ((b : Int) + (p : Int)) = (b : Int) + (p : Int) := by rw [IntKind.wrap_i64]; omega
      have HP : Hid (∀ v, Calls Tryd.prog 47 #[.int .i64 kind, .int .i64 (qa : Int), .int .i64 (qb : Int), .int .i64 (qc : Int)] v fun e w' => e = .returned (.int .i64 (p : Nat)) ∧ v = w') := Lib.hid fun v => by
        rw [hp]; exact etells_any v kind la lb lc
      obtain ⟨y, hy⟩ : ∃ y, y = s[k] + foreF kind n L t.data.toList k := ⟨_, rfl⟩
      have ew : IntKind.u8.wrap ((b : Int) + (p : Int)) = ((y.toNat : Nat) : Int) := by
        have hfo : (foreF kind n L t.data.toList k).toNat = p := by
          unfold foreF
          rw [← hqa, ← hqb, ← hqc, ← hp, UInt8.toNat_ofNat']
          omega
        rw [hy, UInt8.toNat_add, hfo, ← hb, IntKind.wrap_u8]
        omega
      have HN : Hid (L ++ [y] = undoF kind n (s.data.toList.take (k + 1)) t.data.toList) := Lib.hid (by
        rw [take_snoc s k hlt, undoF_snoc, ← HL.out, hLl, hy])
      clear hb hqa hqb hqc hp hy hLl
      by_cases hkn : k < n
      · obtain rfl : qa = 0 := ha0 hkn
        have wkn : IntKind.i64.wrap ((k : Int) - (n : Int)) = (k : Int) - (n : Int) := by rw [IntKind.wrap_i64]; omega
        clear ha0 ha1
        go_upto_region 11 with (fail)
        refine wp_region_m (S := fun v => But [] w v) (R := fun v v' => But [] v v') (fun w => But.refl [] w) (by kernel_rfl) (HB.out.drew) ?_
        refine wpM_take (fun w => But.refl [] w) (fun x y z h k => h.trans k) (i := 0) (v := .slice A k c) rfl (by kernel_rfl) (by kernel_rfl) (by kernel_rfl) (fun _ _ _ h => h) (YieldsR.read (fun w => But.refl [] w) ?_ fun w hS => ?_) ?_
        · go_simp
        · go_simp
        refine wpM_take (fun w => But.refl [] w) (fun x y z h k => h.trans k) (i := 1) (v := .string s) rfl (by kernel_rfl) (by kernel_rfl) (by kernel_rfl) (fun _ _ _ h => h) (YieldsR.read (fun w => But.refl [] w) ?_ fun w hS => ?_) ?_
        · go_simp
        · go_simp
        refine wpM_take (fun w => But.refl [] w) (fun x y z h k => h.trans k) (i := 2) (v := .int .i64 (k : Int)) rfl (by kernel_rfl) (by kernel_rfl) (by kernel_rfl) (fun _ _ _ h => h) (YieldsR.read (fun w => But.refl [] w) ?_ fun w hS => ?_) ?_
        · go_simp
        · go_simp
        refine wpM_take (fun w => But.refl [] w) (fun x y z h k => h.trans k) (i := 3) (v := .int .u8 (b : Int)) rfl (by kernel_rfl) (by kernel_rfl) (by kernel_rfl) (fun _ _ _ h => h) (YieldsR.read (fun w => But.refl [] w) ?_ fun w hS => ?_) ?_
        · go_simp
        · go_simp
        refine wpM_take (fun w => But.refl [] w) (fun x y z h k => h.trans k) (i := 4) (v := .int .i64 (b : Int)) rfl (by kernel_rfl) (by kernel_rfl) (by kernel_rfl) (fun _ _ _ h => h) (YieldsR.read (fun w => But.refl [] w) ?_ fun w hS => ?_) ?_
        · go_simp
        · go_simp
        refine wpM_take (fun w => But.refl [] w) (fun x y z h k => h.trans k) (i := 5) (v := .int .i64 kind) rfl (by kernel_rfl) (by kernel_rfl) (by kernel_rfl) (fun _ _ _ h => h) (YieldsR.read (fun w => But.refl [] w) ?_ fun w hS => ?_) ?_
        · go_simp
        · go_simp
        refine wpM_take (fun w => But.refl [] w) (fun x y z h k => h.trans k) (i := 6) (v := .int .i64 0) rfl (by kernel_rfl) (by kernel_rfl) (by kernel_rfl) (fun _ _ _ h => h) (YieldsR.read (fun w => But.refl [] w) ?_ fun w hS => ?_) ?_
        · go_simp
        · go_simp
        refine wpM_take (fun w => But.refl [] w) (fun x y z h k => h.trans k) (i := 7) (v := .string t) rfl (by kernel_rfl) (by kernel_rfl) (by kernel_rfl) (fun _ _ _ h => h) (YieldsR.read (fun w => But.refl [] w) ?_ fun w hS => ?_) ?_
        · go_simp
        · go_simp
        refine wpM_take (fun w => But.refl [] w) (fun x y z h k => h.trans k) (i := 8) (v := .int .i64 (k : Int)) rfl (by kernel_rfl) (by kernel_rfl) (by kernel_rfl) (fun _ _ _ h => h) (YieldsR.read (fun w => But.refl [] w) ?_ fun w hS => ?_) ?_
        · go_simp
        · go_simp
        refine wpM_take (fun w => But.refl [] w) (fun x y z h k => h.trans k) (i := 9) (v := .int .i64 (qb : Int)) rfl (by kernel_rfl) (by kernel_rfl) (by kernel_rfl) (fun _ _ _ h => h) (.inl ⟨?_, fun w hS => .inr ⟨_, _, ?_, (HQB.out w).mono ?_⟩⟩) ?_
        · go_simp
        · go_simp
        · rintro e wy ⟨rfl, rfl⟩; exact ⟨rfl, hS, But.refl [] _⟩
        refine wpM_take (fun w => But.refl [] w) (fun x y z h k => h.trans k) (i := 10) (v := .string t) rfl (by kernel_rfl) (by kernel_rfl) (by kernel_rfl) (fun _ _ _ h => h) (YieldsR.read (fun w => But.refl [] w) ?_ fun w hS => ?_) ?_
        · go_simp
        · go_simp
        refine wpM_take (fun w => But.refl [] w) (fun x y z h k => h.trans k) (i := 11) (v := .int .i64 (k : Int)) rfl (by kernel_rfl) (by kernel_rfl) (by kernel_rfl) (fun _ _ _ h => h) (YieldsR.read (fun w => But.refl [] w) ?_ fun w hS => ?_) ?_
        · go_simp
        · go_simp
        refine wpM_take (fun w => But.refl [] w) (fun x y z h k => h.trans k) (i := 12) (v := .int .i64 (n : Int)) rfl (by kernel_rfl) (by kernel_rfl) (by kernel_rfl) (fun _ _ _ h => h) (YieldsR.read (fun w => But.refl [] w) ?_ fun w hS => ?_) ?_
        · go_simp
        · go_simp
        refine wpM_take (fun w => But.refl [] w) (fun x y z h k => h.trans k) (i := 13) (v := .int .i64 ((k : Int) - (n : Int))) rfl (by kernel_rfl) (by kernel_rfl) (by kernel_rfl) (fun _ _ _ h => h) (YieldsR.read (fun w => But.refl [] w) ?_ fun w hS => ?_) ?_
        · go_simp
        · go_simp
        refine wpM_take (fun w => But.refl [] w) (fun x y z h k => h.trans k) (i := 14) (v := .int .i64 (qc : Int)) rfl (by kernel_rfl) (by kernel_rfl) (by kernel_rfl) (fun _ _ _ h => h) (.inl ⟨?_, fun w hS => .inr ⟨_, _, ?_, (HC.out w).mono ?_⟩⟩) ?_
        · go_simp
        · go_simp
        · rintro e wy ⟨rfl, rfl⟩; exact ⟨rfl, hS, But.refl [] _⟩
        refine wpM_take (fun w => But.refl [] w) (fun x y z h k => h.trans k) (i := 15) (v := .int .i64 (p : Int)) rfl (by kernel_rfl) (by kernel_rfl) (by kernel_rfl) (fun _ _ _ h => h) (.inl ⟨?_, fun w hS => .inr ⟨_, _, ?_, (HP.out w).mono ?_⟩⟩) ?_
        · go_simp
        · go_simp
        · rintro e wy ⟨rfl, rfl⟩; exact ⟨rfl, hS, But.refl [] _⟩
        refine wpM_take (fun w => But.refl [] w) (fun x y z h k => h.trans k) (i := 16) (v := .int .i64 ((b : Int) + (p : Int))) rfl (by kernel_rfl) (by kernel_rfl) (by kernel_rfl) (fun _ _ _ h => h) (YieldsR.read (fun w => But.refl [] w) ?_ fun w hS => ?_) ?_
        · go_simp
        · go_simp
        refine wpM_take (fun w => But.refl [] w) (fun x y z h k => h.trans k) (i := 17) (v := .int .u8 ((y.toNat : Nat) : Int)) rfl (by kernel_rfl) (by kernel_rfl) (by kernel_rfl) (fun _ _ _ h => h) (YieldsR.read (fun w => But.refl [] w) ?_ fun w hS => ?_) ?_
        · go_simp
        · go_simp
        refine wpM_one (i := 18) rfl (by kernel_rfl) fun w1 hR1 hS1 K' hK => ?_
        go_simp
        refine hK _ _ ⟨hS1.alloc _, ?_⟩
        clear hK K'
        have hI1 := Is.fresh w1 5 #[.int .u8 ((y.toNat : Nat) : Int)]
        have hO1 := HO.out.but (((But.refl [] wr).drew.trans hR1).alloc (.cells #[.int .u8 ((y.toNat : Nat) : Int)] 5))
        refine wpM_one (i := 19) rfl (by kernel_rfl) fun w2 hR2 hS2 K' hK => ?_
        refine step_append_f (w0 := w) w2 rfl _ _ rfl hi0 hz0 hz1 hz2 (.slice A L.length c) L (by rw [HLL.out]; rfl) (hO1.but hR2) hS2 y (by rfl) (hI1.but hR2 (by simp)) (by rw [HLL.out]; omega) ?_
        intro A2 c2 w3 M hM hO3 hB3
        refine hK _ _ ⟨hB3, ?_⟩
        clear hK K'
        refine wpM_take (fun w => But.refl [] w) (fun x y z h k => h.trans k) (i := 20) (v := .slice A2 M.length c2) rfl (by kernel_rfl) (by kernel_rfl) (by kernel_rfl) (fun _ _ _ h => h) (YieldsR.read (fun w => But.refl [] w) ?_ fun w hS => ?_) ?_
        · go_simp
        · go_simp
        refine ⟨by kernel_rfl, fun w4 hR4 hS4 => ?_⟩
        have HO4 := Lib.hid (hO3.but hR4)
        have HB4 := Lib.hid hS4
        have HM : Hid (M = undoF kind n (s.data.toList.take (k + 1)) t.data.toList) := Lib.hid (by rw [hM]; exact HN.out)
        clear hR4 hS4 hO3 hB3 hM hI1 hO1 hR1 hS1 hR2 hS2
        go_simp
        go_wp2
        go_roundw
        case rel => exact ⟨k + 1, M, by omega, by go_num, HM, HO4, HB4⟩
        case measure => simp [intOf]; omega
      · obtain ⟨i, g, ei, hik, rfl, hcell⟩ := ha1 (by omega)
        rw [ei] at HC
        have wi : IntKind.i64.wrap (i : Int) = (i : Int) := by rw [IntKind.wrap_i64]; omega
        have i1 : (0 : Int) ≤ (i : Int) := by omega
        have i2 : (i : Int) < (k : Int) := by omega
        clear ha0 ha1
        go_upto_region 11 with (fail)
        refine wp_region_m (S := fun v => But [] w v) (R := fun v v' => But [] v v') (fun w => But.refl [] w) (by kernel_rfl) (HB.out.drew) ?_
        refine wpM_take (fun w => But.refl [] w) (fun x y z h k => h.trans k) (i := 0) (v := .slice (some ⟨g, 0, none⟩) k c) rfl (by kernel_rfl) (by kernel_rfl) (by kernel_rfl) (fun _ _ _ h => h) (YieldsR.read (fun w => But.refl [] w) ?_ fun w hS => ?_) ?_
        · go_simp
        · go_simp
        refine wpM_take (fun w => But.refl [] w) (fun x y z h k => h.trans k) (i := 1) (v := .string s) rfl (by kernel_rfl) (by kernel_rfl) (by kernel_rfl) (fun _ _ _ h => h) (YieldsR.read (fun w => But.refl [] w) ?_ fun w hS => ?_) ?_
        · go_simp
        · go_simp
        refine wpM_take (fun w => But.refl [] w) (fun x y z h k => h.trans k) (i := 2) (v := .int .i64 (k : Int)) rfl (by kernel_rfl) (by kernel_rfl) (by kernel_rfl) (fun _ _ _ h => h) (YieldsR.read (fun w => But.refl [] w) ?_ fun w hS => ?_) ?_
        · go_simp
        · go_simp
        refine wpM_take (fun w => But.refl [] w) (fun x y z h k => h.trans k) (i := 3) (v := .int .u8 (b : Int)) rfl (by kernel_rfl) (by kernel_rfl) (by kernel_rfl) (fun _ _ _ h => h) (YieldsR.read (fun w => But.refl [] w) ?_ fun w hS => ?_) ?_
        · go_simp
        · go_simp
        refine wpM_take (fun w => But.refl [] w) (fun x y z h k => h.trans k) (i := 4) (v := .int .i64 (b : Int)) rfl (by kernel_rfl) (by kernel_rfl) (by kernel_rfl) (fun _ _ _ h => h) (YieldsR.read (fun w => But.refl [] w) ?_ fun w hS => ?_) ?_
        · go_simp
        · go_simp
        refine wpM_take (fun w => But.refl [] w) (fun x y z h k => h.trans k) (i := 5) (v := .int .i64 kind) rfl (by kernel_rfl) (by kernel_rfl) (by kernel_rfl) (fun _ _ _ h => h) (YieldsR.read (fun w => But.refl [] w) ?_ fun w hS => ?_) ?_
        · go_simp
        · go_simp
        refine wpM_take (fun w => But.refl [] w) (fun x y z h k => h.trans k) (i := 6) (v := .int .i64 (qa : Int)) rfl (by kernel_rfl) (by kernel_rfl) (by kernel_rfl) (fun _ _ _ h => h) (YieldsR.read (fun w => But.refl [] w) ?_ fun w hS => ?_) ?_
        · go_simp
        · go_simp
        refine wpM_take (fun w => But.refl [] w) (fun x y z h k => h.trans k) (i := 7) (v := .string t) rfl (by kernel_rfl) (by kernel_rfl) (by kernel_rfl) (fun _ _ _ h => h) (YieldsR.read (fun w => But.refl [] w) ?_ fun w hS => ?_) ?_
        · go_simp
        · go_simp
        refine wpM_take (fun w => But.refl [] w) (fun x y z h k => h.trans k) (i := 8) (v := .int .i64 (k : Int)) rfl (by kernel_rfl) (by kernel_rfl) (by kernel_rfl) (fun _ _ _ h => h) (YieldsR.read (fun w => But.refl [] w) ?_ fun w hS => ?_) ?_
        · go_simp
        · go_simp
        refine wpM_take (fun w => But.refl [] w) (fun x y z h k => h.trans k) (i := 9) (v := .int .i64 (qb : Int)) rfl (by kernel_rfl) (by kernel_rfl) (by kernel_rfl) (fun _ _ _ h => h) (.inl ⟨?_, fun w hS => .inr ⟨_, _, ?_, (HQB.out w).mono ?_⟩⟩) ?_
        · go_simp
        · go_simp
        · rintro e wy ⟨rfl, rfl⟩; exact ⟨rfl, hS, But.refl [] _⟩
        refine wpM_take (fun w => But.refl [] w) (fun x y z h k => h.trans k) (i := 10) (v := .string t) rfl (by kernel_rfl) (by kernel_rfl) (by kernel_rfl) (fun _ _ _ h => h) (YieldsR.read (fun w => But.refl [] w) ?_ fun w hS => ?_) ?_
        · go_simp
        · go_simp
        refine wpM_take (fun w => But.refl [] w) (fun x y z h k => h.trans k) (i := 11) (v := .int .i64 (k : Int)) rfl (by kernel_rfl) (by kernel_rfl) (by kernel_rfl) (fun _ _ _ h => h) (YieldsR.read (fun w => But.refl [] w) ?_ fun w hS => ?_) ?_
        · go_simp
        · go_simp
        refine wpM_take (fun w => But.refl [] w) (fun x y z h k => h.trans k) (i := 12) (v := .int .i64 (n : Int)) rfl (by kernel_rfl) (by kernel_rfl) (by kernel_rfl) (fun _ _ _ h => h) (YieldsR.read (fun w => But.refl [] w) ?_ fun w hS => ?_) ?_
        · go_simp
        · go_simp
        refine wpM_take (fun w => But.refl [] w) (fun x y z h k => h.trans k) (i := 13) (v := .int .i64 (i : Int)) rfl (by kernel_rfl) (by kernel_rfl) (by kernel_rfl) (fun _ _ _ h => h) (YieldsR.read (fun w => But.refl [] w) ?_ fun w hS => ?_) ?_
        · go_simp
        · go_simp
        refine wpM_take (fun w => But.refl [] w) (fun x y z h k => h.trans k) (i := 14) (v := .int .i64 (qc : Int)) rfl (by kernel_rfl) (by kernel_rfl) (by kernel_rfl) (fun _ _ _ h => h) (.inl ⟨?_, fun w hS => .inr ⟨_, _, ?_, (HC.out w).mono ?_⟩⟩) ?_
        · go_simp
        · go_simp
        · rintro e wy ⟨rfl, rfl⟩; exact ⟨rfl, hS, But.refl [] _⟩
        refine wpM_take (fun w => But.refl [] w) (fun x y z h k => h.trans k) (i := 15) (v := .int .i64 (p : Int)) rfl (by kernel_rfl) (by kernel_rfl) (by kernel_rfl) (fun _ _ _ h => h) (.inl ⟨?_, fun w hS => .inr ⟨_, _, ?_, (HP.out w).mono ?_⟩⟩) ?_
        · go_simp
        · go_simp
        · rintro e wy ⟨rfl, rfl⟩; exact ⟨rfl, hS, But.refl [] _⟩
        refine wpM_take (fun w => But.refl [] w) (fun x y z h k => h.trans k) (i := 16) (v := .int .i64 ((b : Int) + (p : Int))) rfl (by kernel_rfl) (by kernel_rfl) (by kernel_rfl) (fun _ _ _ h => h) (YieldsR.read (fun w => But.refl [] w) ?_ fun w hS => ?_) ?_
        · go_simp
        · go_simp
        refine wpM_take (fun w => But.refl [] w) (fun x y z h k => h.trans k) (i := 17) (v := .int .u8 ((y.toNat : Nat) : Int)) rfl (by kernel_rfl) (by kernel_rfl) (by kernel_rfl) (fun _ _ _ h => h) (YieldsR.read (fun w => But.refl [] w) ?_ fun w hS => ?_) ?_
        · go_simp
        · go_simp
        refine wpM_one (i := 18) rfl (by kernel_rfl) fun w1 hR1 hS1 K' hK => ?_
        go_simp
        refine hK _ _ ⟨hS1.alloc _, ?_⟩
        clear hK K'
        have hI1 := Is.fresh w1 5 #[.int .u8 ((y.toNat : Nat) : Int)]
        have hO1 := HO.out.but (((But.refl [] wr).drew.trans hR1).alloc (.cells #[.int .u8 ((y.toNat : Nat) : Int)] 5))
        refine wpM_one (i := 19) rfl (by kernel_rfl) fun w2 hR2 hS2 K' hK => ?_
        refine step_append_f (w0 := w) w2 rfl _ _ rfl hi0 hz0 hz1 hz2 (.slice (some ⟨g, 0, none⟩) L.length c) L (by rw [HLL.out]; rfl) (hO1.but hR2) hS2 y (by rfl) (hI1.but hR2 (by simp)) (by rw [HLL.out]; omega) ?_
        intro A2 c2 w3 M hM hO3 hB3
        refine hK _ _ ⟨hB3, ?_⟩
        clear hK K'
        refine wpM_take (fun w => But.refl [] w) (fun x y z h k => h.trans k) (i := 20) (v := .slice A2 M.length c2) rfl (by kernel_rfl) (by kernel_rfl) (by kernel_rfl) (fun _ _ _ h => h) (YieldsR.read (fun w => But.refl [] w) ?_ fun w hS => ?_) ?_
        · go_simp
        · go_simp
        refine ⟨by kernel_rfl, fun w4 hR4 hS4 => ?_⟩
        have HO4 := Lib.hid (hO3.but hR4)
        have HB4 := Lib.hid hS4
        have HM : Hid (M = undoF kind n (s.data.toList.take (k + 1)) t.data.toList) := Lib.hid (by rw [hM]; exact HN.out)
        clear hR4 hS4 hO3 hB3 hM hI1 hO1 hR1 hS1 hR2 hS2
        go_simp
        go_wp2
        go_roundw
        case rel => exact ⟨k + 1, M, by omega, by go_num, HM, HO4, HB4⟩
        case measure => simp [intOf]; omega
    · have HE : Hid (L = R) := Lib.hid (by rw [HL.out, HR.out, List.take_of_length_le]; rw [Array.length_toList]; show s.size ≤ k; omega)
      have hct := HO.out.text
      rw [HE.out] at hct
      go_wp2
      go_ret2
      exact ⟨rfl, HB.out⟩
end Go.Proofs.YtfiedoejdikcgaaDoor
set_option maxRecDepth 100000
set_option linter.unusedVariables false
namespace Go.Proofs.YtfiedoejdikcgaaDoor
set_option maxRecDepth 100000
open Go Go.RowKit
theorem ImS.butP {b0 b4 gp : Nat} {cs : Array Value} {v v' : World} (h : ImS b0 b4 cs v) (k : But [gp] v v') (h0 : b0 ∉ [gp]) (h4 : b4 ∉ [gp]) : ImS b0 b4 cs v' := ⟨h.1.but k h0, h.2.but k h4⟩
theorem img_ret {w W : World} {b4 : Nat} {tmps : Array Value} {er : Int} (hI : Is W b4 23 #[.int .i64 0, .int .i64 0, .string ⟨#[]⟩]) (hB : But [] w W) (hb : w.heap.size ≤ b4) (ht : tmps[4]? = some (.pointer (some ⟨b4, 0, none⟩))) (h5 : tmps[5]? = some (.int .i64 er)) (x y : Int) (s : ByteArray) {r1 : Int × Int × ByteArray} {r2 : Int} (hr1 : r1 = (x, y, s)) (hr2 : r2 = er) :
    bodyPost Tryd.prog Tryd.f12 (fun e w' => e = .returned (.tuple #[.agg #[.int .i64 r1.1, .int .i64 r1.2.1, .string r1.2.2], .int .i64 r2]) ∧ But [] w w') Exit.ret { tmps := tmps, defers := [] }
      (((W.setCell ⟨b4, 0, none⟩ (.int .i64 x)).setCell ⟨b4, 1, none⟩ (.int .i64 y)).setCell ⟨b4, 2, none⟩ (.string s)) := by
  subst hr1 hr2
  have h0 := hI.put 0 (.int .i64 x)
  have h1 := h0.put 1 (.int .i64 y)
  have h2 := h1.put 2 (.string s)
  have k0 := hB.setCell (p := ⟨b4, 0, none⟩) (.inr hb) (.int .i64 x)
  have k1 := k0.setCell (p := ⟨b4, 1, none⟩) (.inr hb) (.int .i64 y)
  have k2 := k1.setCell (p := ⟨b4, 2, none⟩) (.inr hb) (.string s)
  obtain ⟨V, hV⟩ : ∃ V, V = (((W.setCell ⟨b4, 0, none⟩ (.int .i64 x)).setCell ⟨b4, 1, none⟩ (.int .i64 y)).setCell ⟨b4, 2, none⟩ (.string s)) := ⟨_, rfl⟩
  rw [← hV] at h2 k2 ⊢
  clear h0 h1 k0 k1 hV
  have e0 := h2.cell 0
  have e1 := h2.cell 1
  have e2 := h2.cell 2
  refine bodyPost_ret (v := .tuple #[.agg #[.int .i64 x, .int .i64 y, .string s], .int .i64 r2]) ?_ rfl ⟨rfl, k2⟩
  simp [results, Tryd.results12, go_sem, e0, e1, e2, ht, h5]
end Go.Proofs.YtfiedoejdikcgaaDoor
