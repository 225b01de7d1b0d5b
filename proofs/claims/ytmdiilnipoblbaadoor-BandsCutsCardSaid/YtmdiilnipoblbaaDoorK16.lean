/- Several texts in one: BaM, ZlD, PxA, BaB, BaC, BaD, BbI (what BandsCuts, BandsManifest reach of them). -/
import Derived.Test.YtmdiilnipoblbaaDoorK01
import Derived.Test.YtmdiilnipoblbaaDoorK02
import Derived.Test.YtmdiilnipoblbaaDoorK08
import Derived.Test.YtmdiilnipoblbaaDoorK09
import Derived.Test.YtmdiilnipoblbaaDoorK11
import Derived.Test.YtmdiilnipoblbaaDoorK13
import Derived.ArgAppend
import Derived.Below
import Derived.BigQuiet
import Derived.BigRegion
import Derived.Deep.AppendLies
import Derived.Deep.Cut
import Derived.Deep.CutBlock
import Derived.Deep.CutRange
import Derived.Deep.DeepCutAuto
import Derived.Deep.Draws
import Derived.Deep.LoopGhost
import Derived.Deep.QuietTactic
import Derived.Deep.RegionLaw
import Derived.Deep.RegionWith
import Derived.Deep.Slices
import Derived.Handy
import Derived.Laws.BitsAllLaws
import Derived.Laws.BitsLemmas
import Derived.Laws.BytesArg
import Derived.Laws.Cells
import Derived.Laws.Externs
import Derived.Laws.IdiomStrings
import Derived.Laws.MakeOwn
import Derived.Laws.OwnMore
import Derived.Laws.Rows
import Derived.Laws.StructEq
import Derived.Laws.Tables
import Derived.Lib.AppendStr
import Derived.Lib.BufferWrite
import Derived.Lib.Hide
import Derived.Lib.UnsafeStr
import Derived.Maps.AppendAt
import Derived.OpenShut
import Derived.OrdersHeld
import Derived.OrdersIn
import Derived.Outline
import Derived.OwnWalk
import Derived.OwnWalkIn
import Derived.ProofKit
import Derived.RangeFuncCalls
import Derived.RegionTactic
import Derived.Shelf.LaysM
import Derived.Shelf.Small.Wraps
import Derived.Shelf.Strconv.Clone
import Derived.Shelf.Strings.Builder1
import Derived.Shelf.Strings.BuilderF
import Derived.Shelf.Strings.Prefix
import Derived.Shelf.Strings.Repeat
import Derived.Sort.CutIn
import Derived.TacticsInMore
import Derived.Test.YtmdiilnipoblbaaDoorChecked
import Derived.WalkKit
set_option maxRecDepth 100000
set_option linter.unusedVariables false
set_option linter.unusedVariables false
namespace Go.Proofs.YtmdiilnipoblbaaDoor
set_option maxRecDepth 100000
open Go
theorem size_le {w h i : Nat} {pix : List UInt8} (hp : pix.length = 8 * w * h) (hi : i < manyB h) : sizeB w h i ≤ (pix.drop (64 * w * i)).length := by
  have hb := band_len (w := w) hp hi
  unfold bandB at hb
  rw [← hb, List.length_take]
  exact Nat.min_le_right _ _
end Go.Proofs.YtmdiilnipoblbaaDoor
set_option maxRecDepth 100000
set_option linter.unusedVariables false
namespace Go.Proofs.YtmdiilnipoblbaaDoor
set_option maxRecDepth 100000
open Go Go.RowKit
set_option maxHeartbeats 1000000 in
theorem efour_any (w : World) {n : Nat} (hn : n < 4611686018427387904) :
    Calls Tryd.prog 29 #[.int .i64 (n : Int)] w fun e w' => e = .returned (.string (strL (fourL n))) ∧ But [] w w' := by
  obtain ⟨a, ha⟩ : ∃ a, a = n / 16777216 % 256 := ⟨_, rfl⟩
  obtain ⟨b, hb⟩ : ∃ a, a = n / 65536 % 256 := ⟨_, rfl⟩
  obtain ⟨c, hc⟩ : ∃ a, a = n / 256 % 256 := ⟨_, rfl⟩
  obtain ⟨d, hd⟩ : ∃ a, a = n % 256 := ⟨_, rfl⟩
  have b1 : IntKind.u8.wrap ((n : Int) / 16777216) = (a : Int) := by simp [IntKind.wrap_u8]; omega
  have b2 : IntKind.u8.wrap ((n : Int) / 65536) = (b : Int) := by simp [IntKind.wrap_u8]; omega
  have b3 : IntKind.u8.wrap ((n : Int) / 256) = (c : Int) := by simp [IntKind.wrap_u8]; omega
  have b4 : IntKind.u8.wrap (n : Int) = (d : Int) := by simp [IntKind.wrap_u8]; omega
  have kc := fun W : World => conv_fourZ W ha hb hc hd
  have HB := Lib.hid ((But.refl [] w).alloc (.cells #[.int .u8 a, .int .u8 b, .int .u8 c, .int .u8 d] 5))
  clear ha hb hc hd
  go_enter Tryd.func29, Tryd.ntmps29
  go_wp2
  go_ret
  exact ⟨rfl, HB.out⟩
end Go.Proofs.YtmdiilnipoblbaaDoor
set_option maxRecDepth 100000
set_option linter.unusedVariables false
namespace Go.Proofs.YtmdiilnipoblbaaDoor
set_option maxRecDepth 100000
open Go Go.RowKit
set_option maxHeartbeats 1000000 in
theorem echeck_any (w : World) {a b : Int} {pix : ByteArray} (hp : pix.size ≤ 140737488351232) :
    Calls Tryd.prog 25 #[.agg #[.int .i64 a, .int .i64 b, .string pix]] w fun e w' => e = .returned (.int .i64 (checkA a b pix)) ∧ But [] w w' := by
  have HB := Lib.hid ((But.refl [] w).alloc (.cells #[.int .i64 a, .int .i64 b, .string pix] 23))
  have hI := Is.fresh w 23 #[.int .i64 a, .int .i64 b, .string pix]
  obtain ⟨r, hr⟩ : ∃ r, r = rightH a b 16 6 0 := ⟨_, rfl⟩
  have HE : Hid (∀ W, Calls Tryd.prog 35 #[.agg #[.int .i64 a, .int .i64 b, .int .i64 16, .int .i64 6, .int .i64 0]] W fun e w' => e = .returned (.int .i64 r) ∧ But [] W w') := Lib.hid fun W => by rw [hr]; exact eright_h W a b 16 6 0
  have HC : Hid (∀ v, But [] (w.alloc (.cells #[.int .i64 a, .int .i64 b, .string pix] 23)) v → v.cell? ⟨w.heap.size, 0, none⟩ = some (.int .i64 a) ∧ v.cell? ⟨w.heap.size, 1, none⟩ = some (.int .i64 b) ∧ v.cell? ⟨w.heap.size, 2, none⟩ = some (.string pix) ∧ w.heap.size < v.heap.size) := Lib.hid fun v hv => by
    have hh := hI.but hv (by simp)
    exact ⟨hh.cell 0, hh.cell 1, hh.cell 2, hh.lt⟩
  obtain ⟨c0, c1, c2, hgl⟩ := HC.out _ (But.refl [] _)
  by_cases h0 : r = 0
  · have hright := hr.symm.trans h0
    obtain ⟨W, H, D, C, R⟩ := right_form hright
    obtain ⟨x, hx⟩ : ∃ x, x = 8 * (W * H) := ⟨_, rfl⟩
    have hxl : x ≤ 32768 := by have := R.area; omega
    obtain ⟨y, hy⟩ : ∃ y, y = 8 * W := ⟨_, rfl⟩
    have e1 : 8 * a = (y : Int) := by rw [R.wa, hy]; omega
    have e2 : (y : Int) * b = (x : Int) := by
      rw [R.hb, hy, hx, ← Int.natCast_mul, Nat.mul_assoc]
    have e3 : 8 * a * b = (x : Int) := by rw [e1, e2]
    have t1 := wrapI_in (show y < 1000000000000000 by have := R.w2; omega)
    have t2 := wrapI_in (show x < 1000000000000000 by omega)
    subst h0
    by_cases hs : pix.size = x
    · have HR : Hid (checkA a b pix = 0) := Lib.hid (by unfold checkA; rw [if_neg (by rw [← hr]; decide), e3, if_neg (by rw [hs]; exact fun h => h rfl)])
      rw [HR.out]
      have q1 : ((x : Int) != (x : Int)) = false := by simp
      clear hI hr hright R hx hy e3
      go_enter Tryd.func25, Tryd.ntmps25
      go_wp2_with fail
      refine (HE.out _).mono ?_
      rintro e w1 ⟨rfl, hB⟩
      have HB1 := Lib.hid hB
      clear hB c0 c1 c2 hgl
      obtain ⟨c0, c1, c2, hgl⟩ := HC.out _ HB1.out
      go_wp2
      go_ret
      exact ⟨rfl, HB.out.trans HB1.out⟩
    · have HR : Hid (checkA a b pix = 24) := Lib.hid (by unfold checkA; rw [if_neg (by rw [← hr]; decide), e3, if_pos (by omega)])
      rw [HR.out]
      have q1 : ((pix.size : Int) != (x : Int)) = true := by simp; omega
      have q2 : ¬ (pix.size : Int) = (x : Int) := by omega
      clear hI hr hright R hx hy e3
      go_enter Tryd.func25, Tryd.ntmps25
      go_wp2_with fail
      refine (HE.out _).mono ?_
      rintro e w1 ⟨rfl, hB⟩
      have HB1 := Lib.hid hB
      clear hB c0 c1 c2 hgl
      obtain ⟨c0, c1, c2, hgl⟩ := HC.out _ HB1.out
      go_wp2
      go_ret
      exact ⟨rfl, HB.out.trans HB1.out⟩
  · have HR : Hid (checkA a b pix = r) := Lib.hid (by unfold checkA; rw [← hr, if_pos h0])
    rw [HR.out]
    have q1 : (r != 0) = true := by simpa using h0
    clear hI hr
    go_enter Tryd.func25, Tryd.ntmps25
    go_wp2_with fail
    refine (HE.out _).mono ?_
    rintro e w1 ⟨rfl, hB⟩
    have HB1 := Lib.hid hB
    clear hB
    go_wp2
    go_ret
    exact ⟨rfl, HB.out.trans HB1.out⟩
end Go.Proofs.YtmdiilnipoblbaaDoor
set_option maxRecDepth 100000
set_option linter.unusedVariables false
namespace Go.Proofs.YtmdiilnipoblbaaDoor
set_option maxRecDepth 100000
open Go Go.RowKit
theorem cutU_next (W : Nat) (s : List UInt8) (k : Nat) : cutU W s (k + 1) = cutU W s k ++ [strL (bandB W k s)] := by unfold cutU; rw [List.range_succ, List.map_append]; rfl
set_option maxHeartbeats 1000000 in
theorem ecut_any (w : World) {W H : Nat} {s : List UInt8} (hr : rightH (W : Int) (H : Int) 16 6 0 = 0) (hp : s.length = 8 * W * H) :
    Calls Tryd.prog 10 #[.agg #[.int .i64 W, .int .i64 H, .string (strL s)]] w fun e w' => ∃ b v, e = .returned (.tuple #[v, .int .i64 0]) ∧ OwnSt w' b v ((bandsB W H s).map strL) ∧ But [] w w' := by
  have hWH : W ≤ 1024 ∧ H ≤ 1024 := by
    obtain ⟨W', H', D, C, R⟩ := right_form hr
    have := R.wa; have := R.hb; have := R.w2; have := R.h2
    omega
  have hck : checkA (W : Int) (H : Int) (strL s) = 0 := by
    unfold checkA
    rw [if_neg (by rw [hr]; decide), if_neg]
    rw [strL_size, hp]
    simp
  have hsz : s.length ≤ 8388608 := by
    rw [hp]
    exact Nat.mul_le_mul (by omega : 8 * W ≤ 8192) hWH.2
  have HA := Lib.hid ((But.refl [] w).alloc (.cells #[.int .i64 W, .int .i64 H, .string (strL s)] 23))
  have hI := Is.fresh w 23 #[.int .i64 W, .int .i64 H, .string (strL s)]
  have HE : Hid (∀ v, Calls Tryd.prog 25 #[.agg #[.int .i64 W, .int .i64 H, .string (strL s)]] v fun e w' => e = .returned (.int .i64 0) ∧ But [] v w') := Lib.hid fun v => by
    have h := echeck_any v (a := W) (b := H) (pix := strL s) (by rw [strL_size]; omega)
    rw [hck] at h
    exact h
  have HC : Hid (∀ v, But [] (w.alloc (.cells #[.int .i64 W, .int .i64 H, .string (strL s)] 23)) v → v.cell? ⟨w.heap.size, 0, none⟩ = some (.int .i64 W) ∧ v.cell? ⟨w.heap.size, 1, none⟩ = some (.int .i64 H) ∧ v.cell? ⟨w.heap.size, 2, none⟩ = some (.string (strL s)) ∧ w.heap.size < v.heap.size) := Lib.hid fun v hv => by
    have hh := hI.but hv (by simp)
    exact ⟨hh.cell 0, hh.cell 1, hh.cell 2, hh.lt⟩
  obtain ⟨m, hm⟩ : ∃ m, m = manyB H := ⟨_, rfl⟩
  have hml : m ≤ 128 := by rw [hm]; unfold manyB; omega
  have HM : Hid (∀ v, Calls Tryd.prog 26 #[.int .i64 H] v fun e w' => e = .returned (.int .i64 (m : Nat)) ∧ v = w') := Lib.hid fun v => by rw [hm]; exact (emanyB_any v (by omega)).mono fun _ _ h => ⟨h.1, h.2.symm⟩
  have HS : Hid (∀ i, i < m → ∀ v, Calls Tryd.prog 27 #[.int .i64 W, .int .i64 H, .int .i64 i] v fun e w' => e = .returned (.int .i64 (sizeB W H i : Nat)) ∧ v = w') := Lib.hid fun i hi v => (esizeB_any v hWH.1 hWH.2 (by rw [← hm]; exact hi)).mono fun _ _ h => ⟨h.1, h.2.symm⟩
  have HP : Hid (s.length = 8 * W * H) := Lib.hid hp
  have HMM := Lib.hid hm
  obtain ⟨c0, c1, c2, hgl⟩ := HC.out _ (But.refl [] _)
  obtain ⟨L9, hL9⟩ : ∃ z, z = (bandsB W H s).map strL := ⟨_, rfl⟩
  have HL9 : Hid (cutU W s m = L9) := Lib.hid (by rw [hL9, hm]; exact cutU_all W H s)
  rw [← hL9]
  clear hI hr hp hck hsz hWH hm hL9
  go_enter Tryd.func10, Tryd.ntmps10
  go_wp2_with fail
  refine (HE.out _).mono ?_
  rintro e w1 ⟨rfl, hB⟩
  have HB1 := Lib.hid hB
  clear hB c0 c1 c2 hgl
  obtain ⟨c0, c1, c2, hgl⟩ := HC.out _ HB1.out
  go_wp2
  clear c0 c1 c2 hgl
  go_loopw [5, 6, 7] (fun ov sv iv wr => ∃ i : Nat, i ≤ m ∧ iv = .int .i64 i ∧ sv = .string (strL (s.drop (64 * W * i))) ∧ Hid (OwnSt wr w1.heap.size ov (cutU W s i)) ∧ Hid (But [] w1 wr)) (fun _ _ iv _ => m - (intOf iv).toNat)
  case atStart => exact ⟨0, Nat.zero_le _, rfl, by rw [Nat.mul_zero, List.drop_zero], Lib.hid (OwnSt.nil _ _), Lib.hid (But.refl [] _)⟩
  case round =>
    obtain ⟨i, hi, rfl, rfl, HO, HB⟩ := hrel
    obtain ⟨c0, c1, c2, hgl⟩ := HC.out _ (HB1.out.trans HB.out)
    by_cases hlt : i < m
    · have HSi : Hid (∀ v, Calls Tryd.prog 27 #[.int .i64 W, .int .i64 H, .int .i64 i] v fun e w' => e = .returned (.int .i64 (sizeB W H i : Nat)) ∧ v = w') := Lib.hid (HS.out i hlt)
      have hsl := size_le HP.out (show i < manyB H by rw [← HMM.out]; exact hlt)
      have k1 : ∀ v, (Instr.slice 9 (.string (strL (s.drop (64 * W * i)))) none (some (.int .i64 (sizeB W H i : Nat))) none).run Tryd.prog v = .ok (.string (strL (bandB W i s))) v := fun v => by
        rw [cutB_to _ v hsl, band_take HP.out (show i < manyB H by rw [← HMM.out]; exact hlt)]
      have k2 : ∀ v, (Instr.slice 9 (.string (strL (s.drop (64 * W * i)))) (some (.int .i64 (sizeB W H i : Nat))) none none).run Tryd.prog v = .ok (.string (strL (s.drop (64 * W * (i + 1))))) v := fun v => by
        rw [cutB_from _ v hsl, band_drop HP.out (show i < manyB H by rw [← HMM.out]; exact hlt)]
      obtain ⟨L, hL⟩ : ∃ z, z = cutU W s i := ⟨_, rfl⟩
      have hlen : L.length = i := by rw [hL, cutU_len]
      have HLE := Lib.hid hlen
      have HN : Hid (cutU W s (i + 1) = L ++ [strL (bandB W i s)]) := Lib.hid (by rw [hL, cutU_next])
      rw [← hL] at HO
      obtain ⟨b, hb⟩ : ∃ z, z = strL (bandB W i s) := ⟨_, rfl⟩
      obtain ⟨t, ht⟩ : ∃ z, z = strL (s.drop (64 * W * i)) := ⟨_, rfl⟩
      obtain ⟨t2, ht2⟩ : ∃ z, z = strL (s.drop (64 * W * (i + 1))) := ⟨_, rfl⟩
      have HT2 := Lib.hid ht2
      obtain ⟨n, hn⟩ : ∃ z, z = sizeB W H i := ⟨_, rfl⟩
      rw [← hb] at HN
      simp only [← hb, ← ht, ← ht2, ← hn] at k1 k2 HSi ⊢
      obtain ⟨A0, cp0, rfl, _⟩ := HO.out.shape
      have i1 : (i : Int) < (m : Int) := by omega
      clear hb ht ht2 hn hL hlen hsl
      have HLB : Hid (L.length < 1000000) := Lib.hid (by rw [HLE.out]; omega)
      go_wp2_with (first
        | (refine (HM.out _).mono ?_; rintro e wz ⟨rfl, rfl⟩)
        | (refine (HSi.out _).mono ?_; rintro e wz ⟨rfl, rfl⟩)
        | (at_builtin; refine wpList_append_st (w0 := w1) _ rfl _ _ rfl (.slice A0 L.length cp0) L.length L rfl rfl (HO.out.but ((But.refl [] _).alloc _)) (HB.out.alloc _) b rfl (Is.fresh _ _ _) HLB.out ?_; intro A9 c9 w9 _ HO9 HB9))
      have HO8 : Hid (OwnSt w9 w1.heap.size (.slice A9 (L.length + 1) c9) (cutU W s (i + 1))) := Lib.hid (by rw [HN.out]; exact HO9.out)
      clear HO9 HN
      go_roundw
      case rel => exact ⟨i + 1, by omega, by go_num, by rw [HT2.out], HO8, HB9⟩
      case measure => simp [intOf] <;> omega
    · obtain rfl : m = i := by omega
      rw [HL9.out] at HO
      have i1 : ¬ (m : Int) < (m : Int) := by omega
      go_wp2_with (first | (refine (HM.out _).mono ?_; rintro e wz ⟨rfl, rfl⟩) | fail)
      go_ret2
      exact ⟨_, _, rfl, HO.out, (HA.out.trans HB1.out).trans HB.out⟩
end Go.Proofs.YtmdiilnipoblbaaDoor
set_option maxRecDepth 100000
set_option linter.unusedVariables false
namespace Go.Proofs.YtmdiilnipoblbaaDoor
set_option maxRecDepth 100000
open Go Go.RowKit
set_option maxHeartbeats 1000000 in
theorem emanifest_any (HSUM : ∀ (v : World) (x : ByteArray), x.size ≤ 100000000 → Calls Tryd.prog 30 #[.string x] v fun e w' => e = .returned (.string (strL (shaT x.data.toList))) ∧ But [] v w')
    (w : World) {W H : Nat} {s : List UInt8} (hr : rightH (W : Int) (H : Int) 16 6 0 = 0) (hp : s.length = 8 * W * H) :
    Calls Tryd.prog 12 #[.agg #[.int .i64 W, .int .i64 H, .string (strL s)]] w fun e w' => e = .returned (.tuple #[.string (strL (manB W H s)), .int .i64 0]) ∧ But [] w w' := by
  have hWH : W ≤ 1024 ∧ H ≤ 1024 := by
    obtain ⟨W', H', D, C, R⟩ := right_form hr
    have := R.wa; have := R.hb; have := R.w2; have := R.h2
    omega
  have HA := Lib.hid ((But.refl [] w).alloc (.cells #[.int .i64 W, .int .i64 H, .string (strL s)] 23))
  have hI := Is.fresh w 23 #[.int .i64 W, .int .i64 H, .string (strL s)]
  obtain ⟨m, hm⟩ : ∃ m, m = manyB H := ⟨_, rfl⟩
  have hml : m ≤ 128 := by rw [hm]; unfold manyB; omega
  have HE : Hid (∀ v, Calls Tryd.prog 10 #[.agg #[.int .i64 W, .int .i64 H, .string (strL s)]] v fun e w' => ∃ b u, e = .returned (.tuple #[u, .int .i64 0]) ∧ OwnSt w' b u (cutU W s m) ∧ But [] v w') := Lib.hid fun v => by rw [hm, cutU_all]; exact ecut_any v hr hp
  have HC : Hid (∀ v, But [] (w.alloc (.cells #[.int .i64 W, .int .i64 H, .string (strL s)] 23)) v → v.cell? ⟨w.heap.size, 0, none⟩ = some (.int .i64 W) ∧ v.cell? ⟨w.heap.size, 1, none⟩ = some (.int .i64 H) ∧ v.cell? ⟨w.heap.size, 2, none⟩ = some (.string (strL s)) ∧ w.heap.size < v.heap.size) := Lib.hid fun v hv => by
    have hh := hI.but hv (by simp)
    exact ⟨hh.cell 0, hh.cell 1, hh.cell 2, hh.lt⟩
  have HW4 : Hid (∀ v, Calls Tryd.prog 29 #[.int .i64 W] v fun e w' => e = .returned (.string (strL (fourL W))) ∧ But [] v w') := Lib.hid fun v => efour_any v (by omega)
  have HH4 : Hid (∀ v, Calls Tryd.prog 29 #[.int .i64 H] v fun e w' => e = .returned (.string (strL (fourL H))) ∧ But [] v w') := Lib.hid fun v => efour_any v (by omega)
  have HB65 : Hid (∀ i, i < m → (bandB W i s).length ≤ 65536) := Lib.hid fun i hi => by
    rw [band_len hp (by rw [← hm]; exact hi)]
    unfold sizeB
    exact Nat.mul_le_mul (by omega : 8 * W ≤ 8192) (Nat.min_le_left 8 _)
  have HSM : Hid (∀ i, i < m → ∀ v, Calls Tryd.prog 30 #[.string (strL (bandB W i s))] v fun e w' => e = .returned (.string (strL (shaT (bandB W i s)))) ∧ But [] v w') := Lib.hid fun i hi v => by
    have h := HSUM v (strL (bandB W i s)) (by rw [strL_size]; have := HB65.out i hi; omega)
    rw [strL_list] at h
    exact h
  have HM0 : Hid (strL (fourL W) ++ strL (fourL H) = manU W H s 0) := Lib.hid (by unfold manU; rw [← strL_append]; simp)
  have HM9 : Hid (manU W H s m = strL (manB W H s)) := Lib.hid (by rw [hm]; exact manU_all W H s)
  obtain ⟨R9, hR9⟩ : ∃ z, z = strL (manB W H s) := ⟨_, rfl⟩
  rw [← hR9] at HM9 ⊢
  obtain ⟨fw, hfw⟩ : ∃ z, z = strL (fourL W) := ⟨_, rfl⟩
  obtain ⟨fh, hfh⟩ : ∃ z, z = strL (fourL H) := ⟨_, rfl⟩
  have hf8 : fw.size + fh.size ≤ 9223372036854775807 := by rw [hfw, hfh, strL_size, strL_size, fourL_length, fourL_length]; decide
  rw [← hfw] at HM0 HW4
  rw [← hfh] at HM0 HH4
  obtain ⟨c0, c1, c2, hgl⟩ := HC.out _ (But.refl [] _)
  clear hI hr hp hWH hm HSUM hfw hfh hR9
  go_enter Tryd.func12, Tryd.ntmps12
  go_wp2_with fail
  refine (HE.out _).mono ?_
  rintro e w1 ⟨bs, u, rfl, hO, hB⟩
  have HB1 := Lib.hid hB
  have HO1 := Lib.hid hO
  clear hO hB c0 c1 c2 hgl
  obtain ⟨A0, cp0, rfl, _⟩ := HO1.out.shape
  obtain ⟨n, hn⟩ : ∃ z, z = (cutU W s m).length := ⟨_, rfl⟩
  obtain rfl : n = m := by rw [hn, cutU_len]
  rw [← hn] at HO1 ⊢
  clear hn
  obtain ⟨c0, c1, c2, hgl⟩ := HC.out _ HB1.out
  go_upto_region 4 with (fail)
  refine wp_region_m (S := fun v => But [] w1 v) (R := fun v v' => But [] v v') (fun w => But.refl [] w) (by kernel_rfl) ((But.refl [] w1).drew) ?_
  refine rdk 0 (.pointer (some ⟨w.heap.size, 0, none⟩)) ?_
  refine rdq 1 (.int .i64 (W : Nat)) (fun w' hS => ?_) ?_
  · have y := (HC.out w' (HB1.out.trans hS)).1; go_simp
  refine wpM_take (fun w => But.refl [] w) (fun x y z h k => h.trans k) (i := 2) (v := .string fw) rfl (by kernel_rfl) (by kernel_rfl) (by kernel_rfl) (fun _ _ _ h => h) (.inl ⟨?_, fun w hS => .inr ⟨_, _, ?_, (HW4.out w).mono ?_⟩⟩) ?_
  · go_simp
  · go_simp
  · rintro e wy ⟨rfl, hB⟩; exact ⟨rfl, hS.trans hB, hB⟩
  refine rdk 3 (.pointer (some ⟨w.heap.size, 1, none⟩)) ?_
  refine rdq 4 (.int .i64 (H : Nat)) (fun w' hS => ?_) ?_
  · have y := (HC.out w' (HB1.out.trans hS)).2.1; go_simp
  refine wpM_take (fun w => But.refl [] w) (fun x y z h k => h.trans k) (i := 5) (v := .string fh) rfl (by kernel_rfl) (by kernel_rfl) (by kernel_rfl) (fun _ _ _ h => h) (.inl ⟨?_, fun w hS => .inr ⟨_, _, ?_, (HH4.out w).mono ?_⟩⟩) ?_
  · go_simp
  · go_simp
  · rintro e wy ⟨rfl, hB⟩; exact ⟨rfl, hS.trans hB, hB⟩
  refine rdk 6 (.string (fw ++ fh)) ?_
  refine rdk 7 (.string (fw ++ fh)) ?_
  refine ⟨by kernel_rfl, fun w8 hR8 hS8 => ?_⟩
  have HB8 := Lib.hid hS8
  clear hR8 hS8 c0 c1 c2 hgl
  rw [HM0.out]
  go_simp
  go_wp2
  go_loopw [6, 7] (fun ov iv wr => ∃ i : Nat, i ≤ n ∧ iv = .int .i64 i ∧ ov = .string (manU W H s i) ∧ Hid (But [] w1 wr)) (fun _ iv _ => n - (intOf iv).toNat)
  case atStart => exact ⟨0, Nat.zero_le _, rfl, rfl, HB8⟩
  case round =>
    obtain ⟨i, hi, rfl, rfl, HB⟩ := hrel
    by_cases hlt : i < n
    · have HSi := Lib.hid (HSM.out i hlt)
      have HN := Lib.hid (manU_next W H s i)
      obtain ⟨g, rfl, hg, k0⟩ := (HO1.out.but HB.out).at (cutU_at hlt)
      obtain ⟨x, hx⟩ : ∃ z, z = strL (bandB W i s) := ⟨_, rfl⟩
      obtain ⟨y, hy⟩ : ∃ z, z = strL (shaT (bandB W i s)) := ⟨_, rfl⟩
      obtain ⟨o, ho⟩ : ∃ z, z = manU W H s i := ⟨_, rfl⟩
      have hoy : o.size + y.size ≤ 9223372036854775807 := by rw [ho, hy, manU_size, strL_size, shaT_length]; omega
      rw [← hx] at k0 HSi
      rw [← hy] at HSi HN
      rw [← ho] at HN ⊢
      have i0 : (0 : Int) ≤ (i : Int) := by omega
      have i1 : (i : Int) < (n : Int) := by omega
      clear hx hy ho
      go_wp2_with (refine (HSi.out _).mono ?_; rintro e wz ⟨rfl, hBz⟩)
      go_roundw
      case rel => exact ⟨i + 1, by omega, by go_num, by rw [HN.out], Lib.hid (HB.out.trans hBz)⟩
      case measure => simp [intOf] <;> omega
    · obtain rfl : n = i := by omega
      have i1 : ¬ (n : Int) < (n : Int) := by omega
      rw [HM9.out]
      go_wp2
      go_ret2
      exact ⟨rfl, (HA.out.trans HB1.out).trans HB.out⟩
end Go.Proofs.YtmdiilnipoblbaaDoor
set_option maxRecDepth 100000
set_option linter.unusedVariables false
namespace Go.Proofs.YtmdiilnipoblbaaDoor
set_option maxRecDepth 100000
open Go Go.RowKit
set_option maxHeartbeats 1000000 in
theorem ecut_bad (w : World) {a b : Int} {pix : ByteArray} (hp : pix.size ≤ 140737488351232) (h : checkA a b pix ≠ 0) :
    Calls Tryd.prog 10 #[.agg #[.int .i64 a, .int .i64 b, .string pix]] w fun e w' => e = .returned (.tuple #[.slice none 0 0, .int .i64 (checkA a b pix)]) ∧ But [] w w' := by
  have HA := Lib.hid ((But.refl [] w).alloc (.cells #[.int .i64 a, .int .i64 b, .string pix] 23))
  have hI := Is.fresh w 23 #[.int .i64 a, .int .i64 b, .string pix]
  obtain ⟨c, hc⟩ : ∃ c, c = checkA a b pix := ⟨_, rfl⟩
  have HE : Hid (∀ v, Calls Tryd.prog 25 #[.agg #[.int .i64 a, .int .i64 b, .string pix]] v fun e w' => e = .returned (.int .i64 c) ∧ But [] v w') := Lib.hid fun v => by rw [hc]; exact echeck_any v hp
  rw [← hc] at h ⊢
  have q1 : (c != 0) = true := by simpa using h
  obtain ⟨c0, c1, c2, hgl⟩ : _ ∧ _ ∧ _ ∧ _ := ⟨hI.cell 0, hI.cell 1, hI.cell 2, hI.lt⟩
  clear hI hc
  go_enter Tryd.func10, Tryd.ntmps10
  go_wp2_with fail
  refine (HE.out _).mono ?_
  rintro e w1 ⟨rfl, hB⟩
  have HB1 := Lib.hid hB
  clear hB c0 c1 c2 hgl
  go_wp2
  go_ret2
  exact ⟨rfl, HA.out.trans HB1.out⟩
set_option maxHeartbeats 1000000 in
theorem emanifest_bad (w : World) {a b : Int} {pix : ByteArray} (hp : pix.size ≤ 140737488351232) (h : checkA a b pix ≠ 0) :
    Calls Tryd.prog 12 #[.agg #[.int .i64 a, .int .i64 b, .string pix]] w fun e w' => e = .returned (.tuple #[.string ByteArray.empty, .int .i64 (checkA a b pix)]) ∧ But [] w w' := by
  have HA := Lib.hid ((But.refl [] w).alloc (.cells #[.int .i64 a, .int .i64 b, .string pix] 23))
  have hI := Is.fresh w 23 #[.int .i64 a, .int .i64 b, .string pix]
  obtain ⟨c, hc⟩ : ∃ c, c = checkA a b pix := ⟨_, rfl⟩
  have HE : Hid (∀ v, Calls Tryd.prog 10 #[.agg #[.int .i64 a, .int .i64 b, .string pix]] v fun e w' => e = .returned (.tuple #[.slice none 0 0, .int .i64 c]) ∧ But [] v w') := Lib.hid fun v => by rw [hc]; exact ecut_bad v hp h
  rw [← hc] at h ⊢
  have q1 : (c != 0) = true := by simpa using h
  obtain ⟨c0, c1, c2, hgl⟩ : _ ∧ _ ∧ _ ∧ _ := ⟨hI.cell 0, hI.cell 1, hI.cell 2, hI.lt⟩
  clear hI hc
  go_enter Tryd.func12, Tryd.ntmps12
  go_wp2_with fail
  refine (HE.out _).mono ?_
  rintro e w1 ⟨rfl, hB⟩
  have HB1 := Lib.hid hB
  clear hB c0 c1 c2 hgl
  go_wp2
  go_ret2
  exact ⟨rfl, HA.out.trans HB1.out⟩
end Go.Proofs.YtmdiilnipoblbaaDoor
set_option maxRecDepth 100000
set_option linter.unusedVariables false
namespace Go.Proofs.YtmdiilnipoblbaaDoor
set_option maxRecDepth 100000
open Go Go.RowKit
theorem emanifest_all (w : World) {a b : Int} {pix : ByteArray} (hp : pix.size ≤ 140737488351232) :
    Calls Tryd.prog 12 #[.agg #[.int .i64 a, .int .i64 b, .string pix]] w fun e w' => e = .returned (.tuple #[.string (manA a b pix).1, .int .i64 (manA a b pix).2]) ∧ But [] w w' := by
  by_cases h : checkA a b pix = 0
  · obtain ⟨W, H, rfl, rfl, hr, hl⟩ := check_form15 h
    have e := emanifest_any (fun v x hx => esum_any v x hx) w hr hl
    rw [strL_of] at e
    unfold manA
    rw [if_pos h, Int.toNat_natCast, Int.toNat_natCast]
    exact e
  · unfold manA
    rw [if_neg h]
    exact emanifest_bad w hp h
end Go.Proofs.YtmdiilnipoblbaaDoor
