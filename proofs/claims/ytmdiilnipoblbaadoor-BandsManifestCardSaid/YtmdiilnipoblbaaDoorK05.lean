/- Several texts in one: HaS, BbD, BbG, GlobK (what BandsApart, BandsCuts, BandsJoins, BandsManifest, BandsNames, BandsReads reach of them). -/
import Derived.Test.YtmdiilnipoblbaaDoorK01
import Derived.Test.YtmdiilnipoblbaaDoorK02
import Derived.Test.YtmdiilnipoblbaaDoorK03
import Derived.Test.YtmdiilnipoblbaaDoorK04
import Derived.ArgAppend
import Derived.Below
import Derived.BigQuiet
import Derived.BigRegion
import Derived.Deep.AppendLies
import Derived.Deep.Cut
import Derived.Deep.CutBlock
import Derived.Deep.CutRange
import Derived.Deep.DeepCutAuto
import Derived.Deep.Draws
import Derived.Deep.LoopGhost
import Derived.Deep.QuietTactic
import Derived.Deep.RegionLaw
import Derived.Deep.RegionWith
import Derived.Deep.Slices
import Derived.Handy
import Derived.LaidMore
import Derived.Laws.BitsAllLaws
import Derived.Laws.BitsLemmas
import Derived.Laws.BytesArg
import Derived.Laws.Cells
import Derived.Laws.Externs
import Derived.Laws.IdiomStrings
import Derived.Laws.MakeOwn
import Derived.Laws.OwnMore
import Derived.Laws.Rows
import Derived.Laws.StructEq
import Derived.Laws.Tables
import Derived.Lib.AppendStr
import Derived.Lib.BufferWrite
import Derived.Lib.Hide
import Derived.Lib.UnsafeStr
import Derived.Maps.AppendAt
import Derived.OpenShut
import Derived.OrdersHeld
import Derived.OrdersIn
import Derived.Outline
import Derived.OwnWalk
import Derived.OwnWalkIn
import Derived.ProofKit
import Derived.RangeFuncCalls
import Derived.RegionTactic
import Derived.Shelf.LaysM
import Derived.Shelf.Small.Wraps
import Derived.Shelf.Strconv.Clone
import Derived.Shelf.Strings.Builder1
import Derived.Shelf.Strings.BuilderF
import Derived.Shelf.Strings.Prefix
import Derived.Shelf.Strings.Repeat
import Derived.Sort.CutIn
import Derived.Stop.Joined
import Derived.TacticsInMore
import Derived.Test.YtmdiilnipoblbaaDoorChecked
import Derived.Test.YtmdiilnipoblbaaDoorRows
import Derived.WalkKit
set_option maxRecDepth 100000
set_option linter.unusedVariables false
set_option maxRecDepth 100000
set_option linter.unusedVariables false
namespace Go.Proofs.YtmdiilnipoblbaaDoor
set_option maxRecDepth 100000
open Go Go.RowKit
theorem but_belowH {w w' : World} (h : But [] w w') : Below w.heap.size w w' := ⟨h.os, h.tape, h.output, h.size, fun k hk => h.block k hk (by simp)⟩
theorem strL_ofH (s : ByteArray) : strL s.data.toList = s := strL_of s
theorem psum_str (w : World) (s : ByteArray) (hs : s.size ≤ 100000000) (hG : GK w) : Calls Tryd.prog 21 #[.string s] w fun e w' => e = .returned (.string (strL (shaT s.data.toList))) ∧ But [] w w' := by
  have h := psumH_any w (l := s.data.toList) (by rw [Array.length_toList]; exact hs) hG
  rw [strL_ofH] at h
  exact h
end Go.Proofs.YtmdiilnipoblbaaDoor
set_option maxRecDepth 100000
set_option linter.unusedVariables false
namespace Go.Proofs.YtmdiilnipoblbaaDoor
set_option maxRecDepth 100000
open Go Go.RowKit
theorem right_le {W H : Nat} (hr : rightH (W : Int) (H : Int) 16 6 0 = 0) : 1 ≤ W ∧ W ≤ 1024 ∧ 1 ≤ H ∧ H ≤ 1024 ∧ W * H ≤ 4096 := by
  obtain ⟨W', H', D, C, R⟩ := right_form hr
  have h1 := R.wa; have h2 := R.hb; have := R.w2; have := R.h2; have h3 := R.area
  have e1 : W = W' := by omega
  have e2 : H = H' := by omega
  have h4 := rightH_ok hr
  rw [e1, e2] at *
  refine ⟨by omega, by omega, by omega, by omega, h3⟩
set_option maxHeartbeats 1000000 in
theorem pcut_any (w : World) {W H : Nat} {s : List UInt8} (hr : rightH (W : Int) (H : Int) 16 6 0 = 0) (hp : s.length = 8 * W * H) :
    Calls Tryd.prog 9 #[.agg #[.int .i64 W, .int .i64 H, .string (strL s)]] w fun e w' => ∃ b v, e = .returned (.tuple #[v, .int .i64 0]) ∧ OwnSt w' b v ((bandsB W H s).map strL) ∧ But [] w w' := by
  obtain ⟨hW1, hW2, hH1, hH2, hA⟩ := right_le hr
  have hck : checkA (W : Int) (H : Int) (strL s) = 0 := by
    unfold checkA
    rw [if_neg (by rw [hr]; decide), if_neg]
    rw [strL_size, hp]
    simp
  have hsz : s.length ≤ 32768 := by
    rw [hp, Nat.mul_assoc]; omega
  have HA := Lib.hid ((But.refl [] w).alloc (.cells #[.int .i64 W, .int .i64 H, .string (strL s)] 23))
  have hI := Is.fresh w 23 #[.int .i64 W, .int .i64 H, .string (strL s)]
  have HE : Hid (∀ v, Calls Tryd.prog 22 #[.agg #[.int .i64 W, .int .i64 H, .string (strL s)]] v fun e w' => e = .returned (.int .i64 0) ∧ But [] v w') := Lib.hid fun v => by
    have h := pcheck12_any v (a := W) (b := H) (pix := strL s) (by rw [strL_size]; omega)
    rw [hck] at h
    exact h
  have HC : Hid (∀ v, But [] (w.alloc (.cells #[.int .i64 W, .int .i64 H, .string (strL s)] 23)) v → v.cell? ⟨w.heap.size, 0, none⟩ = some (.int .i64 W) ∧ v.cell? ⟨w.heap.size, 1, none⟩ = some (.int .i64 H) ∧ v.cell? ⟨w.heap.size, 2, none⟩ = some (.string (strL s)) ∧ w.heap.size < v.heap.size) := Lib.hid fun v hv => by
    have hh := hI.but hv (by simp)
    exact ⟨hh.cell 0, hh.cell 1, hh.cell 2, hh.lt⟩
  have HS : Hid (∀ v, Calls Tryd.prog 24 #[.int .i64 W] v fun e w' => e = .returned (.int .i64 (64 * W : Nat)) ∧ v = w') := Lib.hid fun v => bsize_any v (by omega)
  have HP : Hid (∀ v, Calls Tryd.prog 23 #[.string (strL s), .int .i64 (64 * W : Nat)] v fun e w' => ∃ b u, e = .returned u ∧ OwnSt w' b u ((bandsB W H s).map strL) ∧ But [] v w') := Lib.hid fun v => by
    have hm : manyB H ≤ 128 := by unfold manyB; omega
    rw [← pcs_bands]
    refine ppieces_any v (by omega) (by omega) (by omega) (by omega) (fun i hi => ?_) ?_
    · have h8 := many_lt hi
      have hl := left_len (w := W) hp (Nat.le_of_lt h8)
      have hpos : 0 < 8 * W * (H - i * 8) := Nat.mul_pos (by omega) (by omega)
      rw [List.length_drop] at hl
      omega
    · rw [hp]
      rw [show 64 * W = 8 * W * 8 by omega, Nat.mul_assoc (8 * W)]
      exact Nat.mul_le_mul_left _ (by unfold manyB; omega)
  obtain ⟨L9, hL9⟩ : ∃ z, z = (bandsB W H s).map strL := ⟨_, rfl⟩
  obtain ⟨n9, hn9⟩ : ∃ z, z = 64 * W := ⟨_, rfl⟩
  rw [← hn9] at HS HP
  rw [← hL9] at HP ⊢
  obtain ⟨c0, c1, c2, hgl⟩ := HC.out _ (But.refl [] _)
  clear hI hr hp hck hsz hL9 hn9 hW1 hW2 hH1 hH2 hA
  go_enter Tryd.func9, Tryd.ntmps9
  go_wp2_with fail
  refine (HE.out _).mono ?_
  rintro e w1 ⟨rfl, hB⟩
  have HB1 := Lib.hid hB
  clear hB c0 c1 c2 hgl
  obtain ⟨c0, c1, c2, hgl⟩ := HC.out _ HB1.out
  go_upto_region 4 with (fail)
  refine wp_region_m (S := fun v => But [] w1 v) (R := fun v v' => But [] v v') (fun w => But.refl [] w) (by kernel_rfl) ((But.refl [] w1).drew) ?_
  refine rdk 0 (.pointer (some ⟨w.heap.size, 2, none⟩)) ?_
  refine rdq 1 (.string (strL s)) (fun w' hS => ?_) ?_
  · have y := (HC.out w' (HB1.out.trans hS)).2.2.1; go_simp
  refine rdk 2 (.pointer (some ⟨w.heap.size, 0, none⟩)) ?_
  refine rdq 3 (.int .i64 (W : Nat)) (fun w' hS => ?_) ?_
  · have y := (HC.out w' (HB1.out.trans hS)).1; go_simp
  refine wpM_take (fun w => But.refl [] w) (fun x y z h k => h.trans k) (i := 4) (v := .int .i64 (n9 : Nat)) rfl (by kernel_rfl) (by kernel_rfl) (by kernel_rfl) (fun _ _ _ h => h) (.inl ⟨?_, fun w hS => .inr ⟨_, _, ?_, (HS.out w).mono ?_⟩⟩) ?_
  · go_simp
  · go_simp
  · rintro e wy ⟨rfl, rfl⟩; exact ⟨rfl, hS, But.refl [] _⟩
  refine wpM_one (i := 5) rfl (by kernel_rfl) fun w2 hR2 hS2 K' hK => ?_
  go_simp
  refine (HP.out _).mono ?_
  rintro e w3 ⟨bs, u, rfl, hO3, hB3⟩
  refine hK _ _ ⟨hS2.trans hB3, ?_⟩
  clear hK K'
  refine rdk 6 u ?_
  refine rdk 7 (.int .i64 0) ?_
  refine ⟨by kernel_rfl, fun w8 hR8 hS8 => ?_⟩
  have HO8 := Lib.hid (hO3.but hR8)
  have HB8 := Lib.hid (HB1.out.trans hS8)
  clear hR8 hS8 hO3 hB3 hR2 hS2 c0 c1 c2 hgl
  go_simp
  go_wp2
  go_ret2
  exact ⟨_, _, rfl, HO8.out, HA.out.trans HB8.out⟩
set_option maxHeartbeats 1000000 in
theorem pmanifest_any (w : World) (hG : GK w) {W H : Nat} {s : List UInt8} (hr : rightH (W : Int) (H : Int) 16 6 0 = 0) (hp : s.length = 8 * W * H) :
    Calls Tryd.prog 11 #[.agg #[.int .i64 W, .int .i64 H, .string (strL s)]] w fun e w' => e = .returned (.tuple #[.string (strL (manB W H s)), .int .i64 0]) ∧ But [] w w' := by
  have hWH : W ≤ 1024 ∧ H ≤ 1024 := by
    obtain ⟨W', H', D, C, R⟩ := right_form hr
    have := R.wa; have := R.hb; have := R.w2; have := R.h2
    omega
  have HA := Lib.hid ((But.refl [] w).alloc (.cells #[.int .i64 W, .int .i64 H, .string (strL s)] 23))
  have hI := Is.fresh w 23 #[.int .i64 W, .int .i64 H, .string (strL s)]
  obtain ⟨m, hm⟩ : ∃ m, m = manyB H := ⟨_, rfl⟩
  have hml : m ≤ 128 := by rw [hm]; unfold manyB; omega
  have HE : Hid (∀ v, Calls Tryd.prog 9 #[.agg #[.int .i64 W, .int .i64 H, .string (strL s)]] v fun e w' => ∃ b u, e = .returned (.tuple #[u, .int .i64 0]) ∧ OwnSt w' b u (cutU W s m) ∧ But [] v w') := Lib.hid fun v => by rw [hm, cutU_all]; exact pcut_any v hr hp
  have HC : Hid (∀ v, But [] (w.alloc (.cells #[.int .i64 W, .int .i64 H, .string (strL s)] 23)) v → v.cell? ⟨w.heap.size, 0, none⟩ = some (.int .i64 W) ∧ v.cell? ⟨w.heap.size, 1, none⟩ = some (.int .i64 H) ∧ v.cell? ⟨w.heap.size, 2, none⟩ = some (.string (strL s)) ∧ w.heap.size < v.heap.size) := Lib.hid fun v hv => by
    have hh := hI.but hv (by simp)
    exact ⟨hh.cell 0, hh.cell 1, hh.cell 2, hh.lt⟩
  have HW4 : Hid (∀ v, Calls Tryd.prog 28 #[.int .i64 W] v fun e w' => e = .returned (.string (strL (fourL W))) ∧ But [] v w') := Lib.hid fun v => bnumber_any v (by omega)
  have HH4 : Hid (∀ v, Calls Tryd.prog 28 #[.int .i64 H] v fun e w' => e = .returned (.string (strL (fourL H))) ∧ But [] v w') := Lib.hid fun v => bnumber_any v (by omega)
  have HB65 : Hid (∀ i, i < m → (bandB W i s).length ≤ 65536) := Lib.hid fun i hi => by
    rw [band_len hp (by rw [← hm]; exact hi)]
    unfold sizeB
    exact Nat.mul_le_mul (by omega : 8 * W ≤ 8192) (Nat.min_le_left 8 _)
  have HG : Hid (∀ v, But [] w v → GK v) := Lib.hid fun v hv => hG.but hv
  have HSM : Hid (∀ i, i < m → ∀ v, GK v → Calls Tryd.prog 21 #[.string (strL (bandB W i s))] v fun e w' => e = .returned (.string (strL (shaT (bandB W i s)))) ∧ But [] v w') := Lib.hid fun i hi v hv => by
    have h := psum_str v (strL (bandB W i s)) (by rw [strL_size]; have := HB65.out i hi; omega) hv
    rw [strL_list] at h
    exact h
  have HM0 : Hid (strL (fourL W) ++ strL (fourL H) = manU W H s 0) := Lib.hid (by unfold manU; rw [← strL_append]; simp)
  have HM9 : Hid (manU W H s m = strL (manB W H s)) := Lib.hid (by rw [hm]; exact manU_all W H s)
  obtain ⟨R9, hR9⟩ : ∃ z, z = strL (manB W H s) := ⟨_, rfl⟩
  rw [← hR9] at HM9 ⊢
  obtain ⟨fw, hfw⟩ : ∃ z, z = strL (fourL W) := ⟨_, rfl⟩
  obtain ⟨fh, hfh⟩ : ∃ z, z = strL (fourL H) := ⟨_, rfl⟩
  have hf8 : fw.size + fh.size ≤ 9223372036854775807 := by rw [hfw, hfh, strL_size, strL_size, fourL_length, fourL_length]; decide
  rw [← hfw] at HM0 HW4
  rw [← hfh] at HM0 HH4
  obtain ⟨c0, c1, c2, hgl⟩ := HC.out _ (But.refl [] _)
  clear hI hr hp hWH hm hG hfw hfh hR9
  go_enter Tryd.func11, Tryd.ntmps11
  go_wp2_with fail
  refine (HE.out _).mono ?_
  rintro e w1 ⟨bs, u, rfl, hO, hB⟩
  have HB1 := Lib.hid hB
  have HO1 := Lib.hid hO
  clear hO hB c0 c1 c2 hgl
  obtain ⟨A0, cp0, rfl, _⟩ := HO1.out.shape
  obtain ⟨n, hn⟩ : ∃ z, z = (cutU W s m).length := ⟨_, rfl⟩
  obtain rfl : n = m := by rw [hn, cutU_len]
  rw [← hn] at HO1 ⊢
  clear hn
  obtain ⟨c0, c1, c2, hgl⟩ := HC.out _ HB1.out
  go_upto_region 4 with (fail)
  refine wp_region_m (S := fun v => But [] w1 v) (R := fun v v' => But [] v v') (fun w => But.refl [] w) (by kernel_rfl) ((But.refl [] w1).drew) ?_
  refine rdk 0 (.pointer (some ⟨w.heap.size, 0, none⟩)) ?_
  refine rdq 1 (.int .i64 (W : Nat)) (fun w' hS => ?_) ?_
  · have y := (HC.out w' (HB1.out.trans hS)).1; go_simp
  refine wpM_take (fun w => But.refl [] w) (fun x y z h k => h.trans k) (i := 2) (v := .string fw) rfl (by kernel_rfl) (by kernel_rfl) (by kernel_rfl) (fun _ _ _ h => h) (.inl ⟨?_, fun w hS => .inr ⟨_, _, ?_, (HW4.out w).mono ?_⟩⟩) ?_
  · go_simp
  · go_simp
  · rintro e wy ⟨rfl, hB⟩; exact ⟨rfl, hS.trans hB, hB⟩
  refine rdk 3 (.pointer (some ⟨w.heap.size, 1, none⟩)) ?_
  refine rdq 4 (.int .i64 (H : Nat)) (fun w' hS => ?_) ?_
  · have y := (HC.out w' (HB1.out.trans hS)).2.1; go_simp
  refine wpM_take (fun w => But.refl [] w) (fun x y z h k => h.trans k) (i := 5) (v := .string fh) rfl (by kernel_rfl) (by kernel_rfl) (by kernel_rfl) (fun _ _ _ h => h) (.inl ⟨?_, fun w hS => .inr ⟨_, _, ?_, (HH4.out w).mono ?_⟩⟩) ?_
  · go_simp
  · go_simp
  · rintro e wy ⟨rfl, hB⟩; exact ⟨rfl, hS.trans hB, hB⟩
  refine rdk 6 (.string (fw ++ fh)) ?_
  refine rdk 7 (.string (fw ++ fh)) ?_
  refine ⟨by kernel_rfl, fun w8 hR8 hS8 => ?_⟩
  have HB8 := Lib.hid hS8
  clear hR8 hS8 c0 c1 c2 hgl
  rw [HM0.out]
  go_simp
  go_wp2
  go_loopw [6, 26] (fun ov iv wr => ∃ i : Nat, i ≤ n ∧ iv = .int .i64 i ∧ ov = .string (manU W H s i) ∧ Hid (But [] w1 wr)) (fun _ iv _ => n - (intOf iv).toNat)
  case atStart => exact ⟨0, Nat.zero_le _, rfl, rfl, HB8⟩
  case round =>
    obtain ⟨i, hi, rfl, rfl, HB⟩ := hrel
    by_cases hlt : i < n
    · have HSi := Lib.hid (HSM.out i hlt)
      have HN := Lib.hid (manU_next W H s i)
      obtain ⟨g, rfl, hg, k0⟩ := (HO1.out.but HB.out).at (cutU_at hlt)
      obtain ⟨x, hx⟩ : ∃ z, z = strL (bandB W i s) := ⟨_, rfl⟩
      obtain ⟨y, hy⟩ : ∃ z, z = strL (shaT (bandB W i s)) := ⟨_, rfl⟩
      obtain ⟨o, ho⟩ : ∃ z, z = manU W H s i := ⟨_, rfl⟩
      have hoy : o.size + y.size ≤ 9223372036854775807 := by rw [ho, hy, manU_size, strL_size, shaT_length]; omega
      rw [← hx] at k0 HSi
      rw [← hy] at HSi HN
      rw [← ho] at HN ⊢
      have i0 : (0 : Int) ≤ (i : Int) := by omega
      have i1 : (i : Int) < (n : Int) := by omega
      clear hx hy ho
      go_wp2_with (refine (HSi.out _ (HG.out _ ((HA.out.trans HB1.out).trans HB.out))).mono ?_; rintro e wz ⟨rfl, hBz⟩)
      go_roundw
      case rel => exact ⟨i + 1, by omega, by go_num, by rw [HN.out], Lib.hid (HB.out.trans hBz)⟩
      case measure => simp [intOf] <;> omega
    · obtain rfl : n = i := by omega
      have i1 : ¬ (n : Int) < (n : Int) := by omega
      rw [HM9.out]
      go_wp2
      go_ret2
      exact ⟨rfl, (HA.out.trans HB1.out).trans HB.out⟩
end Go.Proofs.YtmdiilnipoblbaaDoor
set_option maxRecDepth 100000
set_option linter.unusedVariables false
namespace Go.Proofs.YtmdiilnipoblbaaDoor
set_option maxRecDepth 100000
open Go Go.RowKit
theorem zeros15 (w : World) (n : Nat) (hn : n ≤ 1000) : (Instr.makeSlice 48 (.int .i64 (n : Int)) (.int .i64 (n : Int))).run Tryd.prog w = .ok (.slice (some ⟨w.heap.size, 0, none⟩) n n) (noughtsF w n) ∧ (convert 48 9 (.slice (some ⟨w.heap.size, 0, none⟩) n n)).run Tryd.prog (noughtsF w n) = .ok (.string (strL (List.replicate n 0))) (noughtsF w n) := by
  refine ⟨run_noughts w (by omega), ?_⟩
  have h := (noughtsB w n).text n
  rw [List.length_replicate] at h
  exact h
set_option maxHeartbeats 1000000 in
theorem awake15_any (w : World) (hG : GK w) : Calls Tryd.prog 14 #[] w fun e w' => e = .returned (.bool true) ∧ But [] w w' := by
  obtain ⟨Z, hZ⟩ : ∃ Z, Z = List.replicate 144 (0 : UInt8) := ⟨_, rfl⟩
  have hZl : Z.length = 8 * 2 * 9 := by rw [hZ, List.length_replicate]
  have hr : rightH ((2 : Nat) : Int) ((9 : Nat) : Int) 16 6 0 = 0 := by decide
  have HC : Hid (∀ v, Calls Tryd.prog 9 #[.agg #[.int .i64 2, .int .i64 9, .string (strL Z)]] v fun e w' => ∃ b u, e = .returned (.tuple #[u, .int .i64 0]) ∧ OwnSt w' b u ((bandsB 2 9 Z).map strL) ∧ But [] v w') := Lib.hid fun v => pcut_any v hr hZl
  have HM : Hid (∀ v, GK v → Calls Tryd.prog 11 #[.agg #[.int .i64 2, .int .i64 9, .string (strL Z)]] v fun e w' => e = .returned (.tuple #[.string (strL (manB 2 9 Z)), .int .i64 0]) ∧ But [] v w') := Lib.hid fun v hv => pmanifest_any v hv hr hZl
  have HN1 : Hid (∀ v, Calls Tryd.prog 15 #[.string { data := #[97, 32, 98] }] v fun e w' => e = .returned (.int .i64 40) ∧ v = w') := Lib.hid fun v => by
    have h := pname15_any v { data := #[97, 32, 98] } (by decide)
    rw [nameA_bad (fun h => by have := h.2.2 1 (by decide); revert this; decide)] at h
    exact h.mono fun _ _ h => ⟨h.1, h.2.symm⟩
  have HN2 : Hid (∀ v, Calls Tryd.prog 15 #[.string { data := #[97, 98] }] v fun e w' => e = .returned (.int .i64 0) ∧ v = w') := Lib.hid fun v => by
    have h := pname15_any v { data := #[97, 98] } (by decide)
    rw [nameA_ok ⟨by decide, by decide, by decide⟩] at h
    exact h.mono fun _ _ h => ⟨h.1, h.2.symm⟩
  have HS0 : Hid (((bandsB 2 9 Z).map strL)[0]? = some (strL (bandB 2 0 Z)) ∧ (strL (bandB 2 0 Z)).size = 128) := Lib.hid ⟨by rw [List.getElem?_map, bandsB_at (by decide)]; rfl, by rw [strL_size, band_len (h := 9) hZl (by decide)]; rfl⟩
  have HS1 : Hid (((bandsB 2 9 Z).map strL)[1]? = some (strL (bandB 2 1 Z)) ∧ (strL (bandB 2 1 Z)).size = 16) := Lib.hid ⟨by rw [List.getElem?_map, bandsB_at (by decide)]; rfl, by rw [strL_size, band_len (h := 9) hZl (by decide)]; rfl⟩
  have HSL : Hid (((bandsB 2 9 Z).map strL).length = 2) := Lib.hid (by rw [List.length_map, bandsB_length]; rfl)
  have hms : (strL (manB 2 9 Z)).size = 72 := by rw [strL_size, man_len]; rfl
  have HG := Lib.hid hG
  obtain ⟨km0, kt0⟩ := zeros15 w 144 (by decide)
  have hB1 := noughtsF_but w 144
  obtain ⟨w1, hw1⟩ : ∃ X, X = noughtsF w 144 := ⟨_, rfl⟩
  rw [← hw1] at km0 kt0 hB1
  have km : (Instr.makeSlice 48 (.int .i64 144) (.int .i64 144)).run Tryd.prog w = .ok (.slice (some ⟨w.heap.size, 0, none⟩) 144 144) w1 := km0
  rw [← hZ] at kt0
  have kt : (convert 48 9 (.slice (some ⟨w.heap.size, 0, none⟩) 144 144)).run Tryd.prog w1 = .ok (.string (strL Z)) w1 := kt0
  have HB1 := Lib.hid hB1
  obtain ⟨z, hz⟩ : ∃ z, z = strL Z := ⟨_, rfl⟩
  rw [← hz] at HC HM kt
  obtain ⟨M, hM⟩ : ∃ z, z = strL (manB 2 9 Z) := ⟨_, rfl⟩
  rw [← hM] at HM hms
  obtain ⟨LL, hLL⟩ : ∃ z, z = (bandsB 2 9 Z).map strL := ⟨_, rfl⟩
  rw [← hLL] at HC HS0 HS1 HSL
  obtain ⟨x0, hx0⟩ : ∃ z, z = strL (bandB 2 0 Z) := ⟨_, rfl⟩
  obtain ⟨x1, hx1⟩ : ∃ z, z = strL (bandB 2 1 Z) := ⟨_, rfl⟩
  rw [← hx0] at HS0
  rw [← hx1] at HS1
  clear hZ hZl hr hG hw1 hB1 hz hM hLL hx0 hx1 km0 kt0
  go_enter Tryd.func14, Tryd.ntmps14
  go_wp2_with fail
  have HI2 := Lib.hid (Is.fresh w1 23 #[.int .i64 2, .int .i64 9, .string z])
  have HB2 := Lib.hid (HB1.out.trans ((But.refl [] w1).alloc (.cells #[.int .i64 2, .int .i64 9, .string z] 23)))
  obtain ⟨w2, hw2⟩ : ∃ X, X = w1.alloc (.cells #[.int .i64 2, .int .i64 9, .string z] 23) := ⟨_, rfl⟩
  obtain ⟨b2, hb2⟩ : ∃ X, X = w1.heap.size := ⟨_, rfl⟩
  rw [← hw2, ← hb2] at HI2
  rw [← hw2] at HB2
  rw [← hw2, ← hb2]
  clear hw2 hb2 km kt HB1
  refine (HC.out _).mono ?_
  rintro e w3 ⟨bs, u, rfl, hO, hB3⟩
  obtain ⟨A0, cp0, hu, _⟩ := hO.shape
  rw [HSL.out] at hu
  subst hu
  obtain ⟨g, rfl, hg, k0⟩ := hO.at HS0.out.1
  obtain ⟨g', e', _, k1⟩ := hO.at HS1.out.1
  injection e' with e'
  injection e' with e'
  subst e'
  have HK : Hid (∀ v, But [] w3 v → v.cell? ⟨g, 0, none⟩ = some (.string x0) ∧ v.cell? ⟨g, 1, none⟩ = some (.string x1) ∧ g < v.heap.size) := Lib.hid fun v hv => ⟨hv.cell k0 (by simp), hv.cell k1 (by simp), Nat.lt_of_lt_of_le hg hv.size⟩
  have HI3 := Lib.hid (HI2.out.but hB3 (by simp))
  have HB3 := Lib.hid (HB2.out.trans hB3)
  clear hO hB3 k0 k1 hg HI2 HB2
  have e0 := HI3.out.cell 0
  have e1 := HI3.out.cell 1
  have e2 := HI3.out.cell 2
  have hgl := HI3.out.lt
  go_wp2_with fail
  refine (HM.out _ (HG.out.but HB3.out)).mono ?_
  rintro e w4 ⟨rfl, hB4⟩
  have HB4 := Lib.hid (HB3.out.trans hB4)
  obtain ⟨k0, k1, hg⟩ := HK.out _ hB4
  have z0 := HS0.out.2
  have z1 := HS1.out.2
  clear hB4 e0 e1 e2 hgl
  go_wp2_with fail
  refine (HN1.out _).mono ?_
  rintro e wz ⟨rfl, rfl⟩
  go_wp2_with fail
  refine (HN2.out _).mono ?_
  rintro e wz ⟨rfl, rfl⟩
  go_wp2
  go_ret
  exact ⟨rfl, HB4.out⟩
end Go.Proofs.YtmdiilnipoblbaaDoor
set_option maxRecDepth 100000
namespace Go.Proofs.YtmdiilnipoblbaaDoor
set_option maxRecDepth 100000
open Go Go.RowKit Go.ChangeShapes Go.WideShapes Go.ChangeAt Go.WideMaps Go.WideElems
section
variable {P : Program} {H : Type} {enc : TypeId × Value → H} {w : World} {base : Nat} {spare : TypeId × Value → Bool} {held : Bool}
theorem arr_cellW {sp : _} {t e n m : Nat} {cs : List Value} {ds : List (DataW H)} {p : List MemPlace} {zs : List Int} (ht : P.underlying t = some (.array n e)) (hce : P.cellsOf e = 1) (he : P.underlying e = some (.int .u32))
    (h : DataW.trod enc P w base sp held m t cs = some (.agg ds, p)) (hd : ds = zs.map fun z => .lit (.int .u32 z)) : ∀ i, i < n → cs[i]? = some (.int .u32 (zs.getD i 0)) := by
  intro i hi
  obtain ⟨xs, k, rfl, hx, hlen, hxn, hel⟩ := DataW.trod_array ht h
  injection hx with hx1 hx2
  injection hx1 with hx1
  have h1 := hel i hi
  rw [hce, Nat.mul_one, List.getElem?_eq_getElem (by omega)] at h1
  obtain ⟨z, e1, e2, _⟩ := DataW.trod_int he h1
  have hz : (zs.map fun z => (DataW.lit (.int .u32 z) : DataW H))[i]? = some (.lit (.int .u32 z)) := by
    rw [← hd, hx1, List.getElem?_map, List.getElem?_eq_getElem (by omega), e2]; rfl
  rw [List.getElem?_map] at hz
  cases hzi : zs[i]? with
  | none => rw [hzi] at hz; cases hz
  | some y =>
    rw [hzi] at hz
    have hy : y = z := by simpa using hz
    rw [List.getD_eq_getElem?_getD, hzi]
    have h2 : ((cs.drop i).take 1)[0]? = some (.int .u32 z) := by rw [e1]; rfl
    rw [List.getElem?_take_of_lt (by omega), List.getElem?_drop, Nat.add_zero] at h2
    rw [h2, hy]; rfl
end
/-- The variable that the rows list, with what it holds. -/
def laidL : List (String × DataW Unit) := [("vitrine/sha.constants", Rows.laid_vitrine_sha_constants)]
theorem gK0 : Tryd.prog.globalNamed "vitrine/sha.constants" = some 0 := by kernel_rfl
theorem tK0 : (Tryd.prog.globals[0]?).map (·.type) = some 77 := by kernel_rfl
theorem one_u32 : Tryd.prog.cellsOf 49 = 1 := by kernel_rfl
theorem door_met (os : Os) (args : Array Value) : laidMetH Tryd.prog laidL ((World.doorLaid Tryd.prog 400 os).forCall (fun _ _ => 0) ⟨#[], args, []⟩).memory :=
  laidMetH_of_parts3 (fuel := 8) (laidMet_of_run' 8 (by kernel_rfl) (by kernel_rfl)) (by kernel_rfl) (by kernel_rfl)
theorem of_laid {W : World} (h : laidMetH Tryd.prog laidL W) : GK W := by
  rw [MakeChecks.laidMetH_plain _ _ _ (by kernel_rfl)] at h
  obtain ⟨ps, ⟨g0', t0', cs0, f0, p0, q0, hg0, ht0, hv0, hd0, _, _⟩, _, _⟩ := h
  obtain rfl := Option.some.inj (gK0.symm.trans hg0)
  obtain rfl := Option.some.inj (tK0.symm.trans ht0)
  have a0 := arr_cellW (zs := kSha.map fun (n : Nat) => (n : Int)) Tryd.underlying77 one_u32 Tryd.underlying49 hd0 (by kernel_rfl)
  have b0 := fun i => World.var?_cell hg0 hv0 i
  have c : ∀ (cs : Array Value) (i : Nat), cs.toList[i]? = cs[i]? := fun cs i => by simp
  have hc : ∀ i, i < 64 → W.cell? ⟨0, i, none⟩ = some (.int .u32 (kSha.getD i 0 : Nat)) := fun i hi => by
    rw [b0 i, ← c, a0 i hi]
    have hl : i < kSha.length := by rw [kSha_length]; exact hi
    rw [List.getD_eq_getElem?_getD, List.getElem?_map, List.getD_eq_getElem?_getD, List.getElem?_eq_getElem hl]
    rfl
  exact ⟨hc, World.block_lt_of_cell? W _ (hc 0 (by decide))⟩
end Go.Proofs.YtmdiilnipoblbaaDoor
