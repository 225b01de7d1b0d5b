/- Several texts in one: LcD, PxA (what PixelImages reach of them). -/
import Derived.Test.YtfiedoejdikcgaaDoorQ01
import Derived.Test.YtfiedoejdikcgaaDoorQ02
import Derived.Test.YtfiedoejdikcgaaDoorQ03
import Derived.Test.YtfiedoejdikcgaaDoorQ05
import Derived.Test.YtfiedoejdikcgaaDoorQ06
import Derived.Test.YtfiedoejdikcgaaDoorQ28
import Derived.Below
import Derived.BigQuiet
import Derived.BigRegion
import Derived.Deep.AppendLies
import Derived.Deep.CutBlock
import Derived.Deep.CutRange
import Derived.Deep.DeepCutAuto
import Derived.Deep.Draws
import Derived.Deep.QuietTactic
import Derived.Deep.RegionLaw
import Derived.Deep.RegionWith
import Derived.Handy
import Derived.Laws.BitsAllLaws
import Derived.Laws.BitsLemmas
import Derived.Laws.BytesArg
import Derived.Laws.IdiomStrings
import Derived.Laws.MakeOwn
import Derived.Laws.OwnMore
import Derived.Laws.Rows
import Derived.Laws.StructEq
import Derived.Lib.BufferWrite
import Derived.Lib.Hide
import Derived.Maps.AppendAt
import Derived.OrdersHeld
import Derived.OrdersIn
import Derived.Outline
import Derived.OwnWalk
import Derived.OwnWalkIn
import Derived.RangeFuncCalls
import Derived.RegionTactic
import Derived.TacticsInMore
import Derived.Test.YtfiedoejdikcgaaDoorChecked
import Derived.WalkKit
set_option maxRecDepth 100000
set_option linter.unusedVariables false
set_option maxRecDepth 100000
set_option linter.unusedVariables false
namespace Go.Proofs.YtfiedoejdikcgaaDoor
set_option maxRecDepth 100000
open Go Go.RowKit
set_option maxHeartbeats 1000000 in
theorem esize_any (w : World) (a b d c l : Int) :
    Calls Tryd.prog 24 #[.agg #[.int .i64 a, .int .i64 b, .int .i64 d, .int .i64 c, .int .i64 l]] w fun e w' => e = .returned (.int .i64 (sizeA a b d c l : Nat)) ∧ But [] w w' := by
  have HPA := Lib.hid fun v => epasses_any v a b d c l
  have HRW := Lib.hid fun v n => erow_any v a b d c l n
  obtain ⟨L, hL⟩ : ∃ L, L = passA a b d c l := ⟨_, rfl⟩
  obtain ⟨N, hN⟩ : ∃ N, N = L.length := ⟨_, rfl⟩
  have hl7 : N ≤ 7 := by rw [hN, hL]; exact passA_len a b d c l
  have HSM : Hid (∀ p, p ∈ L → (p.1 ≤ 7 ∧ p.2.1 ≤ 7) ∧ (1 ≤ p.2.2.1 ∧ p.2.2.1 ≤ 8) ∧ (1 ≤ p.2.2.2.1 ∧ p.2.2.2.1 ≤ 8) ∧ (1 ≤ p.2.2.2.2.1 ∧ p.2.2.2.2.1 ≤ 1024) ∧ 1 ≤ p.2.2.2.2.2 ∧ p.2.2.2.2.2 ≤ 1024) := Lib.hid fun p hp => passA_small (by rw [← hL]; exact hp)
  have HR : Hid (sizeA a b d c l = sizeL a b d c l L) := Lib.hid (by rw [hL]; rfl)
  rw [HR.out]
  rw [← hL, ← hN] at HPA
  obtain ⟨R, hR⟩ : ∃ R : P6 → Nat, R = fun p => rowA a b d c l (p.2.2.2.2.1 : Nat) := ⟨_, rfl⟩
  have HRL : Hid (∀ p, R p ≤ 8192) := Lib.hid fun p => by rw [hR]; exact rowA_le _ _ _ _ _ _
  have HRR : Hid (∀ p v, Calls Tryd.prog 26 #[.agg #[.int .i64 a, .int .i64 b, .int .i64 d, .int .i64 c, .int .i64 l], .int .i64 (p.2.2.2.2.1 : Nat)] v fun e w' => e = .returned (.int .i64 (R p : Nat)) ∧ But [] v w') := Lib.hid fun p v => by rw [hR]; exact HRW.out v _
  obtain ⟨Z, hZ⟩ : ∃ Z : List P6 → Nat, Z = sizeL a b d c l := ⟨_, rfl⟩
  have HZN : Hid (∀ M p, Z (M ++ [p]) = Z M + p.2.2.2.2.2 * (1 + R p)) := Lib.hid fun M p => by rw [hZ, hR]; exact sizeL_snoc _ _ _ _ _ _ _
  have HZ0 : Hid (Z [] = 0) := Lib.hid (by rw [hZ]; rfl)
  have HZL : Hid (∀ i, Z (L.take i) ≤ 58727424) := Lib.hid fun i => by
    have h := sizeL_le (a := a) (b := b) (d := d) (c := c) (l := l) (L := L.take i) (fun p hp => ((HSM.out p) (List.mem_of_mem_take hp)).2.2.2.2.2)
    have h2 : (L.take i).length ≤ 7 := by rw [List.length_take]; omega
    rw [hZ]
    omega
  rw [← hZ]
  have HLN := Lib.hid hN
  have hI := Is.fresh w 29 #[.int .i64 a, .int .i64 b, .int .i64 d, .int .i64 c, .int .i64 l]
  have HA := Lib.hid ((But.refl [] w).alloc (.cells #[.int .i64 a, .int .i64 b, .int .i64 d, .int .i64 c, .int .i64 l] 29))
  have c0 := hI.cell 0
  have c1 := hI.cell 1
  have c2 := hI.cell 2
  have c3 := hI.cell 3
  have c4 := hI.cell 4
  have HI := Lib.hid hI
  clear hL hN hR hZ hI HRW HR
  go_enter Tryd.func24, Tryd.ntmps24
  go_wp2_with fail
  refine (HPA.out _).mono ?_
  rintro e w1 ⟨A, cap, rfl, hP, hcap, hB⟩
  have HS : Hid (Is w1 w.heap.size 29 #[.int .i64 a, .int .i64 b, .int .i64 d, .int .i64 c, .int .i64 l] ∧ Pss w1 A N L ∧ But [] w w1) := Lib.hid ⟨HI.out.but hB (by simp), hP, HA.out.trans hB⟩
  clear hP hB HI HA c0 c1 c2 c3 c4
  go_wp2_with fail
  go_loopw [3, 5] (fun nv iv wr => ∃ i n : Nat, i ≤ N ∧ iv = .int .i64 i ∧ nv = .int .i64 n ∧ Hid (n = Z (L.take i)) ∧ Hid (Is wr w.heap.size 29 #[.int .i64 a, .int .i64 b, .int .i64 d, .int .i64 c, .int .i64 l] ∧ Pss wr A N L ∧ But [] w wr)) (fun _ iv _ => N - (intOf iv).toNat)
  case atStart => exact ⟨0, 0, Nat.zero_le _, rfl, rfl, Lib.hid (by rw [List.take_zero, HZ0.out]), HS⟩
  case round =>
    clear HS
    obtain ⟨i, n, hi, rfl, rfl, HN, HS⟩ := hrel
    have hn : n ≤ 58727424 := by rw [HN.out]; exact HZL.out i
    by_cases hlt : i < N
    · obtain ⟨g, o, p, rfl, hg, hp, k0, k1, k2, k3, k4, k5⟩ := HS.out.2.1.at hlt
      have hpm := HSM.out p (List.mem_of_getElem? hp)
      obtain ⟨r, hr⟩ : ∃ r, r = R p := ⟨_, rfl⟩
      have hr2 : r ≤ 8192 := by rw [hr]; exact HRL.out p
      obtain ⟨pw, hpw⟩ : ∃ x, x = p.2.2.2.2.1 := ⟨_, rfl⟩
      obtain ⟨ph, hph⟩ : ∃ x, x = p.2.2.2.2.2 := ⟨_, rfl⟩
      have HRP : Hid (∀ v, Calls Tryd.prog 26 #[.agg #[.int .i64 a, .int .i64 b, .int .i64 d, .int .i64 c, .int .i64 l], .int .i64 (pw : Nat)] v fun e w' => e = .returned (.int .i64 (r : Nat)) ∧ But [] v w') := Lib.hid fun v => by rw [hr, hpw]; exact HRR.out p v
      obtain ⟨m, hm⟩ : ∃ m, m = ph * (1 + r) := ⟨_, rfl⟩
      have HZ1 : Hid (n + m = Z (L.take (i + 1))) := Lib.hid (by rw [take_nextP hp, HZN.out, ← HN.out, ← hr, ← hph, hm])
      have hph2 : ph ≤ 1024 := by rw [hph]; exact hpm.2.2.2.2.2
      have hm2 : m ≤ 8389632 := by rw [hm]; show _ ≤ 1024 * 8193; exact Nat.mul_le_mul hph2 (by omega)
      have e1 : (ph : Int) * (1 + (r : Int)) = (m : Int) := by rw [hm, Int.natCast_mul, Int.natCast_add]; rfl
      rw [← hpw] at k4
      rw [← hph] at k5
      have HC : Hid (∀ v, But [] wr v → (v.cell? ⟨w.heap.size, 0, none⟩ = some (.int .i64 a) ∧ v.cell? ⟨w.heap.size, 1, none⟩ = some (.int .i64 b) ∧ v.cell? ⟨w.heap.size, 2, none⟩ = some (.int .i64 d) ∧ v.cell? ⟨w.heap.size, 3, none⟩ = some (.int .i64 c) ∧ v.cell? ⟨w.heap.size, 4, none⟩ = some (.int .i64 l)) ∧ v.cell? ⟨g, o + i * 6 + 4, none⟩ = some (.int .i64 pw) ∧ v.cell? ⟨g, o + i * 6 + 5, none⟩ = some (.int .i64 ph)) := Lib.hid fun v hv => by
        have hh := HS.out.1.but hv (by simp)
        exact ⟨⟨hh.cell 0, hh.cell 1, hh.cell 2, hh.cell 3, hh.cell 4⟩, hv.cell k4 (by simp), hv.cell k5 (by simp)⟩
      have i0 : (0 : Int) ≤ (i : Int) := by omega
      have i1 : (i : Int) < (N : Int) := by omega
      have v1 : IntKind.i64.wrap (1 + (r : Int)) = 1 + (r : Int) := by rw [IntKind.wrap_i64]; omega
      have v2 : IntKind.i64.wrap (m : Int) = (m : Int) := by rw [IntKind.wrap_i64]; omega
      have v3 : IntKind.i64.wrap ((n : Int) + (m : Int)) = (n : Int) + (m : Int) := by rw [IntKind.wrap_i64]; omega
      clear k0 k1 k2 k3 k4 k5 hp hpm hr hpw hph hm
      go_upto_region 6 with (fail)
      obtain ⟨⟨z0, z1, z2, z3, z4⟩, z5, z6⟩ := HC.out wr.drew ((But.refl [] wr).drew)
      go_region_with (refine (HRP.out _).mono ?_; rintro e w6 ⟨rfl, hB6⟩; obtain ⟨⟨y0, y1, y2, y3, y4⟩, y5, y6⟩ := HC.out w6 (((But.refl [] wr).drew).trans hB6); have HB6 := Lib.hid (((But.refl [] wr).drew).trans hB6); clear hB6)
      all_goals go_simp
      all_goals go_wp2
      all_goals exact ⟨⟨i + 1, n + m, by omega, by go_num, by go_num, HZ1, Lib.hid ⟨HS.out.1.but HB6.out (by simp), HS.out.2.1.but HB6.out, HS.out.2.2.trans HB6.out⟩⟩, by simp [intOf] <;> omega⟩
    · obtain rfl : i = N := by omega
      have HE : Hid (n = Z L) := Lib.hid (by rw [HN.out, List.take_of_length_le]; rw [← HLN.out]; exact Nat.le_refl _)
      go_wp2
      go_ret
      exact ⟨by rw [HE.out]; rfl, HS.out.2.2⟩
end Go.Proofs.YtfiedoejdikcgaaDoor
set_option maxRecDepth 100000
set_option linter.unusedVariables false
namespace Go.Proofs.YtfiedoejdikcgaaDoor
set_option maxRecDepth 100000
open Go Go.RowKit
theorem But.hide {w w5 w' : World} {gp : Nat} (h : But [] w w5) (k : But [gp] w5 w') (hg : w.heap.size ≤ gp) : But [] w w' :=
  ⟨k.os.trans h.os, k.tape.trans h.tape, k.output.trans h.output, Nat.le_trans h.size k.size, fun i hi _ => (k.block i (Nat.lt_of_lt_of_le hi h.size) (by rw [List.mem_singleton]; omega)).trans (h.block i hi (by simp))⟩
end Go.Proofs.YtfiedoejdikcgaaDoor
