/- Several texts in one: PyF, PxK, PyG, LcT, GlobL (what PixelImages, PixelRows, PixelSame reach of them). -/
import Derived.Test.YtfiedoejdikcgaaDoorQ01
import Derived.Test.YtfiedoejdikcgaaDoorQ02
import Derived.Test.YtfiedoejdikcgaaDoorQ03
import Derived.Test.YtfiedoejdikcgaaDoorQ05
import Derived.Test.YtfiedoejdikcgaaDoorQ06
import Derived.Test.YtfiedoejdikcgaaDoorQ07
import Derived.Test.YtfiedoejdikcgaaDoorQ08
import Derived.Test.YtfiedoejdikcgaaDoorQ09
import Derived.Test.YtfiedoejdikcgaaDoorQ11
import Derived.Test.YtfiedoejdikcgaaDoorQ12
import Derived.Test.YtfiedoejdikcgaaDoorQ17
import Derived.Test.YtfiedoejdikcgaaDoorQ18
import Derived.Test.YtfiedoejdikcgaaDoorQ19
import Derived.Below
import Derived.BigQuiet
import Derived.BigRegion
import Derived.Deep.AppendLies
import Derived.Deep.CutBlock
import Derived.Deep.CutRange
import Derived.Deep.DeepCutAuto
import Derived.Deep.Draws
import Derived.Deep.QuietTactic
import Derived.Deep.RegionLaw
import Derived.Deep.RegionWith
import Derived.Deep.Slices
import Derived.Handy
import Derived.LaidMore
import Derived.Laws.BitsAllLaws
import Derived.Laws.BitsLemmas
import Derived.Laws.BytesArg
import Derived.Laws.Externs
import Derived.Laws.IdiomStrings
import Derived.Laws.MakeOwn
import Derived.Laws.OwnMore
import Derived.Laws.Rows
import Derived.Laws.StructEq
import Derived.Lib.AppendStr
import Derived.Lib.BufferWrite
import Derived.Lib.Hide
import Derived.Lib.UnsafeStr
import Derived.LoopIn
import Derived.LoopNIn
import Derived.Maps.AppendAt
import Derived.OpenShut
import Derived.OrdersHeld
import Derived.OrdersIn
import Derived.Outline
import Derived.OwnWalk
import Derived.OwnWalkIn
import Derived.ProofKit
import Derived.RangeFuncBound
import Derived.RangeFuncCalls
import Derived.RangeFuncLeaves
import Derived.RangeFuncNested
import Derived.RegionTactic
import Derived.Shelf.Abstract
import Derived.Shelf.LaysM
import Derived.Shelf.RegionOpen
import Derived.Shelf.Small.Wraps
import Derived.Shelf.Strconv.Clone
import Derived.Shelf.Strings.Builder1
import Derived.Shelf.Strings.BuilderF
import Derived.Shelf.Strings.Prefix
import Derived.SizedLaws
import Derived.Sort.CutIn
import Derived.Stop.Joined
import Derived.TacticsInMore
import Derived.Test.YtfiedoejdikcgaaDoorChecked
import Derived.Test.YtfiedoejdikcgaaDoorRows
import Derived.WalkKit
set_option maxRecDepth 100000
set_option linter.unusedVariables false
set_option maxRecDepth 100000
set_option linter.unusedVariables false
namespace Go.Proofs.YtfiedoejdikcgaaDoor
set_option maxRecDepth 100000
open Go Go.RowKit
/-- The rows of an image that is not laced. -/
def p0L : PassL := ⟨0, 0, 1, 1⟩
theorem jobs_plain {W H : Nat} (hW : 1 ≤ W) : jobsL W H plainL = leftP W H p0L 0 := by
  have h0 : manyL W 0 1 = W := by unfold manyL; simp
  rw [leftP_zero (w := W) (h := H) (p := p0L) (by show 0 < manyL W 0 1; omega)]
  show rowsP W H p0L ++ [] = _
  rw [List.append_nil]
theorem manyP0 (n : Nat) : manyL n 0 1 = n := by unfold manyL; simp
theorem jobP0 (W y : Nat) : jobP W p0L y = ⟨0, 1, y, W, decide (y = 0)⟩ := by
  unfold jobP p0L
  dsimp only
  rw [manyP0, Nat.zero_add, Nat.mul_one]
/-- The bytes of a row of a raster, filtered with the kind that is picked. -/
theorem pack_row {W H y k : Nat} {pix ab : List UInt8} {js : List RowJ} (hp : pix.length = 8 * (W * H)) (hy : y < H) (hab : y = 0 → ab = []) :
    packI (rgbaS W H) (wordsV pix) (fun _ => -1) (jobP W p0L y :: js) k ab = UInt8.ofNat (pickF 8 ((pix.drop (8 * (y * W))).take (8 * W)) ab) :: (doF (pickF 8 ((pix.drop (8 * (y * W))).take (8 * W)) ab : Nat) 8 ((pix.drop (8 * (y * W))).take (8 * W)) ab ++ packI (rgbaS W H) (wordsV pix) (fun _ => -1) js (k + 1) ((pix.drop (8 * (y * W))).take (8 * W))) := by
  rw [jobP0, packI]
  have e1 : packT (rgbaS W H).d (rowV (rgbaS W H) (wordsV pix) ⟨0, 1, y, W, decide (y = 0)⟩) = (pix.drop (8 * (y * W))).take (8 * W) := rowV_words hp hy _
  have e2 : (if (⟨0, 1, y, W, decide (y = 0)⟩ : RowJ).first = true then [] else ab) = ab := by
    show (if decide (y = 0) = true then [] else ab) = ab
    by_cases h : y = 0
    · rw [if_pos (decide_eq_true h), hab h]
    · rw [if_neg (by rw [decide_eq_false h]; decide)]
  rw [e1, e2]
  have e8 : bppN (rgbaS W H) = 8 := by show max 1 (16 * samplesN 6 / 8) = 8; decide
  have e3 : kindP (rgbaS W H) (fun _ => -1) k ((pix.drop (8 * (y * W))).take (8 * W)) ab = pickF 8 ((pix.drop (8 * (y * W))).take (8 * W)) ab := by
    unfold kindP
    rw [if_pos (show (-1 : Int) < 0 by decide), e8]
  rw [e3, e8]
theorem check_form {a b : Int} {pix : ByteArray} (h : checkA a b pix = 0) : ∃ W H : Nat, a = (W : Int) ∧ b = (H : Int) ∧ 1 ≤ W ∧ W ≤ 1024 ∧ 1 ≤ H ∧ H ≤ 1024 ∧ W * H ≤ 4096 ∧ pix.size = 8 * (W * H) := by
  have h0 : rightH a b 16 6 0 = 0 := by
    unfold checkA at h
    by_cases k : rightH a b 16 6 0 ≠ 0
    · rw [if_pos k] at h; exact absurd h k
    · exact Classical.not_not.1 k
  obtain ⟨W, H, D, C, R⟩ := right_form h0
  refine ⟨W, H, R.wa, R.hb, R.w1, R.w2, R.h1, R.h2, R.area, ?_⟩
  unfold checkA at h
  rw [if_neg (fun k => k h0)] at h
  by_cases k : (pix.size : Int) ≠ 8 * a * b
  · rw [if_pos k] at h; exact absurd h (by decide)
  · have k2 := Classical.not_not.1 k
    rw [R.wa, R.hb, Int.mul_assoc, ← Int.natCast_mul] at k2
    omega
set_option maxHeartbeats 1000000 in
theorem prows_any (w : World) {a b : Int} {pix : ByteArray} (hp : pix.size ≤ 140737488351232) :
    Calls Tryd.prog 13 #[.agg #[.int .i64 a, .int .i64 b, .string pix]] w fun e w' => e = .returned (.tuple #[.string (rowsA a b pix).1, .int .i64 (rowsA a b pix).2]) ∧ But [] w w' := by
  obtain ⟨b1, hb1⟩ : ∃ g, g = w.heap.size := ⟨_, rfl⟩
  obtain ⟨w1, hw1⟩ : ∃ X, X = w.alloc (.cells #[.int .i64 a, .int .i64 b, .string pix] 23) := ⟨_, rfl⟩
  have hI : Is w1 b1 23 #[.int .i64 a, .int .i64 b, .string pix] := by rw [hw1, hb1]; exact Is.fresh _ _ _
  have hB : But [] w w1 := by rw [hw1]; exact (But.refl [] w).alloc _
  have HB := Lib.hid hB
  have HC : Hid (∀ v, But [] w1 v → v.cell? ⟨b1, 0, none⟩ = some (.int .i64 a) ∧ v.cell? ⟨b1, 1, none⟩ = some (.int .i64 b) ∧ v.cell? ⟨b1, 2, none⟩ = some (.string pix) ∧ b1 < v.heap.size) := Lib.hid fun v hv => by
    have hh := hI.but hv (by simp)
    exact ⟨hh.cell 0, hh.cell 1, hh.cell 2, hh.lt⟩
  obtain ⟨r, hr⟩ : ∃ r, r = checkA a b pix := ⟨_, rfl⟩
  have HCK : Hid (∀ v, Calls Tryd.prog 8 #[.agg #[.int .i64 a, .int .i64 b, .string pix]] v fun e w' => e = .returned (.int .i64 r) ∧ But [] v w') := Lib.hid fun v => by rw [hr]; exact pcheck12_any v hp
  clear hI hB
  by_cases h0 : r = 0
  · subst h0
    obtain ⟨W, H, rfl, rfl, hW1, hW2, hH1, hH2, harea, hps⟩ := check_form hr.symm
    have hpl : pix.data.toList.length = 8 * (W * H) := by rw [Array.length_toList]; exact hps
    obtain ⟨TT, hTT⟩ : ∃ T, T = rowsT W H pix.data.toList := ⟨_, rfl⟩
    have HR : Hid (rowsA W H pix = (strL TT, 0)) := Lib.hid (by unfold rowsA; rw [if_neg (fun h => h hr.symm), hTT]; rfl)
    have HR1 : Hid ((rowsA W H pix).1 = strL TT) := Lib.hid (by rw [HR.out])
    have HR2 : Hid ((rowsA W H pix).2 = 0) := Lib.hid (by rw [HR.out])
    obtain ⟨R1, hR1⟩ : ∃ R, R = rowsA W H pix := ⟨_, rfl⟩
    rw [← hR1] at HR1 HR2 ⊢
    obtain ⟨PK, hPK⟩ : ∃ f : Nat → List UInt8 → List UInt8, f = fun y ab => packI (rgbaS W H) (wordsV pix.data.toList) (fun _ => -1) (leftP W H p0L y) y ab := ⟨_, rfl⟩
    obtain ⟨LN, hLN⟩ : ∃ f : Nat → List UInt8, f = fun y => (pix.data.toList.drop (8 * (y * W))).take (8 * W) := ⟨_, rfl⟩
    have HT0 : Hid (TT = [] ++ PK 0 []) := Lib.hid (by rw [hTT, hPK]; show rowsT W H _ = packI _ _ _ _ _ _; unfold rowsT; rw [jobs_plain hW1])
    have HTN : Hid (∀ y ab, y < H → (y = 0 → ab = []) → PK y ab = UInt8.ofNat (pickF 8 (LN y) ab) :: (doF (pickF 8 (LN y) ab : Nat) 8 (LN y) ab ++ PK (y + 1) (LN y))) := Lib.hid fun y ab hy hab => by
      rw [hPK, hLN]
      dsimp only
      rw [leftP_next (p := p0L) (show y < manyL H 0 1 by rw [manyP0]; exact hy)]
      exact pack_row hpl hy hab
    have HTE : Hid (∀ ab, PK H ab = []) := Lib.hid fun ab => by
      rw [hPK]
      dsimp only
      rw [leftP_end (p := p0L) (show manyL H 0 1 ≤ H by rw [manyP0]; exact Nat.le_refl _)]
      rfl
    obtain ⟨w8, hw8⟩ : ∃ z, z = 8 * W := ⟨_, rfl⟩
    have HLL : Hid (∀ y, y < H → (LN y).length = w8 ∧ 8 * (y * W) + w8 ≤ pix.size) := Lib.hid fun y hy => by
      have : (y + 1) * W ≤ H * W := Nat.mul_le_mul_right _ hy
      rw [Nat.add_mul, Nat.one_mul, Nat.mul_comm H] at this
      rw [hLN]
      dsimp only
      rw [List.length_take, List.length_drop, hpl]
      omega
    have HCUT : Hid (∀ y lo hi, lo = 8 * (y * W) → hi = lo + w8 → hi ≤ pix.size → ∀ v, (Instr.slice 9 (.string pix) (some (.int .i64 (lo : Int))) (some (.int .i64 (hi : Int))) none).run Tryd.prog v = .ok (.string (strL (LN y))) v) := Lib.hid fun y lo hi h1 h2 h3 v => by
      have h := cutMid_run pix (i := lo) (j := hi) (by omega) v h3
      rw [show hi - lo = w8 by omega, h1, hw8] at h
      rw [hLN]
      rw [h1]
      exact h
    have e8 : (8 : Int) * (W : Int) = (w8 : Int) := by omega
    have v8 := wrapI_in (show w8 < 1000000000000000 by omega)
    have hw8l : w8 ≤ 8192 := by omega
    have HW8 := Lib.hid hw8
    have HPS := Lib.hid hps
    have HHl : Hid (H ≤ 1024) := Lib.hid hH2
    clear hr hR1 hTT hPK hLN hw8 hps hpl
    go_enter Tryd.func13, Tryd.ntmps13
    go_upto_region 1 with (fail)
    rw [← hw1, ← hb1]
    clear hw1 hb1
    obtain ⟨c0, c1, c2, hgl⟩ := HC.out _ (But.refl _ _)
    go_wp2_with fail
    refine (HCK.out _).mono ?_
    rintro e w2 ⟨rfl, hB2⟩
    have HB12 := Lib.hid hB2
    have HB2 := Lib.hid (HB.out.trans hB2)
    clear hB2 c0 c1 c2 hgl
    obtain ⟨bb, hbb⟩ : ∃ g, g = w2.heap.size := ⟨_, rfl⟩
    obtain ⟨w3, hw3⟩ : ∃ X, X = w2.alloc (.cells #[.pointer none, .slice none 0 0] 62) := ⟨_, rfl⟩
    have HBL : Hid (Bld w3 w1.heap.size bb []) := Lib.hid (by rw [hw3, hbb]; exact Bld.fresh w2 HB12.out.size)
    have hB3 : But [] w2 w3 := by rw [hw3]; exact (But.refl [] w2).alloc _
    have HB13 := Lib.hid (HB12.out.trans hB3)
    have HB3 := Lib.hid (HB2.out.trans hB3)
    clear hB3
    go_upto_region 5 with (fail)
    rw [← hw3, ← hbb]
    clear hw3 hbb
    obtain ⟨c0, c1, c2, hgl⟩ := HC.out _ HB13.out
    go_wp2_with fail
    go_loopw [6, 19] (fun av yv wx => ∃ (y : Nat) (ab : ByteArray) (DN : List UInt8), y ≤ H ∧ yv = .int .i64 y ∧ av = .string ab ∧ Hid (TT = DN ++ PK y ab.data.toList) ∧ Hid (y = 0 → ab.data.toList = []) ∧ Hid (ab.size = 0 ∨ ab.size = w8) ∧ Hid (DN.length ≤ y * 8200) ∧ Hid (Bld wx w1.heap.size bb DN) ∧ Hid (But [] w1 wx)) (fun _ yv _ => H - (intOf yv).toNat)
    case atStart => exact ⟨0, ⟨#[]⟩, [], Nat.zero_le _, rfl, rfl, HT0, Lib.hid fun _ => rfl, Lib.hid (.inl rfl), Lib.hid (Nat.zero_le _), HBL, HB13⟩
    case round =>
      clear HT0 HBL c0 c1 c2 hgl HB13 HB3
      obtain ⟨y, ab, DN, hy, rfl, rfl, HTT, HA0, HAS, HDN, HBL, HBx⟩ := hrel
      obtain ⟨c0, c1, c2, hgl⟩ := HC.out _ HBx.out
      by_cases hyl : y < H
      · obtain ⟨hll, hfit⟩ := HLL.out y hyl
        obtain ⟨lo, hlo⟩ : ∃ z, z = w8 * y := ⟨_, rfl⟩
        have elo : (w8 : Int) * (y : Int) = (lo : Int) := by rw [hlo, Int.natCast_mul]
        have hlo8 : lo = 8 * (y * W) := by rw [hlo, HW8.out, Nat.mul_assoc, Nat.mul_comm W]
        obtain ⟨y1, hy1⟩ : ∃ z, z = y + 1 := ⟨_, rfl⟩
        have ey1 : (y : Int) + 1 = (y1 : Int) := by omega
        obtain ⟨hi, hhi⟩ : ∃ z, z = w8 * y1 := ⟨_, rfl⟩
        have ehi : (w8 : Int) * (y1 : Int) = (hi : Int) := by rw [hhi, Int.natCast_mul]
        have hhi2 : hi = lo + w8 := by rw [hhi, hlo, hy1, Nat.mul_add, Nat.mul_one]
        have hpz : pix.size ≤ 32768 := by rw [HPS.out]; omega
        have hhil : hi ≤ pix.size := by omega
        have vlo := wrapI_in (show lo < 1000000000000000 by omega)
        have vhi := wrapI_in (show hi < 1000000000000000 by omega)
        have vy1 := wrapI_in (show y1 < 1000000000000000 by omega)
        have ks := HCUT.out y lo hi hlo8 hhi2 hhil
        obtain ⟨ln, hln⟩ : ∃ z, z = strL (LN y) := ⟨_, rfl⟩
        rw [← hln] at ks
        have hlns : ln.size = w8 := by rw [hln, strL_size, hll]
        have hlnl : ln.data.toList = LN y := by rw [hln, strL_list]
        have hw0 : wrongP ((8 : Nat) : Int) ln ab = 0 := by
          unfold wrongP
          refine if_neg ?_
          rintro (h | h | ⟨h, h'⟩)
          · omega
          · omega
          · rcases HAS.out with h2 | h2
            · exact h h2
            · exact h' (by rw [h2, hlns])
        obtain ⟨kp, hkp⟩ : ∃ z, z = pickF 8 (LN y) ab.data.toList := ⟨_, rfl⟩
        have hkp4 : kp ≤ 4 := by rw [hkp]; exact pickF_le _ _ _
        have hpa : pickA ((8 : Nat) : Int) ln ab = kp := by rw [pickA_ok hw0, hlnl, hkp]
        have hwf : wrongF ((8 : Nat) : Int) (kp : Int) ln ab = 0 := by rw [wrongF_kind (by omega) (by omega)]; exact hw0
        obtain ⟨fd, hfd⟩ : ∃ z, z = doF (kp : Nat) 8 (LN y) ab.data.toList := ⟨_, rfl⟩
        have hda : doA ((8 : Nat) : Int) (kp : Int) ln ab = fd := by rw [doA_ok hwf, hlnl, hfd]
        have hfl : fd.length = w8 := by rw [hfd, doF_length, hll]
        have has : ab.size ≤ 8192 := by rcases HAS.out with h | h <;> omega
        have HPI : Hid (∀ v, Calls Tryd.prog 31 #[.int .i64 8, .string ln, .string ab] v fun e w' => e = .returned (.tuple #[.int .i64 (kp : Nat), .int .i64 0]) ∧ But [] v w') := Lib.hid fun v => by
          have h := ppick_any v ((8 : Nat) : Int) ln ab (by omega) (by omega)
          rw [hpa, hw0] at h
          exact h
        have HDO : Hid (∀ v, Calls Tryd.prog 32 #[.int .i64 8, .int .i64 (kp : Nat), .string ln, .string ab] v fun e w' => e = .returned (.tuple #[.string (strL fd), .int .i64 0]) ∧ But [] v w') := Lib.hid fun v => by
          have h := pdo_any v ((8 : Nat) : Int) (kp : Int) ln ab (by omega) (by omega)
          rw [hda, hwf] at h
          exact h
        have hku : (UInt8.ofNat kp).toNat = kp := by rw [UInt8.toNat_ofNat']; omega
        have HDNl : Hid (DN.length + 1 + fd.length ≤ (y + 1) * 8200 ∧ DN.length + 1 + fd.length ≤ 8396800) := Lib.hid (by have h1 := HDN.out; have h2 := HHl.out; omega)
        have HWB : Hid (∀ v, Bld v w1.heap.size bb DN → But [] w1 v → Calls Tryd.prog 33 #[.pointer (some ⟨bb, 0, none⟩), .int .u8 (kp : Nat)] v fun e w' => e = .returned .nilIface ∧ Bld w' w1.heap.size bb (DN ++ [UInt8.ofNat kp]) ∧ But [] w1 w') := Lib.hid fun v k1 k2 => by
          have h := bld_putB (UInt8.ofNat kp) k1 k2 (by have := HDNl.out; omega)
          rw [hku] at h
          exact h
        obtain ⟨fs, hfs⟩ : ∃ z, z = strL fd := ⟨_, rfl⟩
        have HWS : Hid (∀ v, Bld v w1.heap.size bb (DN ++ [UInt8.ofNat kp]) → But [] w1 v → Calls Tryd.prog 34 #[.pointer (some ⟨bb, 0, none⟩), .string fs] v fun e w' => e = .returned (.tuple #[.int .i64 (fd.length : Nat), .nilIface]) ∧ Bld w' w1.heap.size bb (DN ++ [UInt8.ofNat kp] ++ fd) ∧ But [] w1 w') := Lib.hid fun v k1 k2 => by
          rw [hfs]
          exact bld_put fd k1 k2 (by rw [List.length_append, List.length_singleton]; have := HDNl.out; omega)
        rw [← hfs] at HDO
        have HTT2 : Hid (TT = (DN ++ [UInt8.ofNat kp] ++ fd) ++ PK (y + 1) ln.data.toList) := Lib.hid (by rw [HTT.out, HTN.out y _ hyl HA0.out, ← hkp, ← hfd, hlnl]; simp)
        have HA2 : Hid (y + 1 = 0 → ln.data.toList = []) := Lib.hid fun h => absurd h (by omega)
        have HAS2 : Hid (ln.size = 0 ∨ ln.size = w8) := Lib.hid (.inr hlns)
        have HDN2 : Hid ((DN ++ [UInt8.ofNat kp] ++ fd).length ≤ (y + 1) * 8200) := Lib.hid (by rw [List.length_append, List.length_append, List.length_singleton]; exact HDNl.out.1)
        have hk256 : kp < 256 := by omega
        have i0 : (0 : Int) ≤ (y : Int) := by omega
        have i1 : (y : Int) < (H : Int) := by omega
        have HY1 := Lib.hid hy1
        clear hll hfit hlo hlo8 hhi hhi2 hpz hln hlns hlnl hw0 hkp hpa hwf hfd hda hfl has hku hfs
        clear hy1
        go_wp2_with fail
        refine (HPI.out _).mono ?_
        rintro e w4 ⟨rfl, hB4⟩
        have HL4 := Lib.hid (HBL.out.but hB4)
        have HB4 := Lib.hid (HBx.out.trans hB4)
        clear hB4 c0 c1 c2 hgl ks
        go_wp2_with fail
        refine (HDO.out _).mono ?_
        rintro e w5 ⟨rfl, hB5⟩
        have HL5 := Lib.hid (HL4.out.but hB5)
        have HB5 := Lib.hid (HB4.out.trans hB5)
        clear hB5
        go_wp2_with fail
        refine (HWB.out _ HL5.out HB5.out).mono ?_
        rintro e w6 ⟨rfl, hL6, hX6⟩
        have HL6 := Lib.hid hL6
        have HX6 := Lib.hid hX6
        clear hL6 hX6
        go_wp2_with fail
        refine (HWS.out _ HL6.out HX6.out).mono ?_
        rintro e w7 ⟨rfl, hL7, hX7⟩
        have HL7 := Lib.hid hL7
        have HX7 := Lib.hid hX7
        clear hL7 hX7
        go_wp2
        go_roundw
        case rel => exact ⟨y + 1, ln, DN ++ [UInt8.ofNat kp] ++ fd, by omega, by go_num, rfl, HTT2, HA2, HAS2, HDN2, HL7, HX7⟩
        case measure => simp [intOf] <;> omega
      · obtain rfl : H = y := by omega
        have HTe : Hid (DN = TT) := Lib.hid (by rw [HTT.out, HTE.out, List.append_nil])
        have HTX := Lib.hid (bld_text HBL.out HBx.out)
        rw [HTe.out] at HTX
        go_wp2_with fail
        refine HTX.out.mono ?_
        rintro e w4 ⟨rfl, hB4⟩
        have HB4 := Lib.hid hB4
        clear hB4
        go_wp2
        go_ret2
        exact ⟨by rw [HR1.out, HR2.out]; rfl, HB.out.trans HB4.out⟩
  · have HR : Hid (rowsA a b pix = (⟨#[]⟩, r)) := Lib.hid (by unfold rowsA; rw [if_pos (by rw [← hr]; exact h0), hr])
    have HR1 : Hid ((rowsA a b pix).1 = ⟨#[]⟩) := Lib.hid (by rw [HR.out])
    have HR2 : Hid ((rowsA a b pix).2 = r) := Lib.hid (by rw [HR.out])
    obtain ⟨R1, hR1⟩ : ∃ R, R = rowsA a b pix := ⟨_, rfl⟩
    rw [← hR1] at HR1 HR2 ⊢
    have q1 : (r != 0) = true := by simpa using h0
    clear hr hR1 HR
    go_enter Tryd.func13, Tryd.ntmps13
    go_upto_region 1 with (fail)
    rw [← hw1, ← hb1]
    clear hw1 hb1
    obtain ⟨c0, c1, c2, hgl⟩ := HC.out _ (But.refl _ _)
    go_wp2_with fail
    refine (HCK.out _).mono ?_
    rintro e w2 ⟨rfl, hB2⟩
    have HB2 := Lib.hid (HB.out.trans hB2)
    clear hB2 c0 c1 c2 hgl
    go_wp2
    go_ret2
    exact ⟨by rw [HR1.out, HR2.out]; rfl, HB2.out⟩
end Go.Proofs.YtfiedoejdikcgaaDoor
set_option maxRecDepth 100000
set_option linter.unusedVariables false
namespace Go.Proofs.YtfiedoejdikcgaaDoor
set_option maxRecDepth 100000
open Go Go.RowKit
theorem ex12_one : imageA 1 1 8 0 0 ⟨#[]⟩ ⟨#[]⟩ false ⟨#[0, 128]⟩ = ((1, 1, ⟨#[128, 128, 128, 128, 128, 128, 255, 255]⟩), 0) := by decide +kernel
theorem ex12_two : imageA 1 1 8 0 0 ⟨#[]⟩ ⟨#[]⟩ false ⟨#[0]⟩ = ((0, 0, ⟨#[]⟩), 30) := by decide +kernel
theorem ex12_three : imageA 1 1 8 0 0 ⟨#[]⟩ ⟨#[]⟩ false ⟨#[5, 128]⟩ = ((0, 0, ⟨#[]⟩), 28) := by decide +kernel
theorem ex12_four : rowsA 1 1 ⟨#[0, 0, 0, 0, 0, 0, 0, 0]⟩ = (⟨#[0, 0, 0, 0, 0, 0, 0, 0, 0]⟩, 0) := by decide +kernel
attribute [local irreducible] imageA rowsA checkA
set_option maxHeartbeats 1000000 in
theorem egrey_any (w : World) : Calls Tryd.prog 20 #[] w fun e w' => e = .returned (.agg #[.int .i64 1, .int .i64 1, .int .i64 8, .int .i64 0, .int .i64 0, .string ⟨#[]⟩, .string ⟨#[]⟩, .bool false]) ∧ But [] w w' := by
  have hI := Is.fresh w 31 #[.int .i64 1, .int .i64 1, .int .i64 8, .int .i64 0, .int .i64 0, .string ⟨#[]⟩, .string ⟨#[]⟩, .bool false]
  have HI := Lib.hid hI
  have HB := Lib.hid ((But.refl [] w).alloc (.cells #[.int .i64 1, .int .i64 1, .int .i64 8, .int .i64 0, .int .i64 0, .string ⟨#[]⟩, .string ⟨#[]⟩, .bool false] 31))
  clear hI
  go_enter Tryd.func20, Tryd.ntmps20
  go_wp2
  have e0 := HI.out.cell 0
  have e1 := HI.out.cell 1
  have e2 := HI.out.cell 2
  have e3 := HI.out.cell 3
  have e4 := HI.out.cell 4
  have e5 := HI.out.cell 5
  have e6 := HI.out.cell 6
  have e7 := HI.out.cell 7
  obtain ⟨V, hV⟩ : ∃ V, V = w.alloc (.cells #[.int .i64 1, .int .i64 1, .int .i64 8, .int .i64 0, .int .i64 0, .string ⟨#[]⟩, .string ⟨#[]⟩, .bool false] 31) := ⟨_, rfl⟩
  have hB := HB.out
  rw [← hV] at hB e0 e1 e2 e3 e4 e5 e6 e7 ⊢
  clear hV HI HB
  refine bodyPost_ret (v := .agg #[.int .i64 1, .int .i64 1, .int .i64 8, .int .i64 0, .int .i64 0, .string ⟨#[]⟩, .string ⟨#[]⟩, .bool false]) ?_ rfl ⟨rfl, hB⟩
  simp [results, Tryd.results20, go_sem, e0, e1, e2, e3, e4, e5, e6, e7]
theorem zeros_text (w : World) (n : Nat) (hn : n ≤ 100) : (Instr.makeSlice 45 (.int .i64 (n : Int)) (.int .i64 (n : Int))).run Tryd.prog w = .ok (.slice (some ⟨w.heap.size, 0, none⟩) n n) (noughtsF w n) ∧ (convert 45 9 (.slice (some ⟨w.heap.size, 0, none⟩) n n)).run Tryd.prog (noughtsF w n) = .ok (.string (strL (List.replicate n 0))) (noughtsF w n) := by
  refine ⟨run_noughts w (by omega), ?_⟩
  have h := (noughtsB w n).text n
  rw [List.length_replicate] at h
  exact h
set_option maxHeartbeats 2000000 in
theorem awake12_of {G : World → Prop} (hL : Lasts G) (hi : ImC G) (hr : RwC G) : Awk12 G := by
  intro w hG
  have HG : Hid (∀ v, But [] w v → G v) := Lib.hid fun v hv => hL _ _ hG hv
  have H1 : Hid (∀ v, But [] w v → Calls Tryd.prog 11 #[.agg #[.int .i64 1, .int .i64 1, .int .i64 8, .int .i64 0, .int .i64 0, .string ⟨#[]⟩, .string ⟨#[]⟩, .bool false], .string ⟨#[0, 128]⟩] v fun e w' => e = .returned (.tuple #[.agg #[.int .i64 1, .int .i64 1, .string ⟨#[128, 128, 128, 128, 128, 128, 255, 255]⟩], .int .i64 0]) ∧ But [] v w') := Lib.hid fun v hv => by
    have h := hi v 1 1 8 0 0 ⟨#[]⟩ ⟨#[]⟩ ⟨#[0, 128]⟩ false (HG.out v hv) (by decide) (by decide) (by decide)
    rw [ex12_one] at h
    exact h
  have H2 : Hid (∀ v, But [] w v → Calls Tryd.prog 11 #[.agg #[.int .i64 1, .int .i64 1, .int .i64 8, .int .i64 0, .int .i64 0, .string ⟨#[]⟩, .string ⟨#[]⟩, .bool false], .string ⟨#[0]⟩] v fun e w' => e = .returned (.tuple #[.agg #[.int .i64 0, .int .i64 0, .string ⟨#[]⟩], .int .i64 30]) ∧ But [] v w') := Lib.hid fun v hv => by
    have h := hi v 1 1 8 0 0 ⟨#[]⟩ ⟨#[]⟩ ⟨#[0]⟩ false (HG.out v hv) (by decide) (by decide) (by decide)
    rw [ex12_two] at h
    exact h
  have H3 : Hid (∀ v, But [] w v → Calls Tryd.prog 11 #[.agg #[.int .i64 1, .int .i64 1, .int .i64 8, .int .i64 0, .int .i64 0, .string ⟨#[]⟩, .string ⟨#[]⟩, .bool false], .string ⟨#[5, 128]⟩] v fun e w' => e = .returned (.tuple #[.agg #[.int .i64 0, .int .i64 0, .string ⟨#[]⟩], .int .i64 28]) ∧ But [] v w') := Lib.hid fun v hv => by
    have h := hi v 1 1 8 0 0 ⟨#[]⟩ ⟨#[]⟩ ⟨#[5, 128]⟩ false (HG.out v hv) (by decide) (by decide) (by decide)
    rw [ex12_three] at h
    exact h
  have H4 : Hid (∀ v, But [] w v → Calls Tryd.prog 13 #[.agg #[.int .i64 1, .int .i64 1, .string ⟨#[0, 0, 0, 0, 0, 0, 0, 0]⟩]] v fun e w' => e = .returned (.tuple #[.string ⟨#[0, 0, 0, 0, 0, 0, 0, 0, 0]⟩, .int .i64 0]) ∧ But [] v w') := Lib.hid fun v hv => by
    have h := hr v 1 1 ⟨#[0, 0, 0, 0, 0, 0, 0, 0]⟩ (HG.out v hv) (by decide)
    rw [ex12_four] at h
    exact h
  have HGR : Hid (∀ v, Calls Tryd.prog 20 #[] v fun e w' => e = .returned (.agg #[.int .i64 1, .int .i64 1, .int .i64 8, .int .i64 0, .int .i64 0, .string ⟨#[]⟩, .string ⟨#[]⟩, .bool false]) ∧ But [] v w') := Lib.hid fun v => egrey_any v
  have keq := fun v => ras_eql v 1 1 ⟨#[128, 128, 128, 128, 128, 128, 255, 255]⟩
  clear hi hr hG hL
  go_enter Tryd.func10, Tryd.ntmps10
  go_wp2_with fail
  refine (HGR.out _).mono ?_
  rintro e wz ⟨rfl, hBz⟩
  have HBz := Lib.hid hBz
  clear hBz
  go_wp2_with fail
  refine (H1.out _ HBz.out).mono ?_
  rintro e w1 ⟨rfl, hB1⟩
  have HB1 := Lib.hid (HBz.out.trans hB1)
  clear hB1
  go_upto_region 2 with (fail)
  obtain ⟨b1, hb1⟩ : ∃ g, g = w1.heap.size := ⟨_, rfl⟩
  obtain ⟨w2, hw2⟩ : ∃ X, X = w1.alloc (.cells #[.int .i64 1, .int .i64 1, .string ⟨#[128, 128, 128, 128, 128, 128, 255, 255]⟩] 23) := ⟨_, rfl⟩
  rw [← hw2, ← hb1]
  have HI1 : Hid (Is w2 b1 23 #[.int .i64 1, .int .i64 1, .string ⟨#[128, 128, 128, 128, 128, 128, 255, 255]⟩]) := Lib.hid (by rw [hw2, hb1]; exact Is.fresh _ _ _)
  have HB2 : Hid (But [] w w2) := Lib.hid (by rw [hw2]; exact HB1.out.alloc _)
  clear hw2 hb1
  go_wp2_with fail
  refine (HGR.out _).mono ?_
  rintro e wyH2 ⟨rfl, hBz⟩
  have HB2 := Lib.hid (HB2.out.trans hBz)
  have HI1 := Lib.hid (HI1.out.but hBz (by simp))
  clear hBz
  go_wp2_with fail
  refine (H2.out _ HB2.out).mono ?_
  rintro e w3 ⟨rfl, hB3⟩
  have HI3 := Lib.hid ((HI1.out.but hB3 (by simp)).alloc (.cells #[.int .i64 0, .int .i64 0, .string ⟨#[]⟩] 23))
  have HB3 := Lib.hid ((HB2.out.trans hB3).alloc (.cells #[.int .i64 0, .int .i64 0, .string ⟨#[]⟩] 23))
  clear hB3
  go_upto_region 3 with (fail)
  obtain ⟨w4, hw4⟩ : ∃ X, X = w3.alloc (.cells #[.int .i64 0, .int .i64 0, .string ⟨#[]⟩] 23) := ⟨_, rfl⟩
  rw [← hw4] at HI3 HB3 ⊢
  clear hw4
  go_wp2_with fail
  refine (HGR.out _).mono ?_
  rintro e wyH3 ⟨rfl, hBz⟩
  have HB3 := Lib.hid (HB3.out.trans hBz)
  have HI3 := Lib.hid (HI3.out.but hBz (by simp))
  clear hBz
  go_wp2_with fail
  refine (H3.out _ HB3.out).mono ?_
  rintro e w5 ⟨rfl, hB5⟩
  have HI5 := Lib.hid ((HI3.out.but hB5 (by simp)).alloc (.cells #[.int .i64 0, .int .i64 0, .string ⟨#[]⟩] 23))
  have HB5 := Lib.hid ((HB3.out.trans hB5).alloc (.cells #[.int .i64 0, .int .i64 0, .string ⟨#[]⟩] 23))
  clear hB5
  go_upto_region 4 with (fail)
  obtain ⟨w6, hw6⟩ : ∃ X, X = w5.alloc (.cells #[.int .i64 0, .int .i64 0, .string ⟨#[]⟩] 23) := ⟨_, rfl⟩
  rw [← hw6] at HI5 HB5 ⊢
  clear hw6
  obtain ⟨km, kt⟩ := zeros_text w6 8 (by decide)
  have hB7 := noughtsF_but w6 8
  obtain ⟨w7, hw7⟩ : ∃ X, X = noughtsF w6 8 := ⟨_, rfl⟩
  rw [← hw7] at km kt hB7
  have km : (Instr.makeSlice 45 (.int .i64 8) (.int .i64 8)).run Tryd.prog w6 = .ok (.slice (some ⟨w6.heap.size, 0, none⟩) 8 8) w7 := km
  rw [show strL (List.replicate 8 0) = ⟨#[0, 0, 0, 0, 0, 0, 0, 0]⟩ from rfl] at kt
  have HI7 := Lib.hid (HI5.out.but hB7 (by simp))
  have HB7 := Lib.hid (HB5.out.trans hB7)
  clear hw7 hB7
  go_wp2_with fail
  refine (H4.out _ HB7.out).mono ?_
  rintro e w8 ⟨rfl, hB8⟩
  have HI8 := Lib.hid (HI7.out.but hB8 (by simp))
  have HB8 := Lib.hid (HB7.out.trans hB8)
  clear hB8 km kt
  have e0 := HI8.out.cell 0
  have e1 := HI8.out.cell 1
  have e2 := HI8.out.cell 2
  have hgl := HI8.out.lt
  obtain ⟨km, kt⟩ := zeros_text w8 9 (by decide)
  have HB9 := Lib.hid (HB8.out.trans (noughtsF_but w8 9))
  obtain ⟨w9, hw9⟩ : ∃ X, X = noughtsF w8 9 := ⟨_, rfl⟩
  rw [← hw9] at km kt HB9
  have km : (Instr.makeSlice 45 (.int .i64 9) (.int .i64 9)).run Tryd.prog w8 = .ok (.slice (some ⟨w8.heap.size, 0, none⟩) 9 9) w9 := km
  rw [show strL (List.replicate 9 0) = ⟨#[0, 0, 0, 0, 0, 0, 0, 0, 0]⟩ from rfl] at kt
  clear hw9
  go_wp2
  go_ret
  exact ⟨rfl, HB9.out⟩
end Go.Proofs.YtfiedoejdikcgaaDoor
set_option maxRecDepth 100000
set_option linter.unusedVariables false
namespace Go.Proofs.YtfiedoejdikcgaaDoor
set_option maxRecDepth 100000
open Go Go.RowKit
theorem lastsP : Lasts GP := fun _ _ h hB => h.but hB
theorem imCP : ImC GP := fun v _ _ _ _ _ _ _ _ _ hG hp ht hr => pimage_any v hG hp ht hr
theorem rwCP : RwC GP := fun v _ _ _ _ hp => prows_any v hp
theorem awk12P : Awk12 GP := awake12_of lastsP imCP rwCP
end Go.Proofs.YtfiedoejdikcgaaDoor
set_option maxRecDepth 100000
set_option linter.unusedVariables false
namespace Go.Proofs.YtfiedoejdikcgaaDoor
set_option maxRecDepth 100000
open Go Go.RowKit Go.ChangeShapes Go.WideShapes
theorem cells_intL : Tryd.prog.cellsOf 3 = 1 := by kernel_rfl
end Go.Proofs.YtfiedoejdikcgaaDoor
namespace Go.Proofs.YtfiedoejdikcgaaDoor
set_option maxRecDepth 100000
open Go Go.RowKit Go.ChangeShapes Go.WideShapes Go.ChangeAt Go.WideMaps Go.WideElems
def datP {H : Type} (p : PassL) : DataW H := .agg [.lit (.int .i64 (p.x : Nat)), .lit (.int .i64 (p.y : Nat)), .lit (.int .i64 (p.dx : Nat)), .lit (.int .i64 (p.dy : Nat))]
theorem cells_placeL : Tryd.prog.cellsOf 98 = 4 := by kernel_rfl
section
variable {H : Type} {enc : TypeId × Value → H} {w : World} {base : Nat} {spare : Nat → Bool} {held : Bool}
theorem place_cells {m : Nat} {cs : List Value} {q : List MemPlace} {p : PassL} (h : DataW.trod enc Tryd.prog w base spare held m 98 cs = some (datP p, q)) :
    cs = [.int .i64 (p.x : Nat), .int .i64 (p.y : Nat), .int .i64 (p.dx : Nat), .int .i64 (p.dy : Nat)] := by
  obtain ⟨ys, n', _, hx, hcl, hyl, hfs⟩ := DataW.trod_struct Tryd.underlying98 h
  injection hx with hx1 hx2
  injection hx1 with hx1
  rw [cells_placeL] at hcl
  match cs, hcl with
  | [x0, x1, x2, x3], _ =>
    have hy : ys.length = 4 := hyl
    match ys, hy with
    | [y0, y1, y2, y3], _ =>
      have g0 := hfs 0 _ rfl
      have g1 := hfs 1 _ rfl
      have g2 := hfs 2 _ rfl
      have g3 := hfs 3 _ rfl
      obtain ⟨q0, c0, z0, _⟩ := DataW.trod_int Tryd.underlying3 (x := y0) g0
      obtain ⟨q1, c1, z1, _⟩ := DataW.trod_int Tryd.underlying3 (x := y1) g1
      obtain ⟨q2, c2, z2, _⟩ := DataW.trod_int Tryd.underlying3 (x := y2) g2
      obtain ⟨q3, c3, z3, _⟩ := DataW.trod_int Tryd.underlying3 (x := y3) g3
      have c0 : ([x0, x1, x2, x3].drop 0).take (Tryd.prog.cellsOf 3) = [.int .i64 q0] := c0
      have c1 : ([x0, x1, x2, x3].drop 1).take (Tryd.prog.cellsOf 3) = [.int .i64 q1] := c1
      have c2 : ([x0, x1, x2, x3].drop 2).take (Tryd.prog.cellsOf 3) = [.int .i64 q2] := c2
      have c3 : ([x0, x1, x2, x3].drop 3).take (Tryd.prog.cellsOf 3) = [.int .i64 q3] := c3
      rw [cells_intL] at c0 c1 c2 c3
      have e0 : x0 = .int .i64 q0 := by simpa using c0
      have e1 : x1 = .int .i64 q1 := by simpa using c1
      have e2 : x2 = .int .i64 q2 := by simpa using c2
      have e3 : x3 = .int .i64 q3 := by simpa using c3
      subst z0 z1 z2 z3
      simp at hx1
      obtain ⟨r0, r1, r2, r3⟩ := hx1
      rw [e0, e1, e2, e3, ← r0, ← r1, ← r2, ← r3]
theorem places_cells {m : Nat} {cs : List Value} {q : List MemPlace} (h : DataW.trod enc Tryd.prog w base spare held m 99 cs = some (.agg (placesL.map datP), q)) :
    ∀ i p, placesL[i]? = some p → (cs.drop (i * 4)).take 4 = [.int .i64 (p.x : Nat), .int .i64 (p.y : Nat), .int .i64 (p.dx : Nat), .int .i64 (p.dy : Nat)] := by
  intro i p hp
  obtain ⟨xs, k, rfl, hx, hlen, hxn, hel⟩ := DataW.trod_array Tryd.underlying99 h
  injection hx with hx1 hx2
  injection hx1 with hx1
  have hi : i < 8 := (List.getElem?_eq_some_iff.1 hp).1
  have h1 := hel i hi
  rw [cells_placeL, List.getElem?_eq_getElem (by omega)] at h1
  have hz : (placesL.map (datP (H := H)))[i]? = some (datP p) := by rw [List.getElem?_map, hp]; rfl
  rw [hx1, List.getElem?_map, List.getElem?_eq_getElem (by omega)] at hz
  have hz2 : (xs[i]'(by omega)).1 = datP p := by simpa using hz
  have h2 : xs[i]'(by omega) = (datP p, (xs[i]'(by omega)).2) := by rw [← hz2]
  rw [h2] at h1
  exact place_cells h1
end
/-- The variable that the rows list, with what it holds. -/
def laidL : List (String × DataW Unit) := [("vitrine/lace.places", Rows.laid_vitrine_lace_places)]
theorem g0 : Tryd.prog.globalNamed "vitrine/lace.places" = some 0 := by kernel_rfl
theorem t0 : (Tryd.prog.globals[0]?).map (·.type) = some 99 := by kernel_rfl
theorem door_met (os : Os) (args : Array Value) : laidMetH Tryd.prog laidL ((World.doorLaid Tryd.prog 400 os).forCall (fun _ _ => 0) ⟨#[], args, []⟩).memory :=
  laidMetH_of_parts3 (fuel := 8) (laidMet_of_run' 8 (by kernel_rfl) (by kernel_rfl)) (by kernel_rfl) (by kernel_rfl)
theorem cell_lt {W : World} {a : Addr} {v : Value} (h : W.cell? a = some v) : a.block < W.heap.size := by
  by_cases hl : a.block < W.heap.size
  · exact hl
  · unfold World.cell? at h
    rw [Array.getElem?_eq_none (by omega)] at h
    cases h
theorem of_laid {W : World} (h : laidMetH Tryd.prog laidL W) : GP W := by
  rw [MakeChecks.laidMetH_plain _ _ _ (by kernel_rfl)] at h
  obtain ⟨ps, ⟨g0', t0', cs0, f0, p0, q0, hg0, ht0, hv0, hd0, _, _⟩, _, _⟩ := h
  obtain rfl := Option.some.inj (g0.symm.trans hg0)
  obtain rfl := Option.some.inj (t0.symm.trans ht0)
  have a0 := places_cells hd0
  have b0 := fun i => World.var?_cell hg0 hv0 i
  have c : ∀ (i : Nat), cs0.toList[i]? = cs0[i]? := fun i => by simp
  intro i p hp
  have hc := a0 i p hp
  have hk : ∀ k, k < 4 → W.cell? ⟨0, i * 4 + k, none⟩ = ([.int .i64 (p.x : Nat), .int .i64 (p.y : Nat), .int .i64 (p.dx : Nat), .int .i64 (p.dy : Nat)] : List Value)[k]? := fun k hk => by
    rw [b0 (i * 4 + k), ← c, ← hc, List.getElem?_take_of_lt hk, List.getElem?_drop]
  have h0 := hk 0 (by omega)
  exact ⟨⟨h0, hk 1 (by omega), hk 2 (by omega), hk 3 (by omega)⟩, cell_lt h0⟩
end Go.Proofs.YtfiedoejdikcgaaDoor
