/- Several texts in one: Four, BaM, BbJ, BbK (what BandsApart reach of them). -/
import Derived.Test.YtmdiilnipoblbaaDoorK01
import Derived.Test.YtmdiilnipoblbaaDoorK02
import Derived.Test.YtmdiilnipoblbaaDoorK04
import Derived.Test.YtmdiilnipoblbaaDoorK05
import Derived.Test.YtmdiilnipoblbaaDoorK07
import Derived.Test.YtmdiilnipoblbaaDoorK09
import Derived.Test.YtmdiilnipoblbaaDoorK10
import Derived.Test.YtmdiilnipoblbaaDoorK15
import Derived.ArgAppend
import Derived.Below
import Derived.BigQuiet
import Derived.BigRegion
import Derived.Deep.AppendLies
import Derived.Deep.Cut
import Derived.Deep.CutBlock
import Derived.Deep.CutRange
import Derived.Deep.DeepCutAuto
import Derived.Deep.Draws
import Derived.Deep.LoopGhost
import Derived.Deep.QuietTactic
import Derived.Deep.RegionLaw
import Derived.Deep.RegionWith
import Derived.Deep.Slices
import Derived.Handy
import Derived.Laws.BitsAllLaws
import Derived.Laws.BitsLemmas
import Derived.Laws.BytesArg
import Derived.Laws.Cells
import Derived.Laws.Externs
import Derived.Laws.IdiomStrings
import Derived.Laws.MakeOwn
import Derived.Laws.OwnMore
import Derived.Laws.Rows
import Derived.Laws.StructEq
import Derived.Laws.Tables
import Derived.Lib.AppendStr
import Derived.Lib.BufferWrite
import Derived.Lib.Hide
import Derived.Lib.UnsafeStr
import Derived.Maps.AppendAt
import Derived.OpenShut
import Derived.OrdersHeld
import Derived.OrdersIn
import Derived.Outline
import Derived.OwnWalk
import Derived.OwnWalkIn
import Derived.ProofKit
import Derived.RangeFuncCalls
import Derived.RegionTactic
import Derived.Shelf.LaysM
import Derived.Shelf.Small.Wraps
import Derived.Shelf.Strconv.Clone
import Derived.Shelf.Strings.Builder1
import Derived.Shelf.Strings.BuilderF
import Derived.Shelf.Strings.Prefix
import Derived.Shelf.Strings.Repeat
import Derived.Sort.CutIn
import Derived.TacticsInMore
import Derived.Test.YtmdiilnipoblbaaDoorChecked
import Derived.WalkKit
set_option maxRecDepth 100000
set_option linter.unusedVariables false
set_option linter.unusedVariables false
namespace Go.Proofs.YtmdiilnipoblbaaDoor
set_option maxRecDepth 100000
open Go
theorem ofL_four {n : Nat} (h : n < 4294967296) : ofL (fourL n) = n := by
  have a := UInt8.toNat_ofNat' (n := n / 16777216)
  have b := UInt8.toNat_ofNat' (n := n / 65536)
  have c := UInt8.toNat_ofNat' (n := n / 256)
  have d := UInt8.toNat_ofNat' (n := n)
  show 256 * (256 * (256 * (256 * 0 + (UInt8.ofNat (n / 16777216)).toNat) + (UInt8.ofNat (n / 65536)).toNat) + (UInt8.ofNat (n / 256)).toNat) + (UInt8.ofNat n).toNat = n
  omega
end Go.Proofs.YtmdiilnipoblbaaDoor
set_option linter.unusedVariables false
namespace Go.Proofs.YtmdiilnipoblbaaDoor
set_option maxRecDepth 100000
open Go
/-- The bands in their order are the bytes. -/
theorem bands_upto {w h : Nat} {pix : List UInt8} (hp : pix.length = 8 * w * h) : ∀ k, k ≤ manyB h → ((List.range k).flatMap fun i => bandB w i pix) ++ pix.drop (64 * w * k) = pix
  | 0, _ => by rw [Nat.mul_zero]; rfl
  | k + 1, hk => by
    have ih := bands_upto hp k (by omega)
    have e : pix.drop (64 * w * k) = bandB w k pix ++ pix.drop (64 * w * (k + 1)) := by
      rw [← band_drop hp (show k < manyB h by omega), ← band_take hp (show k < manyB h by omega), List.take_append_drop]
    rw [List.range_succ, List.flatMap_append, List.flatMap_singleton, List.append_assoc, ← e, ih]
theorem bands_flat {w h : Nat} {pix : List UInt8} (hp : pix.length = 8 * w * h) : (bandsB w h pix).flatten = pix := by
  have h1 := bands_upto (w := w) hp (manyB h) (Nat.le_refl _)
  have h2 : pix.drop (64 * w * manyB h) = [] := by
    apply List.drop_eq_nil_of_le
    rw [hp, show 64 * w * manyB h = 8 * w * (8 * manyB h) by rw [show 64 * w = 8 * w * 8 by omega, Nat.mul_assoc (8 * w)]]
    exact Nat.mul_le_mul_left _ (by unfold manyB; omega)
  rw [h2, List.append_nil] at h1
  unfold bandsB
  rw [← List.flatMap_def]
  exact h1
theorem bands_inj {w h : Nat} {p q : List UInt8} (hp : p.length = 8 * w * h) (hq : q.length = 8 * w * h) (e : ∀ i, i < manyB h → bandB w i p = bandB w i q) : p = q := by
  rw [← bands_flat hp, ← bands_flat hq]
  unfold bandsB
  congr 1
  apply List.map_congr_left
  intro i hi
  exact e i (List.mem_range.1 hi)
/-- The hashes of a manifest, one by one. -/
theorem hashes_at : ∀ (L : List (List UInt8)) (i : Nat), i < L.length → ((L.flatMap shaT).drop (32 * i)).take 32 = shaT (L.getD i [])
  | [], i, h => by cases h
  | x :: L, 0, _ => by
    rw [Nat.mul_zero, List.drop_zero, List.flatMap_cons, List.take_append_of_le_length (by rw [shaT_length]; exact Nat.le_refl _), List.take_of_length_le (by rw [shaT_length]; exact Nat.le_refl _)]
    rfl
  | x :: L, i + 1, h => by
    rw [List.flatMap_cons, show 32 * (i + 1) = (shaT x).length + 32 * i by rw [shaT_length]; omega, List.drop_append, List.drop_eq_nil_of_le (by omega), List.nil_append]
    rw [show (shaT x).length + 32 * i - (shaT x).length = 32 * i by omega]
    exact hashes_at L i (by simpa using h)
/-- Manifests that are the same. -/
theorem man_inj {w h w' h' : Nat} {p q : List UInt8} (hw : w < 4294967296) (hh : h < 4294967296) (hw' : w' < 4294967296) (hh' : h' < 4294967296) (e : manB w h p = manB w' h' q) :
    w = w' ∧ h = h' ∧ ∀ i, i < manyB h → shaT (bandB w i p) = shaT (bandB w' i q) := by
  unfold manB at e
  have e1 := List.append_inj e (by rw [fourL_length, fourL_length])
  have e2 := List.append_inj e1.2 (by rw [fourL_length, fourL_length])
  have ew : w = w' := by rw [← ofL_four hw, ← ofL_four hw', e1.1]
  have eh : h = h' := by rw [← ofL_four hh, ← ofL_four hh', e2.1]
  refine ⟨ew, eh, fun i hi => ?_⟩
  have h1 := hashes_at (bandsB w h p) i (by rw [bandsB_length]; exact hi)
  have h2 := hashes_at (bandsB w' h' q) i (by rw [bandsB_length, ← eh]; exact hi)
  rw [e2.2, h2] at h1
  rw [List.getD_eq_getElem?_getD, bandsB_at (by rw [← eh]; exact hi), List.getD_eq_getElem?_getD, bandsB_at hi] at h1
  exact h1.symm
end Go.Proofs.YtmdiilnipoblbaaDoor
set_option maxRecDepth 100000
set_option linter.unusedVariables false
namespace Go.Proofs.YtmdiilnipoblbaaDoor
set_option maxRecDepth 100000
open Go Go.RowKit
theorem ras_neq15 (w : World) (a b c d : Int) (p q : ByteArray) : (binOp .neq 23 (.agg #[.int .i64 a, .int .i64 b, .string p]) (.agg #[.int .i64 c, .int .i64 d, .string q])).run Tryd.prog w = .ok (.bool (!decide (a = c ∧ b = d ∧ p = q))) w := by
  rw [run_neq_struct, show (10000 : Nat) = 9998 + 1 + 1 from rfl, run_equalIn_agg w _ _ _ _ (by kernel_rfl) (by kernel_rfl)]
  have hf : (Tryd.prog.fieldsOf 23).toList = [⟨ "W", 3, 0, false, "", "", 0⟩, ⟨ "H", 3, 1, false, "", "", 8⟩, ⟨ "Pix", 9, 2, false, "", "", 16⟩] := by kernel_rfl
  rw [hf]
  by_cases h1 : a = c <;> by_cases h2 : b = d <;> by_cases h3 : p = q <;> simp [go_sem, Op.eqFields, toList_iff15, h1, h2, h3]
end Go.Proofs.YtmdiilnipoblbaaDoor
set_option maxRecDepth 100000
set_option linter.unusedVariables false
namespace Go.Proofs.YtmdiilnipoblbaaDoor
set_option maxRecDepth 100000
open Go Go.RowKit
/-- Rasters with one manifest. -/
theorem man_same {a b c d : Int} {p q : ByteArray} (h1 : checkA a b p = 0) (h2 : checkA c d q = 0) (hm : (manA a b p).1 = (manA c d q).1) (hne : ¬ (a = c ∧ b = d ∧ p = q)) :
    ∃ W H : Nat, a = (W : Int) ∧ b = (H : Int) ∧ c = (W : Int) ∧ d = (H : Int) ∧ rightH (W : Int) (H : Int) 16 6 0 = 0 ∧ p.data.toList.length = 8 * W * H ∧ q.data.toList.length = 8 * W * H ∧
      (∀ i, i < manyB H → shaT (bandB W i p.data.toList) = shaT (bandB W i q.data.toList)) ∧ ¬ (∀ i, i < manyB H → bandB W i p.data.toList = bandB W i q.data.toList) := by
  obtain ⟨W, H, rfl, rfl, hr, hl⟩ := check_form15 h1
  obtain ⟨W', H', rfl, rfl, hr', hl'⟩ := check_form15 h2
  obtain ⟨_, a1, _, a2, _⟩ := right_le hr
  obtain ⟨_, b1, _, b2, _⟩ := right_le hr'
  unfold manA at hm
  rw [if_pos h1, if_pos h2, Int.toNat_natCast, Int.toNat_natCast, Int.toNat_natCast, Int.toNat_natCast] at hm
  have hm2 : manB W H p.data.toList = manB W' H' q.data.toList := by
    have h := congrArg (fun z : ByteArray => z.data.toList) hm
    rw [← strL_list (manB W H p.data.toList), ← strL_list (manB W' H' q.data.toList)]
    exact h
  obtain ⟨rfl, rfl, hs⟩ := man_inj (by omega) (by omega) (by omega) (by omega) hm2
  refine ⟨W, H, rfl, rfl, rfl, rfl, hr, hl, hl', hs, fun hb => hne ⟨rfl, rfl, ?_⟩⟩
  have := bands_inj hl hl' hb
  exact ByteArray.ext (Array.ext' this)
set_option maxHeartbeats 1000000 in
theorem bandsApart_walk {a b c d : Int} {p q : ByteArray} {w : World} (hp : p.size ≤ 140737488351232) (hq : q.size ≤ 140737488351232) (hG : GK w) :
    Calls Tryd.prog 7 #[.agg #[.int .i64 a, .int .i64 b, .string p], .agg #[.int .i64 c, .int .i64 d, .string q]] w fun e w' => e = .returned (.bool true) ∧ Below w.heap.size w w' := by
  have HG := Lib.hid hG
  have HA := Lib.hid fun W hG => awake15_any W hG
  have HP := Lib.hid fun W hG => pmanifest_all W hG (a := a) (b := b) hp
  have HQ := Lib.hid fun W hG => pmanifest_all W hG (a := c) (b := d) hq
  obtain ⟨g0, hg0⟩ : ∃ g, g = w.heap.size := ⟨_, rfl⟩
  obtain ⟨g1, hg1⟩ : ∃ g, g = w.heap.size + 1 := ⟨_, rfl⟩
  obtain ⟨w0, hw0⟩ : ∃ X, X = (w.alloc (.cells #[.int .i64 a, .int .i64 b, .string p] 23)).alloc (.cells #[.int .i64 c, .int .i64 d, .string q] 23) := ⟨_, rfl⟩
  have HB0 : Hid (But [] w w0) := Lib.hid (by rw [hw0]; exact ((But.refl [] w).alloc _).alloc _)
  have hI : Is w0 g0 23 #[.int .i64 a, .int .i64 b, .string p] := by rw [hw0, hg0]; exact (Is.fresh _ _ _).alloc _
  have hJ : Is w0 g1 23 #[.int .i64 c, .int .i64 d, .string q] := by
    have h := Is.fresh (w.alloc (.cells #[.int .i64 a, .int .i64 b, .string p] 23)) 23 #[.int .i64 c, .int .i64 d, .string q]
    rw [show (w.alloc (.cells #[.int .i64 a, .int .i64 b, .string p] 23)).heap.size = w.heap.size + 1 by simp] at h
    rw [hw0, hg1]; exact h
  have HZ : Hid (∀ v, But [] w0 v → v.cell? ⟨g0, 0, none⟩ = some (.int .i64 a) ∧ v.cell? ⟨g0, 1, none⟩ = some (.int .i64 b) ∧ v.cell? ⟨g0, 2, none⟩ = some (.string p) ∧ v.cell? ⟨g1, 0, none⟩ = some (.int .i64 c) ∧ v.cell? ⟨g1, 1, none⟩ = some (.int .i64 d) ∧ v.cell? ⟨g1, 2, none⟩ = some (.string q) ∧ g0 < v.heap.size ∧ g1 < v.heap.size) := Lib.hid fun v hv => by
    have h1 := hI.but hv (by simp)
    have h2 := hJ.but hv (by simp)
    exact ⟨h1.cell 0, h1.cell 1, h1.cell 2, h2.cell 0, h2.cell 1, h2.cell 2, h1.lt, h2.lt⟩
  have HGG : Hid (∀ v, But [] w0 v → GK v) := Lib.hid fun v hv => (HG.out.but HB0.out).but hv
  have kE := fun W => ras_eql15 W a b c d p q
  have kN := fun W => ras_neq15 W a b c d p q
  have h1M : Hid ((manA a b p).2 = 0 → checkA a b p = 0) := Lib.hid fun h => by
    unfold manA at h
    by_cases k : checkA a b p = 0
    · exact k
    · rw [if_neg k] at h; exact h
  have h2M : Hid ((manA c d q).2 = 0 → checkA c d q = 0) := Lib.hid fun h => by
    unfold manA at h
    by_cases k : checkA c d q = 0
    · exact k
    · rw [if_neg k] at h; exact h
  have HSame : Hid ((a = c ∧ b = d ∧ p = q) → (manA a b p).1 = (manA c d q).1 ∧ (manA a b p).2 = (manA c d q).2) := Lib.hid fun ⟨x, y, z⟩ => by rw [x, y, z]; exact ⟨rfl, rfl⟩
  have HDiff : Hid (checkA a b p = 0 → checkA c d q = 0 → (manA a b p).1 = (manA c d q).1 → ¬ (a = c ∧ b = d ∧ p = q) → ∃ W H : Nat, a = (W : Int) ∧ b = (H : Int) ∧ c = (W : Int) ∧ d = (H : Int) ∧ rightH (W : Int) (H : Int) 16 6 0 = 0 ∧ p.data.toList.length = 8 * W * H ∧ q.data.toList.length = 8 * W * H ∧
      (∀ i, i < manyB H → shaT (bandB W i p.data.toList) = shaT (bandB W i q.data.toList)) ∧ ¬ (∀ i, i < manyB H → bandB W i p.data.toList = bandB W i q.data.toList)) := Lib.hid fun x y z u => man_same x y z u
  obtain ⟨M, hM⟩ : ∃ z, z = (manA a b p).1 := ⟨_, rfl⟩
  obtain ⟨r, hr⟩ : ∃ z, z = (manA a b p).2 := ⟨_, rfl⟩
  obtain ⟨N, hN⟩ : ∃ z, z = (manA c d q).1 := ⟨_, rfl⟩
  obtain ⟨t, ht⟩ : ∃ z, z = (manA c d q).2 := ⟨_, rfl⟩
  rw [← hM, ← hr] at HP HSame
  rw [← hN, ← ht] at HQ HSame
  rw [← hr] at h1M
  rw [← ht] at h2M
  rw [← hM, ← hN] at HDiff
  obtain ⟨E, hE⟩ : ∃ z, z = decide (a = c ∧ b = d ∧ p = q) := ⟨_, rfl⟩
  simp only [← hE] at kE kN
  have HE0 : Hid (E = true → M = N ∧ r = t) := Lib.hid fun e => HSame.out (of_decide_eq_true (hE.symm.trans e))
  have HE1 : Hid (E = false → ¬ (a = c ∧ b = d ∧ p = q)) := Lib.hid fun e => of_decide_eq_false (hE.symm.trans e)
  clear hM hr hN ht hE hG hI hJ hp hq HSame
  go_enter Tryd.func7, Tryd.ntmps7
  go_upto_region 1 with (fail)
  rw [← hw0, ← hg1, ← hg0]
  clear hw0 hg0 hg1
  obtain ⟨c0, c1, c2, d0, d1, d2, hgl, hgm⟩ := HZ.out _ (But.refl [] _)
  go_wp2_with fail
  refine (HP.out _ (HGG.out _ (But.refl [] _))).mono ?_
  rintro e w1 ⟨rfl, hB1⟩
  have HB1 := Lib.hid hB1
  clear hB1 c0 c1 c2 d0 d1 d2 hgl hgm
  obtain ⟨c0, c1, c2, d0, d1, d2, hgl, hgm⟩ := HZ.out _ HB1.out
  go_wp2_with fail
  refine (HQ.out _ (HGG.out _ HB1.out)).mono ?_
  rintro e w2 ⟨rfl, hB2⟩
  have HB2 := Lib.hid (HB1.out.trans hB2)
  clear hB2 c0 c1 c2 d0 d1 d2 hgl hgm
  obtain ⟨c0, c1, c2, d0, d1, d2, hgl, hgm⟩ := HZ.out _ HB2.out
  go_upto_region 3 with (fail)
  cases E with
  | true =>
    obtain ⟨rfl, rfl⟩ := HE0.out rfl
    by_cases h0 : r = 0
    · subst h0
      go_wp2_with fail
      refine (HA.out _ (HGG.out _ HB2.out)).mono ?_
      rintro e w3 ⟨rfl, hB3⟩
      have HB3 := Lib.hid (HB0.out.trans (HB2.out.trans hB3))
      clear hB3
      go_wp2
      go_ret
      exact ⟨rfl, but_belowH HB3.out⟩
    · have q1 : (r != 0) = true := by simpa using h0
      have q2 : (r = 0) = False := by simpa using h0
      go_wp2_with fail
      refine (HA.out _ (HGG.out _ HB2.out)).mono ?_
      rintro e w3 ⟨rfl, hB3⟩
      have HB3 := Lib.hid (HB0.out.trans (HB2.out.trans hB3))
      clear hB3
      go_wp2
      go_ret
      exact ⟨rfl, but_belowH HB3.out⟩
  | false =>
    by_cases h0 : r = 0
    · subst h0
      by_cases h1 : t = 0
      · subst h1
        by_cases h2 : M = N
        · subst h2
          have hD := HDiff.out (h1M.out rfl) (h2M.out rfl) rfl (HE1.out rfl)
          obtain ⟨W, H, rfl, rfl, rfl, rfl, hr, hl, hl', hsh, hnb⟩ := hD
          obtain ⟨_, hW2, _, hH2, _⟩ := right_le hr
          have hm128 := many_few hr
          obtain ⟨m, hm⟩ : ∃ z, z = manyB H := ⟨_, rfl⟩
          have HC : Hid (∀ v, Calls Tryd.prog 9 #[.agg #[.int .i64 W, .int .i64 H, .string p]] v fun e w' => ∃ A n c, e = .returned (.tuple #[.slice A n c, .int .i64 0]) ∧ n = m ∧ Sr w' A n ((bandsB W H p.data.toList).map strL) ∧ But [] v w') := Lib.hid fun v => by
            have e := pcut_any v hr hl
            rw [strL_of] at e
            refine e.mono ?_
            rintro e w1 ⟨b, u, rfl, hO, hB⟩
            obtain ⟨A, c, rfl, hS⟩ := hO.srs
            exact ⟨A, _, c, rfl, by rw [List.length_map, bandsB_length, hm], hS, hB⟩
          have HD : Hid (∀ v, Calls Tryd.prog 9 #[.agg #[.int .i64 W, .int .i64 H, .string q]] v fun e w' => ∃ A n c, e = .returned (.tuple #[.slice A n c, .int .i64 0]) ∧ n = m ∧ Sr w' A n ((bandsB W H q.data.toList).map strL) ∧ But [] v w') := Lib.hid fun v => by
            have e := pcut_any v hr hl'
            rw [strL_of] at e
            refine e.mono ?_
            rintro e w1 ⟨b, u, rfl, hO, hB⟩
            obtain ⟨A, c, rfl, hS⟩ := hO.srs
            exact ⟨A, _, c, rfl, by rw [List.length_map, bandsB_length, hm], hS, hB⟩
          have HNB : Hid (¬ (∀ i, i < m → bandB W i p.data.toList = bandB W i q.data.toList)) := Lib.hid (by rw [hm]; exact hnb)
          have HSH : Hid (∀ i, i < m → shaT (bandB W i p.data.toList) = shaT (bandB W i q.data.toList)) := Lib.hid (by rw [hm]; exact hsh)
          have HX : Hid (∀ i, i < m → ((bandsB W H p.data.toList).map strL)[i]? = some (strL (bandB W i p.data.toList)) ∧ (bandB W i p.data.toList).length ≤ 65536) := Lib.hid fun i hi => by
            refine ⟨by rw [List.getElem?_map, bandsB_at (by omega)]; rfl, ?_⟩
            rw [band_len hl (by omega)]
            unfold sizeB
            exact Nat.mul_le_mul (by omega : 8 * W ≤ 8192) (Nat.min_le_left 8 _)
          have HY : Hid (∀ i, i < m → ((bandsB W H q.data.toList).map strL)[i]? = some (strL (bandB W i q.data.toList)) ∧ (bandB W i q.data.toList).length ≤ 65536) := Lib.hid fun i hi => by
            refine ⟨by rw [List.getElem?_map, bandsB_at (by omega)]; rfl, ?_⟩
            rw [band_len hl' (by omega)]
            unfold sizeB
            exact Nat.mul_le_mul (by omega : 8 * W ≤ 8192) (Nat.min_le_left 8 _)
          obtain ⟨LX, hLX⟩ : ∃ z, z = (bandsB W H p.data.toList).map strL := ⟨_, rfl⟩
          obtain ⟨LY, hLY⟩ : ∃ z, z = (bandsB W H q.data.toList).map strL := ⟨_, rfl⟩
          rw [← hLX] at HC HX
          rw [← hLY] at HD HY
          rw [← hm] at hm128
          clear hLX hLY hm hr hl hl' hsh hnb hW2 hH2
          go_wp2_with fail
          refine (HC.out _).mono ?_
          rintro e w3 ⟨A1, n1, cp1, rfl, rfl, hS, hB3⟩
          have HS1 := Lib.hid hS
          have HB3 := Lib.hid (HB2.out.trans hB3)
          clear hS hB3 c0 c1 c2 d0 d1 d2 hgl hgm kE kN
          obtain ⟨c0, c1, c2, d0, d1, d2, hgl, hgm⟩ := HZ.out _ HB3.out
          go_wp2_with fail
          refine (HD.out _).mono ?_
          rintro e w4 ⟨A2, n2, cp2, rfl, rfl, hS, hB4⟩
          have HS1 := Lib.hid (HS1.out.but hB4)
          have HS2 := Lib.hid hS
          have HB4 := Lib.hid (HB3.out.trans hB4)
          clear hS hB4 c0 c1 c2 d0 d1 d2 hgl hgm
          go_wp2_with fail
          go_loopw [13] (fun kv wr => ∃ k : Nat, k ≤ n2 ∧ kv = .int .i64 k ∧ Hid (But [] w4 wr) ∧ Hid (∀ j, j < k → bandB W j p.data.toList = bandB W j q.data.toList)) (fun kv _ => n2 - (intOf kv).toNat)
          case atStart => exact ⟨0, Nat.zero_le _, rfl, Lib.hid (But.refl [] _), Lib.hid (fun i hi => by omega)⟩
          case round =>
            obtain ⟨k, hk, rfl, HBk, HEq⟩ := hrel
            by_cases hlt : k < n2
            · have i0 : (0 : Int) ≤ (k : Int) := by omega
              have i1 : (k : Int) < (n2 : Int) := by omega
              go_upto_region 10 with (fail)
              obtain ⟨g2, o2, rfl, hg2, _⟩ := (HS1.out.but HBk.out).at (HX.out k hlt).1
              obtain ⟨g3, o3, rfl, hg3, _⟩ := (HS2.out.but HBk.out).at (HY.out k hlt).1
              obtain ⟨x, hx⟩ : ∃ z, z = strL (bandB W k p.data.toList) := ⟨_, rfl⟩
              obtain ⟨y, hy⟩ : ∃ z, z = strL (bandB W k q.data.toList) := ⟨_, rfl⟩
              have HXC : Hid (∀ v, But [] wr v → v.cell? ⟨g2, o2 + k, none⟩ = some (.string x) ∧ g2 < v.heap.size) := Lib.hid fun v hv => by
                obtain ⟨g5, o5, e, hg5, hc5⟩ := ((HS1.out.but HBk.out).but hv).at (HX.out k hlt).1
                injection e with e
                injection e with e1 e2
                subst e1 e2
                exact ⟨by rw [hx]; exact hc5, hg5⟩
              have HYC : Hid (∀ v, But [] wr v → v.cell? ⟨g3, o3 + k, none⟩ = some (.string y) ∧ g3 < v.heap.size) := Lib.hid fun v hv => by
                obtain ⟨g5, o5, e, hg5, hc5⟩ := ((HS2.out.but HBk.out).but hv).at (HY.out k hlt).1
                injection e with e
                injection e with e1 e2
                subst e1 e2
                exact ⟨by rw [hy]; exact hc5, hg5⟩
              obtain ⟨z, hz⟩ : ∃ z, z = strL (shaT (bandB W k p.data.toList)) := ⟨_, rfl⟩
              have HX1 : Hid (∀ v, GK v → Calls Tryd.prog 21 #[.string x] v fun e w' => e = .returned (.string z) ∧ But [] v w') := Lib.hid fun v hv => by
                have h := psum_str v x (by rw [hx, strL_size]; have := (HX.out k hlt).2; omega) hv
                rw [show x.data.toList = bandB W k p.data.toList by rw [hx]; exact strL_list _, ← hz] at h
                exact h
              have HY1 : Hid (∀ v, GK v → Calls Tryd.prog 21 #[.string y] v fun e w' => e = .returned (.string z) ∧ But [] v w') := Lib.hid fun v hv => by
                have h := psum_str v y (by rw [hy, strL_size]; have := (HY.out k hlt).2; omega) hv
                rw [show y.data.toList = bandB W k q.data.toList by rw [hy]; exact strL_list _, ← HSH.out k hlt, ← hz] at h
                exact h
              have HXY : Hid (x = y ↔ bandB W k p.data.toList = bandB W k q.data.toList) := Lib.hid (by
                constructor
                · intro h
                  rw [hx, hy] at h
                  have h2 := congrArg (fun z : ByteArray => z.data.toList) h
                  rw [← strL_list (bandB W k p.data.toList), ← strL_list (bandB W k q.data.toList)]
                  exact h2
                · intro h; rw [hx, hy, h])
              clear hx hy hz
              refine wp_region_m (S := fun v => But [] wr v) (R := fun v v' => But [] v v') (fun w => But.refl [] w) (by kernel_rfl) ((But.refl [] wr).drew) ?_
              by_cases hxy : x = y
              · have q3 : (x.toList == y.toList) = true := by rw [beq_iff_eq, hxy]
                refine rdk 0 (.slice (some ⟨g2, o2, none⟩) n2 cp1) ?_
                refine rdk 1 (.int .i64 (k : Int)) ?_
                refine rdk 2 (.pointer (some ⟨g2, o2 + k, none⟩)) ?_
                refine rdq 3 (.string x) (fun w' hS => ?_) ?_
                · have y := (HXC.out w' hS).1; have y2 := (HXC.out w' hS).2; go_simp
                refine rdk 4 (.slice (some ⟨g3, o3, none⟩) n2 cp2) ?_
                refine rdk 5 (.int .i64 (k : Int)) ?_
                refine rdk 6 (.pointer (some ⟨g3, o3 + k, none⟩)) ?_
                refine rdq 7 (.string y) (fun w' hS => ?_) ?_
                · have y := (HYC.out w' hS).1; have y2 := (HYC.out w' hS).2; go_simp
                refine rdk 8 (.bool false) ?_
                refine rdk 9 (.bool false) ?_
                refine rdu 10 ?_
                refine rdu 11 ?_
                refine rdu 12 ?_
                refine rdu 13 ?_
                refine rdu 14 ?_
                refine rdu 15 ?_
                refine rdu 16 ?_
                refine rdu 17 ?_
                refine rdu 18 ?_
                refine rdu 19 ?_
                refine rdu 20 ?_
                refine rdk 21 (.bool false) ?_
                refine ⟨by kernel_rfl, fun w8 hR8 hS8 => ?_⟩
                have HB8 := Lib.hid (HBk.out.trans hS8)
                have HEq2 : Hid (∀ j, j < k + 1 → bandB W j p.data.toList = bandB W j q.data.toList) := Lib.hid fun j hj => by
                  by_cases e : j = k
                  · rw [e]; exact HXY.out.1 hxy
                  · exact HEq.out j (by omega)
                clear hR8 hS8 hxy q3
                go_simp
                go_wp2
                go_roundw
                case rel => exact ⟨k + 1, by omega, by go_num, HB8, HEq2⟩
                case measure => simp [intOf] <;> omega
              · have q3 : (x.toList == y.toList) = false := by rw [beq_eq_false_iff_ne]; exact fun h => hxy ((toList_iff15 _ _).1 h)
                refine rdk 0 (.slice (some ⟨g2, o2, none⟩) n2 cp1) ?_
                refine rdk 1 (.int .i64 (k : Int)) ?_
                refine rdk 2 (.pointer (some ⟨g2, o2 + k, none⟩)) ?_
                refine rdq 3 (.string x) (fun w' hS => ?_) ?_
                · have y := (HXC.out w' hS).1; have y2 := (HXC.out w' hS).2; go_simp
                refine rdk 4 (.slice (some ⟨g3, o3, none⟩) n2 cp2) ?_
                refine rdk 5 (.int .i64 (k : Int)) ?_
                refine rdk 6 (.pointer (some ⟨g3, o3 + k, none⟩)) ?_
                refine rdq 7 (.string y) (fun w' hS => ?_) ?_
                · have y := (HYC.out w' hS).1; have y2 := (HYC.out w' hS).2; go_simp
                refine rdk 8 (.bool true) ?_
                refine rdk 9 (.bool true) ?_
                refine rdk 10 (.slice (some ⟨g2, o2, none⟩) n2 cp1) ?_
                refine rdk 11 (.int .i64 (k : Int)) ?_
                refine rdk 12 (.pointer (some ⟨g2, o2 + k, none⟩)) ?_
                refine rdq 13 (.string x) (fun w' hS => ?_) ?_
                · have y := (HXC.out w' hS).1; have y2 := (HXC.out w' hS).2; go_simp
                refine wpM_take (fun w => But.refl [] w) (fun x y z h k => h.trans k) (i := 14) (v := .string z) rfl (by kernel_rfl) (by kernel_rfl) (by kernel_rfl) (fun _ _ _ h => h) (.inl ⟨?_, fun w hS => .inr ⟨_, _, ?_, (HX1.out w (HGG.out _ (HB4.out.trans (HBk.out.trans hS)))).mono ?_⟩⟩) ?_
                · go_simp
                · go_simp
                · rintro e wy ⟨rfl, hB⟩; exact ⟨rfl, hS.trans hB, hB⟩
                refine rdk 15 (.slice (some ⟨g3, o3, none⟩) n2 cp2) ?_
                refine rdk 16 (.int .i64 (k : Int)) ?_
                refine rdk 17 (.pointer (some ⟨g3, o3 + k, none⟩)) ?_
                refine rdq 18 (.string y) (fun w' hS => ?_) ?_
                · have y := (HYC.out w' hS).1; have y2 := (HYC.out w' hS).2; go_simp
                refine wpM_take (fun w => But.refl [] w) (fun x y z h k => h.trans k) (i := 19) (v := .string z) rfl (by kernel_rfl) (by kernel_rfl) (by kernel_rfl) (fun _ _ _ h => h) (.inl ⟨?_, fun w hS => .inr ⟨_, _, ?_, (HY1.out w (HGG.out _ (HB4.out.trans (HBk.out.trans hS)))).mono ?_⟩⟩) ?_
                · go_simp
                · go_simp
                · rintro e wy ⟨rfl, hB⟩; exact ⟨rfl, hS.trans hB, hB⟩
                refine rdk 20 (.bool true) ?_
                refine rdk 21 (.bool true) ?_
                refine ⟨by kernel_rfl, fun w8 hR8 hS8 => ?_⟩
                have HB8 := Lib.hid (HB4.out.trans (HBk.out.trans hS8))
                clear hR8 hS8 hxy q3
                go_simp
                go_wp2_with fail
                refine (HA.out _ (HGG.out _ HB8.out)).mono ?_
                rintro e w9 ⟨rfl, hB9⟩
                have HB9 := Lib.hid (HB0.out.trans (HB8.out.trans hB9))
                clear hB9
                go_wp2
                go_ret
                exact ⟨rfl, but_belowH HB9.out⟩
            · obtain rfl : n2 = k := by omega
              exact absurd HEq.out HNB.out
        · have q3 : (M.toList == N.toList) = false := by
            rw [beq_eq_false_iff_ne]; exact fun h => h2 ((toList_iff15 _ _).1 h)
          clear h2
          go_wp2_with fail
          refine (HA.out _ (HGG.out _ HB2.out)).mono ?_
          rintro e w3 ⟨rfl, hB3⟩
          have HB3 := Lib.hid (HB0.out.trans (HB2.out.trans hB3))
          clear hB3
          go_wp2
          go_ret
          exact ⟨rfl, but_belowH HB3.out⟩
      · have q1 : (t != 0) = true := by simpa using h1
        have q2 : (t = 0) = False := by simpa using h1
        go_wp2_with fail
        refine (HA.out _ (HGG.out _ HB2.out)).mono ?_
        rintro e w3 ⟨rfl, hB3⟩
        have HB3 := Lib.hid (HB0.out.trans (HB2.out.trans hB3))
        clear hB3
        go_wp2
        go_ret
        exact ⟨rfl, but_belowH HB3.out⟩
    · have q1 : (r != 0) = true := by simpa using h0
      have q2 : (r = 0) = False := by simpa using h0
      go_wp2_with fail
      refine (HA.out _ (HGG.out _ HB2.out)).mono ?_
      rintro e w3 ⟨rfl, hB3⟩
      have HB3 := Lib.hid (HB0.out.trans (HB2.out.trans hB3))
      clear hB3
      go_wp2
      go_ret
      exact ⟨rfl, but_belowH HB3.out⟩
end Go.Proofs.YtmdiilnipoblbaaDoor
