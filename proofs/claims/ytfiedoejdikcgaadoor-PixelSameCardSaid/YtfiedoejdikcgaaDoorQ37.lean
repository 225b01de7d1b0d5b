/- Several texts in one: PxS (what PixelSame reach of them). -/
import Derived.Test.YtfiedoejdikcgaaDoorQ01
import Derived.Test.YtfiedoejdikcgaaDoorQ02
import Derived.Test.YtfiedoejdikcgaaDoorQ03
import Derived.Test.YtfiedoejdikcgaaDoorQ05
import Derived.Test.YtfiedoejdikcgaaDoorQ06
import Derived.Test.YtfiedoejdikcgaaDoorQ07
import Derived.Test.YtfiedoejdikcgaaDoorQ08
import Derived.Test.YtfiedoejdikcgaaDoorQ09
import Derived.Test.YtfiedoejdikcgaaDoorQ10
import Derived.Test.YtfiedoejdikcgaaDoorQ12
import Derived.Test.YtfiedoejdikcgaaDoorQ13
import Derived.Test.YtfiedoejdikcgaaDoorQ17
import Derived.Test.YtfiedoejdikcgaaDoorQ18
import Derived.Test.YtfiedoejdikcgaaDoorQ19
import Derived.Test.YtfiedoejdikcgaaDoorQ20
import Derived.Test.YtfiedoejdikcgaaDoorQ22
import Derived.Test.YtfiedoejdikcgaaDoorQ24
import Derived.Test.YtfiedoejdikcgaaDoorQ27
import Derived.Test.YtfiedoejdikcgaaDoorQ36
import Derived.Below
import Derived.BigQuiet
import Derived.BigRegion
import Derived.Deep.AppendLies
import Derived.Deep.CutBlock
import Derived.Deep.CutRange
import Derived.Deep.DeepCutAuto
import Derived.Deep.Draws
import Derived.Deep.QuietTactic
import Derived.Deep.RegionLaw
import Derived.Deep.RegionWith
import Derived.Deep.Slices
import Derived.Handy
import Derived.Laws.BitsAllLaws
import Derived.Laws.BitsLemmas
import Derived.Laws.BytesArg
import Derived.Laws.Externs
import Derived.Laws.IdiomStrings
import Derived.Laws.MakeOwn
import Derived.Laws.OwnMore
import Derived.Laws.Rows
import Derived.Laws.StructEq
import Derived.Lib.AppendStr
import Derived.Lib.BufferWrite
import Derived.Lib.Hide
import Derived.Lib.UnsafeStr
import Derived.LoopIn
import Derived.LoopNIn
import Derived.Maps.AppendAt
import Derived.OpenShut
import Derived.OrdersHeld
import Derived.OrdersIn
import Derived.Outline
import Derived.OwnWalk
import Derived.OwnWalkIn
import Derived.ProofKit
import Derived.RangeFuncBound
import Derived.RangeFuncCalls
import Derived.RangeFuncLeaves
import Derived.RangeFuncNested
import Derived.RegionTactic
import Derived.Shelf.Abstract
import Derived.Shelf.LaysM
import Derived.Shelf.RegionOpen
import Derived.Shelf.Small.Wraps
import Derived.Shelf.Strconv.Clone
import Derived.Shelf.Strings.Builder1
import Derived.Shelf.Strings.BuilderF
import Derived.Shelf.Strings.Prefix
import Derived.Sort.CutIn
import Derived.TacticsInMore
import Derived.Test.YtfiedoejdikcgaaDoorChecked
import Derived.WalkKit
set_option maxRecDepth 100000
set_option linter.unusedVariables false
set_option maxRecDepth 100000
set_option linter.unusedVariables false
namespace Go.Proofs.YtfiedoejdikcgaaDoor
set_option maxRecDepth 100000
open Go Go.RowKit
theorem five_any (k0 : Int) : ∃ (t : Int) (n : Nat), k0.tmod 5 = t ∧ (-5 < t ∧ t < 5) ∧ (t + 5).tmod 5 = (n : Int) ∧ n ≤ 4 := by
  have a1 := Int.tmod_lt_of_pos k0 (show (0 : Int) < 5 by decide)
  have a2 := Int.lt_tmod_of_pos k0 (show (0 : Int) < 5 by decide)
  have b1 := Int.tmod_lt_of_pos (k0.tmod 5 + 5) (show (0 : Int) < 5 by decide)
  have b2 := Int.tmod_nonneg 5 (show 0 ≤ k0.tmod 5 + 5 by omega)
  exact ⟨_, ((k0.tmod 5 + 5).tmod 5).toNat, rfl, ⟨by omega, by omega⟩, by omega, by omega⟩
theorem Nums.apart {w w' : World} {A : Option Addr} {n : Nat} {L : List Nat} {S : List Nat} (h : Nums w A n L) (hw : But S w w') (ha : ∀ g o, A = some ⟨g, o, none⟩ → g ∉ S) : Nums w' A n L :=
  ⟨h.1, fun hn => by
    obtain ⟨g, o, e, hg, hc⟩ := h.2 hn
    exact ⟨g, o, e, Nat.lt_of_lt_of_le hg hw.size, fun i hi => hw.cell (hc i hi) (ha g o e)⟩⟩
theorem But.belowT {w w' : World} (h : But [] w w') : Below w.heap.size w w' := ⟨h.os, h.tape, h.output, h.size, fun k hk => h.block k hk (by simp)⟩
attribute [local irreducible] imageA rawK allS
set_option maxHeartbeats 2000000 in
theorem pixelSame_walk {a b d c l0 : Int} {pal tr : ByteArray} {has : Bool} {A : Option Addr} {len cap : Nat} {l : List Int} {k0 k1 : Int} {w : World} (hp : pal.size ≤ 140737488351232) (ht : tr.size ≤ 140737488351232) (hZ : Zs w A len l) (hlen8 : len * 8 ≤ 140737488351232) (hcap : len ≤ cap) (hnil : A = none → cap = 0) (hF : ZFit l)
    (hk0 : -9223372036854775808 ≤ k0 ∧ k0 ≤ 9223372036854775807) (hk1 : -9223372036854775808 ≤ k1 ∧ k1 ≤ 9223372036854775807) (hG : GP w) :
    Calls Tryd.prog 7 #[.agg #[.int .i64 a, .int .i64 b, .int .i64 d, .int .i64 c, .int .i64 l0, .string pal, .string tr, .bool has], .slice A len cap, .agg #[.int .i64 k0, .int .i64 k1]] w fun e w' => e = .returned (.bool true) ∧ Below w.heap.size w w' := by
  obtain ⟨b3, hb3⟩ : ∃ g, g = w.heap.size := ⟨_, rfl⟩
  obtain ⟨b5, hb5⟩ : ∃ g, g = w.heap.size + 1 := ⟨_, rfl⟩
  obtain ⟨w1, hw1⟩ : ∃ X, X = (w.alloc (.cells #[.int .i64 a, .int .i64 b, .int .i64 d, .int .i64 c, .int .i64 l0, .string pal, .string tr, .bool has] 31)).alloc (.cells #[.int .i64 k0, .int .i64 k1] 38) := ⟨_, rfl⟩
  have hB1 : But [] w w1 := by rw [hw1]; exact ((But.refl [] w).alloc _).alloc _
  have hI1 : Is w1 b3 31 #[.int .i64 a, .int .i64 b, .int .i64 d, .int .i64 c, .int .i64 l0, .string pal, .string tr, .bool has] := by rw [hw1, hb3]; exact (Is.fresh _ _ _).alloc _
  have hJ1 : Is w1 b5 38 #[.int .i64 k0, .int .i64 k1] := by
    have h := Is.fresh (w.alloc (.cells #[.int .i64 a, .int .i64 b, .int .i64 d, .int .i64 c, .int .i64 l0, .string pal, .string tr, .bool has] 31)) 38 #[.int .i64 k0, .int .i64 k1]
    rw [show (w.alloc (.cells #[.int .i64 a, .int .i64 b, .int .i64 d, .int .i64 c, .int .i64 l0, .string pal, .string tr, .bool has] 31)).heap.size = w.heap.size + 1 by simp] at h
    rw [hw1, hb5]; exact h
  have hge3 : w.heap.size ≤ b3 := by omega
  obtain ⟨w2, hw2⟩ : ∃ X, X = w1.setCell ⟨b3, 4, none⟩ (.int .i64 0) := ⟨_, rfl⟩
  have hI2 : Is w2 b3 31 #[.int .i64 a, .int .i64 b, .int .i64 d, .int .i64 c, .int .i64 0, .string pal, .string tr, .bool has] := by rw [hw2]; exact hI1.put 4 (.int .i64 0)
  have hJ2 : Is w2 b5 38 #[.int .i64 k0, .int .i64 k1] := by rw [hw2]; exact hJ1.far (p := ⟨b3, 4, none⟩) (by show b5 ≠ b3; omega) _
  have hB2 : But [] w w2 := by rw [hw2]; exact hB1.setCell (p := ⟨b3, 4, none⟩) (.inr hge3) _
  have HI2 := Lib.hid hI2
  have HJ2 := Lib.hid hJ2
  have HB2 := Lib.hid hB2
  have HGE : Hid (w.heap.size ≤ b3) := Lib.hid hge3
  have HA : Hid (∀ v, But [] w v → Calls Tryd.prog 10 #[] v fun e w' => e = .returned (.bool true) ∧ But [] v w') := Lib.hid fun v hv => awk12P v (hG.but hv)
  have HG : Hid (∀ v, But [] w v → GP v) := Lib.hid fun v hv => hG.but hv
  obtain ⟨r, hr⟩ : ∃ x, x = rightH a b d c 0 := ⟨_, rfl⟩
  have HE : Hid (∀ W, Calls Tryd.prog 15 #[.agg #[.int .i64 a, .int .i64 b, .int .i64 d, .int .i64 c, .int .i64 0]] W fun e w' => e = .returned (.int .i64 r) ∧ But [] W w') := Lib.hid fun W => by rw [hr]; exact eright_h W a b d c 0
  have hZ2 := hZ.but hB2
  by_cases h0 : r = 0
  · by_cases hlen : len = 0
    · subst h0 hlen
      clear hr hZ hG hZ2 hI2 hJ2 hB2
      have c4 := hI1.cell 4
      have f4 := hI1.free 4
      have hgl := hI1.lt
      go_enter Tryd.func7, Tryd.ntmps7
      go_upto_region 1 with (fail)
      rw [← hw1, ← hb5, ← hb3]
      clear hw1 hb3 hb5
      go_upto_region 2 with (fail)
      rw [← hw2]
      clear hw2 c4 f4 hgl hI1 hJ1 hB1 hge3
      have c0 := HI2.out.cell 0
      have c1 := HI2.out.cell 1
      have c2 := HI2.out.cell 2
      have c3 := HI2.out.cell 3
      have c4 := HI2.out.cell 4
      have c5 := HI2.out.cell 5
      have c6 := HI2.out.cell 6
      have c7 := HI2.out.cell 7
      have hgl := HI2.out.lt
      go_wp2_with fail
      refine (HE.out _).mono ?_
      rintro e w3 ⟨rfl, hB3⟩
      have HI3 := Lib.hid (HI2.out.but hB3 (by simp))
      have HJ3 := Lib.hid (HJ2.out.but hB3 (by simp))
      have HB3 := Lib.hid (HB2.out.trans hB3)
      clear hB3
      clear c0 c1 c2 c3 c4 c5 c6 c7 hgl
      go_wp2_with fail
      refine (HA.out _ HB3.out).mono ?_
      rintro e w4 ⟨rfl, hB4⟩
      have HB4 := Lib.hid (HB3.out.trans hB4)
      clear hB4
      go_wp2
      go_ret
      exact ⟨rfl, HB4.out.belowT⟩
    · have h0' := hr.symm.trans h0
      obtain ⟨W, H, D, C, R⟩ := right_form h0'
      obtain rfl := R.wa
      obtain rfl := R.hb
      obtain rfl := R.dd
      obtain rfl := R.cc
      subst h0
      have h1' := right_laced h0'
      have R1 := R.laced
      have lz1 : ((len : Int) == 0) = false := by simp; omega
      have lz2 : ((len : Int) = 0) = False := by simp; omega
      have hlen1 : 1 ≤ len := by omega
      have hlenl : len ≤ 17592186043904 := by omega
      obtain ⟨S, hS⟩ : ∃ S, S = samplesN C := ⟨_, rfl⟩
      have s1 : 1 ≤ S := by rw [hS]; exact R.s1
      have s4 : S ≤ 4 := by rw [hS]; exact R.s4
      have wl := R.w2
      have hl := R.h2
      have d16 := R.d16
      have harea := R.area
      have hcs : samplesI (C : Int) = (S : Int) := by rw [hS]; exact R.sam
      have HSM : Hid (∀ v, Calls Tryd.prog 16 #[.int .i64 C] v fun e w' => e = .returned (.int .i64 (S : Nat)) ∧ v = w') := Lib.hid fun v => by rw [← hcs]; exact esamples_any v C
      obtain ⟨sw, hsw⟩ : ∃ z, z = S * W := ⟨_, rfl⟩
      have esw : (S : Int) * (W : Int) = (sw : Int) := by rw [hsw, Int.natCast_mul]
      obtain ⟨n, hn⟩ : ∃ z, z = S * (W * H) := ⟨_, rfl⟩
      have en : (sw : Int) * (H : Int) = (n : Int) := by rw [hn, hsw, ← Int.natCast_mul, Nat.mul_assoc]
      have hnl : n ≤ 16384 := by rw [hn]; show _ ≤ 4 * 4096; exact Nat.mul_le_mul s4 harea
      have hswl : sw ≤ 4096 := by rw [hsw]; show _ ≤ 4 * 1024; exact Nat.mul_le_mul s4 wl
      have vsw := wrapI_in (show sw < 1000000000000000 by omega)
      have vn := wrapI_in (show n < 1000000000000000 by omega)
      obtain ⟨ALL, hALL⟩ : ∃ L, L = allS n len D l := ⟨_, rfl⟩
      have HAL : Hid (ALL.length = n) := Lib.hid (by rw [hALL]; exact allS_length _ _ _ _)
      have hv2 : ∀ q, ALL.getD q 0 < 2 ^ D := fun q => by rw [hALL]; exact allS_lt _ _ _ _ _
      have hv6 : ∀ q, ALL.getD q 0 < 65536 := fun q => Nat.lt_of_lt_of_le (hv2 q) (Nat.pow_le_pow_right (n := 2) (by decide) d16)
      have HNX : Hid (∀ i, i < n → ALL.take (i + 1) = ALL.take i ++ [((l.getD (i % len) 0) % 2 ^ D).toNat]) := Lib.hid fun i hi => by rw [hALL]; exact allS_next hi
      obtain ⟨t0, ka, et0, ht0, ea, hka⟩ := five_any k0
      obtain ⟨t1, kb, et1, ht1, eb, hkb⟩ := five_any k1
      have hK0 : ∀ z, z ∈ ([0] : List Int) → z ≤ 4 := fun z hz => by have := List.mem_singleton.1 hz; omega
      have hK1 : ∀ z, z ∈ ([(ka : Int), (kb : Int), -1] : List Int) → z ≤ 4 := fun z hz => by simp only [List.mem_cons, List.not_mem_nil, or_false] at hz; omega
      have hK2 : ∀ z, z ∈ ([(kb : Int), (ka : Int)] : List Int) → z ≤ 4 := fun z hz => by simp only [List.mem_cons, List.not_mem_nil, or_false] at hz; omega
      obtain ⟨raw0, hraw0⟩ : ∃ z, z = rawK W H D C 0 pal tr has ALL [0] := ⟨_, rfl⟩
      obtain ⟨raw1, hraw1⟩ : ∃ z, z = rawK W H D C 0 pal tr has ALL [(ka : Int), (kb : Int), -1] := ⟨_, rfl⟩
      obtain ⟨raw2, hraw2⟩ : ∃ z, z = rawK W H D C 1 pal tr has ALL [(kb : Int), (ka : Int)] := ⟨_, rfl⟩
      have hnS : n = samplesN C * (W * H) := by rw [hn, hS]
      have HPK0 : Hid (∀ (v : World) (A1 A2 : Option Addr) (cV cK : Nat), Nums v A1 n ALL → n ≤ cV → Zs v A2 1 [0] → Calls Tryd.prog 17 #[.agg #[.int .i64 W, .int .i64 H, .int .i64 D, .int .i64 C, .int .i64 0], .slice A1 n cV, .slice A2 1 cK] v fun e w' => e = .returned (.string raw0) ∧ But [] v w') := Lib.hid fun v A1 A2 cV cK q1 q2 q3 => by
        have h := epack12_any v (cK := cK) pal.data.toList tr.data.toList has h0' R q1 hnS q2 hv6 q3 (by decide) (by decide) hK0
        rw [hraw0]; unfold rawK; exact h
      have HPK1 : Hid (∀ (v : World) (A1 A2 : Option Addr) (cV cK : Nat), Nums v A1 n ALL → n ≤ cV → Zs v A2 3 [(ka : Int), (kb : Int), -1] → Calls Tryd.prog 17 #[.agg #[.int .i64 W, .int .i64 H, .int .i64 D, .int .i64 C, .int .i64 0], .slice A1 n cV, .slice A2 3 cK] v fun e w' => e = .returned (.string raw1) ∧ But [] v w') := Lib.hid fun v A1 A2 cV cK q1 q2 q3 => by
        have h := epack12_any v (cK := cK) pal.data.toList tr.data.toList has h0' R q1 hnS q2 hv6 q3 (by decide) (by decide) hK1
        rw [hraw1]; unfold rawK; exact h
      have HPK2 : Hid (∀ (v : World) (A1 A2 : Option Addr) (cV cK : Nat), Nums v A1 n ALL → n ≤ cV → Zs v A2 2 [(kb : Int), (ka : Int)] → Calls Tryd.prog 17 #[.agg #[.int .i64 W, .int .i64 H, .int .i64 D, .int .i64 C, .int .i64 1], .slice A1 n cV, .slice A2 2 cK] v fun e w' => e = .returned (.string raw2) ∧ But [] v w') := Lib.hid fun v A1 A2 cV cK q1 q2 q3 => by
        have h := epack12_any v (cK := cK) pal.data.toList tr.data.toList has h1' R1 q1 hnS q2 hv6 q3 (by decide) (by decide) hK2
        rw [hraw2]; unfold rawK; exact h
      obtain ⟨IM, hIM⟩ : ∃ I, I = imageA W H D C 0 pal tr has raw0 := ⟨_, rfl⟩
      have e01 : imageA W H D C 0 pal tr has raw1 = IM := by rw [hIM, hraw0, hraw1]; exact image_same h0' R h0' R hv2 hK1 hK0
      have e02 : imageA W H D C 1 pal tr has raw2 = IM := by rw [hIM, hraw0, hraw2]; exact image_same h1' R1 h0' R hv2 hK2 hK0
      have HWR : Hid (IM.2 ≠ 0 → IM.2 = 29 ∧ C = 3) := Lib.hid fun h => by rw [hIM, hraw0] at h ⊢; exact image_wrong h0' R hv2 hK0 h
      obtain ⟨x, hx⟩ : ∃ z, z = IM.1.1 := ⟨_, rfl⟩
      obtain ⟨y, hy⟩ : ∃ z, z = IM.1.2.1 := ⟨_, rfl⟩
      obtain ⟨s, hs⟩ : ∃ z, z = IM.1.2.2 := ⟨_, rfl⟩
      obtain ⟨er, her⟩ : ∃ z, z = IM.2 := ⟨_, rfl⟩
      rw [← her] at HWR
      have HIM0 : Hid (∀ v, But [] w v → Calls Tryd.prog 11 #[.agg #[.int .i64 W, .int .i64 H, .int .i64 D, .int .i64 C, .int .i64 0, .string pal, .string tr, .bool has], .string raw0] v fun e w' => e = .returned (.tuple #[.agg #[.int .i64 x, .int .i64 y, .string s], .int .i64 er]) ∧ But [] v w') := Lib.hid fun v hv => by
        have h := pimage_any v (HG.out v hv) (a := (W : Int)) (b := (H : Int)) (d := (D : Int)) (c := (C : Int)) (l := 0) (has := has) (raw := raw0) hp ht (by rw [hraw0]; exact rawK_size h0' R)
        rw [← hIM, ← hx, ← hy, ← hs, ← her] at h
        exact h
      have HIM1 : Hid (∀ v, But [] w v → Calls Tryd.prog 11 #[.agg #[.int .i64 W, .int .i64 H, .int .i64 D, .int .i64 C, .int .i64 0, .string pal, .string tr, .bool has], .string raw1] v fun e w' => e = .returned (.tuple #[.agg #[.int .i64 x, .int .i64 y, .string s], .int .i64 er]) ∧ But [] v w') := Lib.hid fun v hv => by
        have h := pimage_any v (HG.out v hv) (a := (W : Int)) (b := (H : Int)) (d := (D : Int)) (c := (C : Int)) (l := 0) (has := has) (raw := raw1) hp ht (by rw [hraw1]; exact rawK_size h0' R)
        rw [e01, ← hx, ← hy, ← hs, ← her] at h
        exact h
      have HIM2 : Hid (∀ v, But [] w v → Calls Tryd.prog 11 #[.agg #[.int .i64 W, .int .i64 H, .int .i64 D, .int .i64 C, .int .i64 1, .string pal, .string tr, .bool has], .string raw2] v fun e w' => e = .returned (.tuple #[.agg #[.int .i64 x, .int .i64 y, .string s], .int .i64 er]) ∧ But [] v w') := Lib.hid fun v hv => by
        have h := pimage_any v (HG.out v hv) (a := (W : Int)) (b := (H : Int)) (d := (D : Int)) (c := (C : Int)) (l := 1) (has := has) (raw := raw2) hp ht (by rw [hraw2]; exact rawK_size h1' R1)
        rw [e02, ← hx, ← hy, ← hs, ← her] at h
        exact h
      have keq := fun v => ras_eql v x y s
      obtain ⟨gv, ov, _, hA, _⟩ := hZ.at (i := 0) (by omega)
      subst hA
      have HZC : Hid (∀ v, But [] w v → ∀ m, m < len → v.cell? ⟨gv, ov + m, none⟩ = some (.int .i64 (l.getD m 0)) ∧ gv < v.heap.size) := Lib.hid fun v hv m hm => by
        obtain ⟨g', o', q, e, hg, hq, hc⟩ := (hZ.but hv).at hm
        injection e with e
        injection e with e1 e2
        subst e1 e2
        rw [List.getD_eq_getElem?_getD, hq]
        exact ⟨hc, hg⟩
      have HLF : Hid (∀ m, -9223372036854775808 ≤ l.getD m 0 ∧ l.getD m 0 ≤ 9223372036854775807) := Lib.hid fun m => by
        rw [List.getD_eq_getElem?_getD]
        cases hq : l[m]? with
        | none => exact ⟨by decide, by decide⟩
        | some q => exact hF q (List.mem_of_getElem? hq)
      obtain ⟨M, hM⟩ : ∃ M, M = 2 ^ D := ⟨_, rfl⟩
      have hM1 : 1 ≤ M := by rw [hM]; exact Nat.two_pow_pos D
      have hM2 : M ≤ 65536 := by rw [hM]; exact Nat.pow_le_pow_right (n := 2) (by decide) d16
      have p1 : (2 : Int) ^ D = (M : Int) := by rw [hM]; simp
      have vM := wrapI_in (show M < 1000000000000000 by omega)
      obtain ⟨G, hGm⟩ : ∃ G : Nat, G = M - 1 := ⟨_, rfl⟩
      have eG : (M : Int) - 1 = (G : Int) := by omega
      have vG := wrapI_in (show G < 1000000000000000 by omega)
      have HMK : Hid (∀ q : Int, Go.bits .and .i64 q (G : Int) = (((q % 2 ^ D).toNat : Nat) : Int)) := Lib.hid fun q => by
        have h := i64_mask q D (by omega)
        rw [p1, eG] at h
        rw [h, p1]
        have h2 := Int.emod_nonneg q (show ((M : Nat) : Int) ≠ 0 by omega)
        omega
      have HNSl : Hid (∀ q : Int, (q % 2 ^ D).toNat < 65536) := Lib.hid fun q => by
        rw [p1]
        have h1 := Int.emod_lt_of_pos q (show (0 : Int) < ((M : Nat) : Int) by omega)
        omega
      clear hr hZ hG hZ2 hI2 hJ2 hB2 hS hcs hsw hn hALL hv2 hv6 hraw0 hraw1 hraw2 hIM e01 e02 hx hy hs her hM hGm R R1 h0' h1' hK0 hK1 hK2 hnS
      have c4 := hI1.cell 4
      have f4 := hI1.free 4
      have hgl := hI1.lt
      go_enter Tryd.func7, Tryd.ntmps7
      go_upto_region 1 with (fail)
      rw [← hw1, ← hb5, ← hb3]
      clear hw1 hb3 hb5
      go_upto_region 2 with (fail)
      rw [← hw2]
      clear hw2 c4 f4 hgl hI1 hJ1 hB1 hge3
      have c0 := HI2.out.cell 0
      have c1 := HI2.out.cell 1
      have c2 := HI2.out.cell 2
      have c3 := HI2.out.cell 3
      have c4 := HI2.out.cell 4
      have c5 := HI2.out.cell 5
      have c6 := HI2.out.cell 6
      have c7 := HI2.out.cell 7
      have hgl := HI2.out.lt
      go_wp2_with fail
      refine (HE.out _).mono ?_
      rintro e w3 ⟨rfl, hB3⟩
      have HI3 := Lib.hid (HI2.out.but hB3 (by simp))
      have HJ3 := Lib.hid (HJ2.out.but hB3 (by simp))
      have HB3 := Lib.hid (HB2.out.trans hB3)
      clear hB3
      clear c0 c1 c2 c3 c4 c5 c6 c7 hgl
      go_upto_region 4 with (fail)
      go_cut [7] from 30 to 41 (fun v wx => v = .int .i64 (n : Nat) ∧ Hid (But [] w3 wx))
      case first =>
        refine wp_region_m (S := fun v => But [] w3 v) (R := fun v v' => But [] v v') (fun w => But.refl [] w) (by kernel_rfl) ((But.refl [] w3).drew) ?_
        refine wpM_take (fun w => But.refl [] w) (fun x y z h k => h.trans k) (i := 0) (v := .pointer (some ⟨b3, 0, none⟩)) rfl (by kernel_rfl) (by kernel_rfl) (by kernel_rfl) (fun _ _ _ h => h) (YieldsR.read (fun w => But.refl [] w) ?_ fun w hS => ?_) ?_
        · first | kernel_rfl | go_simp
        · go_simp
        refine wpM_take (fun w => But.refl [] w) (fun x y z h k => h.trans k) (i := 1) (v := .pointer (some ⟨b3, 3, none⟩)) rfl (by kernel_rfl) (by kernel_rfl) (by kernel_rfl) (fun _ _ _ h => h) (YieldsR.read (fun w => But.refl [] w) ?_ fun w hS => ?_) ?_
        · first | kernel_rfl | go_simp
        · go_simp
        refine wpM_take (fun w => But.refl [] w) (fun x y z h k => h.trans k) (i := 2) (v := .int .i64 (C : Nat)) rfl (by kernel_rfl) (by kernel_rfl) (by kernel_rfl) (fun _ _ _ h => h) (YieldsR.read (fun w => But.refl [] w) ?_ fun w hS => ?_) ?_
        · first | kernel_rfl | go_simp
        · have hh := HI3.out.but hS (by simp); have c0 := hh.cell 0; have c1 := hh.cell 1; have c2 := hh.cell 2; have c3 := hh.cell 3; have c4 := hh.cell 4; have c5 := hh.cell 5; have c6 := hh.cell 6; have c7 := hh.cell 7; have hgl := hh.lt; clear hh; go_simp
        refine wpM_take (fun w => But.refl [] w) (fun x y z h k => h.trans k) (i := 3) (v := .int .i64 (S : Nat)) rfl (by kernel_rfl) (by kernel_rfl) (by kernel_rfl) (fun _ _ _ h => h) (.inl ⟨?_, fun w hS => .inr ⟨_, _, ?_, (HSM.out w).mono ?_⟩⟩) ?_
        · go_simp
        · go_simp
        · rintro e wy ⟨rfl, rfl⟩; exact ⟨rfl, hS, But.refl [] _⟩
        refine wpM_take (fun w => But.refl [] w) (fun x y z h k => h.trans k) (i := 4) (v := .pointer (some ⟨b3, 0, none⟩)) rfl (by kernel_rfl) (by kernel_rfl) (by kernel_rfl) (fun _ _ _ h => h) (YieldsR.read (fun w => But.refl [] w) ?_ fun w hS => ?_) ?_
        · first | kernel_rfl | go_simp
        · go_simp
        refine wpM_take (fun w => But.refl [] w) (fun x y z h k => h.trans k) (i := 5) (v := .pointer (some ⟨b3, 0, none⟩)) rfl (by kernel_rfl) (by kernel_rfl) (by kernel_rfl) (fun _ _ _ h => h) (YieldsR.read (fun w => But.refl [] w) ?_ fun w hS => ?_) ?_
        · first | kernel_rfl | go_simp
        · go_simp
        refine wpM_take (fun w => But.refl [] w) (fun x y z h k => h.trans k) (i := 6) (v := .int .i64 (W : Nat)) rfl (by kernel_rfl) (by kernel_rfl) (by kernel_rfl) (fun _ _ _ h => h) (YieldsR.read (fun w => But.refl [] w) ?_ fun w hS => ?_) ?_
        · first | kernel_rfl | go_simp
        · have hh := HI3.out.but hS (by simp); have c0 := hh.cell 0; have c1 := hh.cell 1; have c2 := hh.cell 2; have c3 := hh.cell 3; have c4 := hh.cell 4; have c5 := hh.cell 5; have c6 := hh.cell 6; have c7 := hh.cell 7; have hgl := hh.lt; clear hh; go_simp
        refine wpM_take (fun w => But.refl [] w) (fun x y z h k => h.trans k) (i := 7) (v := .int .i64 (sw : Nat)) rfl (by kernel_rfl) (by kernel_rfl) (by kernel_rfl) (fun _ _ _ h => h) (YieldsR.read (fun w => But.refl [] w) ?_ fun w hS => ?_) ?_
        · first | kernel_rfl | go_simp
        · go_simp
        refine wpM_take (fun w => But.refl [] w) (fun x y z h k => h.trans k) (i := 8) (v := .pointer (some ⟨b3, 0, none⟩)) rfl (by kernel_rfl) (by kernel_rfl) (by kernel_rfl) (fun _ _ _ h => h) (YieldsR.read (fun w => But.refl [] w) ?_ fun w hS => ?_) ?_
        · first | kernel_rfl | go_simp
        · go_simp
        refine wpM_take (fun w => But.refl [] w) (fun x y z h k => h.trans k) (i := 9) (v := .pointer (some ⟨b3, 1, none⟩)) rfl (by kernel_rfl) (by kernel_rfl) (by kernel_rfl) (fun _ _ _ h => h) (YieldsR.read (fun w => But.refl [] w) ?_ fun w hS => ?_) ?_
        · first | kernel_rfl | go_simp
        · go_simp
        refine wpM_take (fun w => But.refl [] w) (fun x y z h k => h.trans k) (i := 10) (v := .int .i64 (H : Nat)) rfl (by kernel_rfl) (by kernel_rfl) (by kernel_rfl) (fun _ _ _ h => h) (YieldsR.read (fun w => But.refl [] w) ?_ fun w hS => ?_) ?_
        · first | kernel_rfl | go_simp
        · have hh := HI3.out.but hS (by simp); have c0 := hh.cell 0; have c1 := hh.cell 1; have c2 := hh.cell 2; have c3 := hh.cell 3; have c4 := hh.cell 4; have c5 := hh.cell 5; have c6 := hh.cell 6; have c7 := hh.cell 7; have hgl := hh.lt; clear hh; go_simp
        refine wpM_take (fun w => But.refl [] w) (fun x y z h k => h.trans k) (i := 11) (v := .int .i64 (n : Nat)) rfl (by kernel_rfl) (by kernel_rfl) (by kernel_rfl) (fun _ _ _ h => h) (YieldsR.read (fun w => But.refl [] w) ?_ fun w hS => ?_) ?_
        · first | kernel_rfl | go_simp
        · go_simp
        refine wpM_take (fun w => But.refl [] w) (fun x y z h k => h.trans k) (i := 12) (v := .int .i64 (n : Nat)) rfl (by kernel_rfl) (by kernel_rfl) (by kernel_rfl) (fun _ _ _ h => h) (YieldsR.read (fun w => But.refl [] w) ?_ fun w hS => ?_) ?_
        · first | kernel_rfl | go_simp
        · go_simp
        refine ⟨by kernel_rfl, fun w4 hR4 hS4 => ?_⟩
        have HS4 := Lib.hid hS4
        clear hR4 hS4
        go_simp
        go_wp2
        go_meet
        exact ⟨rfl, HS4⟩
      case rest =>
      obtain ⟨rfl, HB34⟩ := hcut
      obtain ⟨w4, rfl⟩ : ∃ X, X = wc := ⟨_, rfl⟩
      have HI4 := Lib.hid (HI3.out.but HB34.out (by simp))
      have HJ4 := Lib.hid (HJ3.out.but HB34.out (by simp))
      have HB4 := Lib.hid (HB3.out.trans HB34.out)
      go_wp2_with fail
      go_loopw [8, 9] (fun vv iv wx => ∃ (i : Nat) (A : Option Addr) (ln c : Nat), i ≤ n ∧ iv = .int .i64 (i : Nat) ∧ vv = .slice A ln c ∧ Hid (ln = i) ∧ Hid (OwnN wx w4.heap.size (.slice A ln c) (ALL.take i)) ∧ Hid (But [] w4 wx)) (fun _ iv _ => n - (intOf iv).toNat)
      case atStart => exact ⟨0, none, 0, 0, Nat.zero_le _, rfl, rfl, Lib.hid rfl, Lib.hid (OwnN.nil _ _), Lib.hid (But.refl _ _)⟩
      case round =>
        obtain ⟨i, A, ln, c, hi, rfl, rfl, HLN, HOW, HBx⟩ := hrel
        by_cases hlt : i < n
        · obtain ⟨km, hkm⟩ : ∃ z, z = i % len := ⟨_, rfl⟩
          have hkml : km < len := by rw [hkm]; exact Nat.mod_lt _ (by omega)
          have tm1 : (i : Int).tmod (len : Int) = (km : Int) := by rw [Int.tmod_eq_emod_of_nonneg (by omega), hkm, Int.natCast_emod]
          have tm2 : (i : Int) % (len : Int) = (km : Int) := by rw [hkm, Int.natCast_emod]
          have vkm := wrapI_in (show km < 1000000000000000 by omega)
          have vi := wrapI_in (show i < 1000000000000000 by omega)
          have vlen := wrapI_in (show len < 1000000000000000 by omega)
          obtain ⟨q, hq⟩ : ∃ z, z = l.getD km 0 := ⟨_, rfl⟩
          have HQC : Hid (∀ v, But [] w v → v.cell? ⟨gv, ov + km, none⟩ = some (.int .i64 q) ∧ gv < v.heap.size) := Lib.hid fun v hv => by rw [hq]; exact HZC.out v hv km hkml
          obtain ⟨z, hz⟩ : ∃ z, z = (q % 2 ^ D).toNat := ⟨_, rfl⟩
          have mk := HMK.out q
          have hz6 := HNSl.out q
          rw [← hz] at mk hz6
          have vz := wrapI_in (show z < 1000000000000000 by omega)
          have hqf := HLF.out km
          rw [← hq] at hqf
          have vq : IntKind.i64.wrap q = q := by rw [IntKind.wrap_i64]; omega
          have HN2 : Hid (ALL.take (i + 1) = ALL.take i ++ [z]) := Lib.hid (by rw [HNX.out i hlt, ← hkm, ← hq, ← hz])
          have HL2 : Hid ((ALL.take i).length = i) := Lib.hid (by rw [List.length_take, HAL.out]; omega)
          have HBw := Lib.hid (HB4.out.trans HBx.out)
          have HI5 := Lib.hid (HI4.out.but HBx.out (by simp))
          have i1 : (i : Int) < (n : Int) := by omega
          rw [HLN.out] at HOW
          obtain rfl := HLN.out
          clear hkm hq hz hqf
          go_upto_region 9 with (fail)
          refine wp_region_m (S := fun v => But [] w4 v) (R := fun v v' => But [] v v') (fun w => But.refl [] w) (by kernel_rfl) (HBx.out.drew) ?_
          refine wpM_take (fun w => But.refl [] w) (fun x y z h k => h.trans k) (i := 0) (v := .slice A ln c) rfl (by kernel_rfl) (by kernel_rfl) (by kernel_rfl) (fun _ _ _ h => h) (YieldsR.read (fun w => But.refl [] w) ?_ fun w hS => ?_) ?_
          · first | kernel_rfl | go_simp
          · go_simp
          refine wpM_take (fun w => But.refl [] w) (fun x y z h k => h.trans k) (i := 1) (v := .slice (some ⟨gv, ov, none⟩) len cap) rfl (by kernel_rfl) (by kernel_rfl) (by kernel_rfl) (fun _ _ _ h => h) (YieldsR.read (fun w => But.refl [] w) ?_ fun w hS => ?_) ?_
          · first | kernel_rfl | go_simp
          · go_simp
          refine wpM_take (fun w => But.refl [] w) (fun x y z h k => h.trans k) (i := 2) (v := .int .i64 (ln : Nat)) rfl (by kernel_rfl) (by kernel_rfl) (by kernel_rfl) (fun _ _ _ h => h) (YieldsR.read (fun w => But.refl [] w) ?_ fun w hS => ?_) ?_
          · first | kernel_rfl | go_simp
          · go_simp
          refine wpM_take (fun w => But.refl [] w) (fun x y z h k => h.trans k) (i := 3) (v := .slice (some ⟨gv, ov, none⟩) len cap) rfl (by kernel_rfl) (by kernel_rfl) (by kernel_rfl) (fun _ _ _ h => h) (YieldsR.read (fun w => But.refl [] w) ?_ fun w hS => ?_) ?_
          · first | kernel_rfl | go_simp
          · go_simp
          refine wpM_take (fun w => But.refl [] w) (fun x y z h k => h.trans k) (i := 4) (v := .int .i64 (len : Nat)) rfl (by kernel_rfl) (by kernel_rfl) (by kernel_rfl) (fun _ _ _ h => h) (YieldsR.read (fun w => But.refl [] w) ?_ fun w hS => ?_) ?_
          · first | kernel_rfl | go_simp
          · go_simp
          refine wpM_take (fun w => But.refl [] w) (fun x y z h k => h.trans k) (i := 5) (v := .int .i64 (km : Nat)) rfl (by kernel_rfl) (by kernel_rfl) (by kernel_rfl) (fun _ _ _ h => h) (YieldsR.read (fun w => But.refl [] w) ?_ fun w hS => ?_) ?_
          · first | kernel_rfl | go_simp
          · go_simp
          refine wpM_take (fun w => But.refl [] w) (fun x y z h k => h.trans k) (i := 6) (v := .pointer (some ⟨gv, ov + km, none⟩)) rfl (by kernel_rfl) (by kernel_rfl) (by kernel_rfl) (fun _ _ _ h => h) (YieldsR.read (fun w => But.refl [] w) ?_ fun w hS => ?_) ?_
          · first | kernel_rfl | go_simp
          · go_simp
          refine wpM_take (fun w => But.refl [] w) (fun x y z h k => h.trans k) (i := 7) (v := .int .i64 q) rfl (by kernel_rfl) (by kernel_rfl) (by kernel_rfl) (fun _ _ _ h => h) (YieldsR.read (fun w => But.refl [] w) ?_ fun w hS => ?_) ?_
          · first | kernel_rfl | go_simp
          · obtain ⟨hqc, hqg⟩ := HQC.out w (HB4.out.trans hS); go_simp
          refine wpM_take (fun w => But.refl [] w) (fun x y z h k => h.trans k) (i := 8) (v := .pointer (some ⟨b3, 0, none⟩)) rfl (by kernel_rfl) (by kernel_rfl) (by kernel_rfl) (fun _ _ _ h => h) (YieldsR.read (fun w => But.refl [] w) ?_ fun w hS => ?_) ?_
          · first | kernel_rfl | go_simp
          · go_simp
          refine wpM_take (fun w => But.refl [] w) (fun x y z h k => h.trans k) (i := 9) (v := .pointer (some ⟨b3, 2, none⟩)) rfl (by kernel_rfl) (by kernel_rfl) (by kernel_rfl) (fun _ _ _ h => h) (YieldsR.read (fun w => But.refl [] w) ?_ fun w hS => ?_) ?_
          · first | kernel_rfl | go_simp
          · go_simp
          refine wpM_take (fun w => But.refl [] w) (fun x y z h k => h.trans k) (i := 10) (v := .int .i64 (D : Nat)) rfl (by kernel_rfl) (by kernel_rfl) (by kernel_rfl) (fun _ _ _ h => h) (YieldsR.read (fun w => But.refl [] w) ?_ fun w hS => ?_) ?_
          · first | kernel_rfl | go_simp
          · have hh := HI4.out.but hS (by simp); have c0 := hh.cell 0; have c1 := hh.cell 1; have c2 := hh.cell 2; have c3 := hh.cell 3; have c4 := hh.cell 4; have c5 := hh.cell 5; have c6 := hh.cell 6; have c7 := hh.cell 7; have hgl := hh.lt; clear hh; go_simp
          refine wpM_take (fun w => But.refl [] w) (fun x y z h k => h.trans k) (i := 11) (v := .int .i64 (M : Nat)) rfl (by kernel_rfl) (by kernel_rfl) (by kernel_rfl) (fun _ _ _ h => h) (YieldsR.read (fun w => But.refl [] w) ?_ fun w hS => ?_) ?_
          · first | kernel_rfl | go_simp
          · go_simp
          refine wpM_take (fun w => But.refl [] w) (fun x y z h k => h.trans k) (i := 12) (v := .int .i64 (G : Nat)) rfl (by kernel_rfl) (by kernel_rfl) (by kernel_rfl) (fun _ _ _ h => h) (YieldsR.read (fun w => But.refl [] w) ?_ fun w hS => ?_) ?_
          · first | kernel_rfl | go_simp
          · go_simp
          refine wpM_take (fun w => But.refl [] w) (fun x y z h k => h.trans k) (i := 13) (v := .int .i64 (z : Nat)) rfl (by kernel_rfl) (by kernel_rfl) (by kernel_rfl) (fun _ _ _ h => h) (YieldsR.read (fun w => But.refl [] w) ?_ fun w hS => ?_) ?_
          · first | kernel_rfl | go_simp
          · go_simp
          refine wpM_one (i := 14) rfl (by kernel_rfl) fun w6 hR6 hS6 K' hK => ?_
          have HO6 := Lib.hid ((HOW.out.but (((But.refl [] _).drew).trans hR6)).but ((But.refl [] _).alloc (.cells #[.int .i64 (z : Nat)] 3)))
          go_simp
          refine hK _ _ ⟨hS6.alloc _, ?_⟩
          clear hK K'
          refine wpM_one (i := 15) rfl (by kernel_rfl) fun w7 hR7 hS7 K' hK => ?_
          refine step_append_n (w0 := w4) w7 rfl _ _ rfl (.slice A (ALL.take ln).length c) (ALL.take ln) (by rw [HL2.out]; rfl) (by rw [HL2.out]; exact HO6.out.but hR7) hS7 z (by rfl) ((Is.fresh w6 3 #[.int .i64 (z : Nat)]).but hR7 (by simp)) (by rw [HL2.out]; omega) ?_
          intro A9 c9 w9 HO9 HB9
          refine hK _ _ ⟨HB9.out, ?_⟩
          clear hK K' hR7 hS7 hR6 hS6
          rw [← HN2.out, HL2.out] at HO9
          rw [HL2.out]
          refine wpM_take (fun w => But.refl [] w) (fun x y z h k => h.trans k) (i := 16) (v := .slice A9 (ln + 1) c9) rfl (by kernel_rfl) (by kernel_rfl) (by kernel_rfl) (fun _ _ _ h => h) (YieldsR.read (fun w => But.refl [] w) ?_ fun w hS => ?_) ?_
          · first | kernel_rfl | go_simp
          · go_simp
          refine ⟨by kernel_rfl, fun w8 hR8 hS8 => ?_⟩
          have HO8 := Lib.hid (HO9.out.but hR8)
          have HB8 := Lib.hid (HB9.out.trans hR8)
          clear hR8 hS8 HO9 HB9 HO6
          go_simp
          go_wp2
          go_roundw
          case rel => exact ⟨ln + 1, A9, ln + 1, c9, by omega, by go_num, rfl, Lib.hid rfl, HO8, HB8⟩
          case measure => simp [intOf] <;> omega
        · obtain rfl : n = i := by omega
          obtain rfl := HLN.out
          have HNN : Hid (Nums wr A ln ALL ∧ ln ≤ c ∧ ∀ g o, A = some ⟨g, o, none⟩ → g ∉ [b3]) := Lib.hid (by
            have h := HOW.out
            have hta : ALL.take ln = ALL := List.take_of_length_le (by rw [HAL.out]; exact Nat.le_refl _)
            rw [hta] at h
            have h1 := h.nums
            rw [HAL.out] at h1
            obtain ⟨A', c', e, hc⟩ := h.shape
            rw [HAL.out] at e hc
            injection e with e1 e2 e3
            refine ⟨h1, by omega, fun g o hA => ?_⟩
            have hlt := h.lt g (by rw [hA]; rfl)
            have h3 := HI4.out.lt
            rw [List.mem_singleton]
            omega)
          have HI6 := Lib.hid (HI4.out.but HBx.out (by simp))
          have HJ6 := Lib.hid (HJ4.out.but HBx.out (by simp))
          have HB6 := Lib.hid (HB4.out.trans HBx.out)
          have i1 : ¬ (ln : Int) < (ln : Int) := by omega
          have vt0 : IntKind.i64.wrap t0 = t0 := by rw [IntKind.wrap_i64]; omega
          have vt1 : IntKind.i64.wrap t1 = t1 := by rw [IntKind.wrap_i64]; omega
          have vt05 : IntKind.i64.wrap (t0 + 5) = t0 + 5 := by rw [IntKind.wrap_i64]; omega
          have vt15 : IntKind.i64.wrap (t1 + 5) = t1 + 5 := by rw [IntKind.wrap_i64]; omega
          have j0 := HJ6.out.cell 0
          have j1 := HJ6.out.cell 1
          have hgj := HJ6.out.lt
          clear hlt
          go_upto_region 12 with (fail)
          clear j0 j1 hgj vt0 vt1 vt05 vt15 et0 et1 ea eb
          go_cut [12, 13] from 73 to 82 (fun p v wx => ∃ bx, p = .pointer (some ⟨bx, 0, none⟩) ∧ v = .int .i64 er ∧ Hid (Is wx bx 23 #[.int .i64 x, .int .i64 y, .string s]) ∧ Hid (But [] wr wx))
          case first =>
            refine wp_region_m (S := fun v => But [] wr v) (R := fun v v' => But [] v v') (fun w => But.refl [] w) (by kernel_rfl) ((But.refl [] wr).drew) ?_
            refine wpM_take (fun w => But.refl [] w) (fun x y z h k => h.trans k) (i := 0) (v := .agg #[.int .i64 W, .int .i64 H, .int .i64 D, .int .i64 C, .int .i64 0, .string pal, .string tr, .bool has]) rfl (by kernel_rfl) (by kernel_rfl) (by kernel_rfl) (fun _ _ _ h => h) (YieldsR.read (fun w => But.refl [] w) ?_ fun w hS => ?_) ?_
            · first | kernel_rfl | go_simp
            · have hh := HI6.out.but (hS) (by simp); have c0 := hh.cell 0; have c1 := hh.cell 1; have c2 := hh.cell 2; have c3 := hh.cell 3; have c4 := hh.cell 4; have c5 := hh.cell 5; have c6 := hh.cell 6; have c7 := hh.cell 7; have hgl := hh.lt; clear hh; go_simp
            refine wpM_take (fun w => But.refl [] w) (fun x y z h k => h.trans k) (i := 1) (v := .pointer (some ⟨b3, 0, none⟩)) rfl (by kernel_rfl) (by kernel_rfl) (by kernel_rfl) (fun _ _ _ h => h) (YieldsR.read (fun w => But.refl [] w) ?_ fun w hS => ?_) ?_
            · first | kernel_rfl | go_simp
            · go_simp
            refine wpM_take (fun w => But.refl [] w) (fun x y z h k => h.trans k) (i := 2) (v := .agg #[.int .i64 W, .int .i64 H, .int .i64 D, .int .i64 C, .int .i64 0]) rfl (by kernel_rfl) (by kernel_rfl) (by kernel_rfl) (fun _ _ _ h => h) (YieldsR.read (fun w => But.refl [] w) ?_ fun w hS => ?_) ?_
            · first | kernel_rfl | go_simp
            · have hh := HI6.out.but (hS) (by simp); have c0 := hh.cell 0; have c1 := hh.cell 1; have c2 := hh.cell 2; have c3 := hh.cell 3; have c4 := hh.cell 4; have c5 := hh.cell 5; have c6 := hh.cell 6; have c7 := hh.cell 7; have hgl := hh.lt; clear hh; go_simp
            refine wpM_take (fun w => But.refl [] w) (fun x y z h k => h.trans k) (i := 3) (v := .slice A ln c) rfl (by kernel_rfl) (by kernel_rfl) (by kernel_rfl) (fun _ _ _ h => h) (YieldsR.read (fun w => But.refl [] w) ?_ fun w hS => ?_) ?_
            · first | kernel_rfl | go_simp
            · go_simp
            refine wpM_two (i := 4) (j := 10) rfl rfl (by kernel_rfl) ?_ ?_
            · intro wk0 hRk hSk K' hK
              go_simp
              obtain ⟨gk, hgk⟩ : ∃ g, g = wk0.heap.size := ⟨_, rfl⟩
              have hIk := Is.fresh wk0 3 #[.int .i64 0]
              have hAk := (But.refl [] wk0).alloc (.cells #[.int .i64 0] 3)
              obtain ⟨wk, hwk⟩ : ∃ X, X = wk0.alloc (.cells #[.int .i64 0] 3) := ⟨_, rfl⟩
              rw [← hwk, ← hgk] at hIk
              rw [← hwk] at hAk
              have HIk := Lib.hid hIk
              have HSk := Lib.hid (hSk.trans hAk)
              rw [← hwk, ← hgk]
              refine hK _ _ ⟨HSk.out, ?_⟩
              clear hK K' hIk hAk hwk hgk hRk hSk
              refine wpM_more (T := fun v => Is v gk 3 #[.int .i64 0]) (fun x y h k => h.but k (by simp)) HIk.out ?_
              refine wpM_take (fun w => But.refl [] w) (fun x y z h k => h.trans k) (i := 5) (v := .string raw0) rfl (by kernel_rfl) (by kernel_rfl) (by kernel_rfl) (fun _ _ _ h => h) (.inl ⟨?_, fun w hS => .inr ⟨_, _, ?_, (HPK0.out w A (some ⟨gk, 0, none⟩) c 1 (HNN.out.1.but hS.1) HNN.out.2.1 (Zs.is (l := [0]) hS.2)).mono ?_⟩⟩) ?_
              · go_simp
              · go_simp
              · rintro e wy ⟨rfl, hB⟩; exact ⟨rfl, ⟨hS.1.trans hB, hS.2.but hB (by simp)⟩, hB⟩
              refine wpM_take (fun w => But.refl [] w) (fun x y z h k => h.trans k) (i := 6) (v := .tuple #[.agg #[.int .i64 x, .int .i64 y, .string s], .int .i64 er]) rfl (by kernel_rfl) (by kernel_rfl) (by kernel_rfl) (fun _ _ _ h => h) (.inl ⟨?_, fun w hS => .inr ⟨_, _, ?_, (HIM0.out w (HB6.out.trans hS.1)).mono ?_⟩⟩) ?_
              · go_simp
              · go_simp
              · rintro e wy ⟨rfl, hB⟩; exact ⟨rfl, ⟨hS.1.trans hB, hS.2.but hB (by simp)⟩, hB⟩
              refine wpM_take (fun w => But.refl [] w) (fun x y z h k => h.trans k) (i := 7) (v := .tuple #[.agg #[.int .i64 x, .int .i64 y, .string s], .int .i64 er]) rfl (by kernel_rfl) (by kernel_rfl) (by kernel_rfl) (fun _ _ _ h => h) (YieldsR.read (fun w => But.refl [] w) ?_ fun w hS => ?_) ?_
              · first | kernel_rfl | go_simp
              · go_simp
              refine wpM_take (fun w => But.refl [] w) (fun x y z h k => h.trans k) (i := 8) (v := .agg #[.int .i64 x, .int .i64 y, .string s]) rfl (by kernel_rfl) (by kernel_rfl) (by kernel_rfl) (fun _ _ _ h => h) (YieldsR.read (fun w => But.refl [] w) ?_ fun w hS => ?_) ?_
              · first | kernel_rfl | go_simp
              · go_simp
              refine wpM_take (fun w => But.refl [] w) (fun x y z h k => h.trans k) (i := 9) (v := .int .i64 er) rfl (by kernel_rfl) (by kernel_rfl) (by kernel_rfl) (fun _ _ _ h => h) (YieldsR.read (fun w => But.refl [] w) ?_ fun w hS => ?_) ?_
              · first | kernel_rfl | go_simp
              · go_simp
              refine wpM_one (i := 10) rfl (by kernel_rfl) fun wa hRx hSx K' hK => ?_
              go_simp
              obtain ⟨bx, hbx⟩ : ∃ g, g = wa.heap.size := ⟨_, rfl⟩
              have hIx := Is.fresh wa 23 #[.int .i64 0, .int .i64 0, .string ⟨#[]⟩]
              have hAx := (But.refl [] wa).alloc (.cells #[.int .i64 0, .int .i64 0, .string ⟨#[]⟩] 23)
              obtain ⟨wx, hwx⟩ : ∃ X, X = wa.alloc (.cells #[.int .i64 0, .int .i64 0, .string ⟨#[]⟩] 23) := ⟨_, rfl⟩
              rw [← hwx, ← hbx] at hIx
              rw [← hwx] at hAx
              have HIx := Lib.hid hIx
              have HGx : Hid (wr.heap.size ≤ bx) := Lib.hid (by have h := (hSx.1).size; omega)
              have HSx := Lib.hid ((hSx.1).trans hAx)
              have HTx := Lib.hid (hSx.2.but hAx (by simp))
              rw [← hwx, ← hbx]
              refine hK _ _ ⟨⟨HSx.out, HTx.out⟩, ?_⟩
              clear hK K' hIx hAx hwx hbx hRx hSx
              refine wpM_one (i := 11) rfl (by kernel_rfl) fun ws hRs hSs K' hK => ?_
              have HIs := Lib.hid (HIx.out.but hRs (by simp))
              have HSs := Lib.hid (hSs.1)
              have z0 := HIs.out.cell 0
              have y0 := HIs.out.free 0
              have z1 := HIs.out.cell 1
              have y1 := HIs.out.free 1
              have z2 := HIs.out.cell 2
              have y2 := HIs.out.free 2
              have hgs := HIs.out.lt
              go_simp
              have hq0 : Is _ bx 23 #[.int .i64 x, .int .i64 0, .string ⟨#[]⟩] := HIs.out.put 0 (.int .i64 x)
              have hq1 : Is _ bx 23 #[.int .i64 x, .int .i64 y, .string ⟨#[]⟩] := hq0.put 1 (.int .i64 y)
              have hq2 : Is _ bx 23 #[.int .i64 x, .int .i64 y, .string s] := hq1.put 2 (.string s)
              have hr0 := But.setCell (p := ⟨bx, 0, none⟩) HSs.out (.inr HGx.out) (.int .i64 x)
              have hr1 := hr0.setCell (p := ⟨bx, 1, none⟩) (.inr HGx.out) (.int .i64 y)
              have hr2 := hr1.setCell (p := ⟨bx, 2, none⟩) (.inr HGx.out) (.string s)
              have HQ := Lib.hid hq2
              have HRR := Lib.hid hr2
              have HTs := Lib.hid ((((hSs.2).far (p := ⟨bx, 0, none⟩) (by exact Is.ne hSs.2 HIs.out (by decide)) (.int .i64 x)).far (p := ⟨bx, 1, none⟩) (by exact Is.ne hSs.2 HIs.out (by decide)) (.int .i64 y)).far (p := ⟨bx, 2, none⟩) (by exact Is.ne hSs.2 HIs.out (by decide)) (.string s))
              clear hq0 hq1 hq2 hr0 hr1 hr2 z0 y0 z1 y1 z2 y2 hgs
              refine hK _ _ ⟨⟨HRR.out, HTs.out⟩, ?_⟩
              clear hK K'
              refine wpM_take (fun w => But.refl [] w) (fun x y z h k => h.trans k) (i := 12) (v := .int .i64 er) rfl (by kernel_rfl) (by kernel_rfl) (by kernel_rfl) (fun _ _ _ h => h) (YieldsR.read (fun w => But.refl [] w) ?_ fun w hS => ?_) ?_
              · first | kernel_rfl | go_simp
              · go_simp
              refine ⟨by kernel_rfl, fun w8 hR8 hS8 => ?_⟩
              have HIe := Lib.hid (HQ.out.but hR8 (by simp))
              have HBe := Lib.hid (HRR.out.trans hR8)
              clear hR8 hS8 hRs hSs
              go_simp
              go_wp2
              go_meet
              exact ⟨bx, rfl, rfl, HIe, HBe⟩
            · intro wa hRx hSx K' hK
              go_simp
              obtain ⟨bx, hbx⟩ : ∃ g, g = wa.heap.size := ⟨_, rfl⟩
              have hIx := Is.fresh wa 23 #[.int .i64 0, .int .i64 0, .string ⟨#[]⟩]
              have hAx := (But.refl [] wa).alloc (.cells #[.int .i64 0, .int .i64 0, .string ⟨#[]⟩] 23)
              obtain ⟨wx, hwx⟩ : ∃ X, X = wa.alloc (.cells #[.int .i64 0, .int .i64 0, .string ⟨#[]⟩] 23) := ⟨_, rfl⟩
              rw [← hwx, ← hbx] at hIx
              rw [← hwx] at hAx
              have HIx := Lib.hid hIx
              have HGx : Hid (wr.heap.size ≤ bx) := Lib.hid (by have h := (hSx).size; omega)
              have HSx := Lib.hid ((hSx).trans hAx)
              rw [← hwx, ← hbx]
              refine hK _ _ ⟨HSx.out, ?_⟩
              clear hK K' hIx hAx hwx hbx hRx hSx
              refine wpM_one (i := 4) rfl (by kernel_rfl) ?_
              intro wk0 hRk hSk K' hK
              go_simp
              obtain ⟨gk, hgk⟩ : ∃ g, g = wk0.heap.size := ⟨_, rfl⟩
              have hIk := Is.fresh wk0 3 #[.int .i64 0]
              have hAk := (But.refl [] wk0).alloc (.cells #[.int .i64 0] 3)
              obtain ⟨wk, hwk⟩ : ∃ X, X = wk0.alloc (.cells #[.int .i64 0] 3) := ⟨_, rfl⟩
              rw [← hwk, ← hgk] at hIk
              rw [← hwk] at hAk
              have HIk := Lib.hid hIk
              have HSk := Lib.hid (hSk.trans hAk)
              have HIx := Lib.hid ((HIx.out.but hRk (by simp)).but hAk (by simp))
              rw [← hwk, ← hgk]
              refine hK _ _ ⟨HSk.out, ?_⟩
              clear hK K' hIk hAk hwk hgk hRk hSk
              refine wpM_more (T := fun v => Is v gk 3 #[.int .i64 0]) (fun x y h k => h.but k (by simp)) HIk.out ?_
              refine wpM_take (fun w => But.refl [] w) (fun x y z h k => h.trans k) (i := 5) (v := .string raw0) rfl (by kernel_rfl) (by kernel_rfl) (by kernel_rfl) (fun _ _ _ h => h) (.inl ⟨?_, fun w hS => .inr ⟨_, _, ?_, (HPK0.out w A (some ⟨gk, 0, none⟩) c 1 (HNN.out.1.but hS.1) HNN.out.2.1 (Zs.is (l := [0]) hS.2)).mono ?_⟩⟩) ?_
              · go_simp
              · go_simp
              · rintro e wy ⟨rfl, hB⟩; exact ⟨rfl, ⟨hS.1.trans hB, hS.2.but hB (by simp)⟩, hB⟩
              refine wpM_take (fun w => But.refl [] w) (fun x y z h k => h.trans k) (i := 6) (v := .tuple #[.agg #[.int .i64 x, .int .i64 y, .string s], .int .i64 er]) rfl (by kernel_rfl) (by kernel_rfl) (by kernel_rfl) (fun _ _ _ h => h) (.inl ⟨?_, fun w hS => .inr ⟨_, _, ?_, (HIM0.out w (HB6.out.trans hS.1)).mono ?_⟩⟩) ?_
              · go_simp
              · go_simp
              · rintro e wy ⟨rfl, hB⟩; exact ⟨rfl, ⟨hS.1.trans hB, hS.2.but hB (by simp)⟩, hB⟩
              refine wpM_take (fun w => But.refl [] w) (fun x y z h k => h.trans k) (i := 7) (v := .tuple #[.agg #[.int .i64 x, .int .i64 y, .string s], .int .i64 er]) rfl (by kernel_rfl) (by kernel_rfl) (by kernel_rfl) (fun _ _ _ h => h) (YieldsR.read (fun w => But.refl [] w) ?_ fun w hS => ?_) ?_
              · first | kernel_rfl | go_simp
              · go_simp
              refine wpM_take (fun w => But.refl [] w) (fun x y z h k => h.trans k) (i := 8) (v := .agg #[.int .i64 x, .int .i64 y, .string s]) rfl (by kernel_rfl) (by kernel_rfl) (by kernel_rfl) (fun _ _ _ h => h) (YieldsR.read (fun w => But.refl [] w) ?_ fun w hS => ?_) ?_
              · first | kernel_rfl | go_simp
              · go_simp
              refine wpM_take (fun w => But.refl [] w) (fun x y z h k => h.trans k) (i := 9) (v := .int .i64 er) rfl (by kernel_rfl) (by kernel_rfl) (by kernel_rfl) (fun _ _ _ h => h) (YieldsR.read (fun w => But.refl [] w) ?_ fun w hS => ?_) ?_
              · first | kernel_rfl | go_simp
              · go_simp
              refine wpM_one (i := 11) rfl (by kernel_rfl) fun ws hRs hSs K' hK => ?_
              have HIs := Lib.hid (HIx.out.but hRs (by simp))
              have HSs := Lib.hid (hSs.1)
              have z0 := HIs.out.cell 0
              have y0 := HIs.out.free 0
              have z1 := HIs.out.cell 1
              have y1 := HIs.out.free 1
              have z2 := HIs.out.cell 2
              have y2 := HIs.out.free 2
              have hgs := HIs.out.lt
              go_simp
              have hq0 : Is _ bx 23 #[.int .i64 x, .int .i64 0, .string ⟨#[]⟩] := HIs.out.put 0 (.int .i64 x)
              have hq1 : Is _ bx 23 #[.int .i64 x, .int .i64 y, .string ⟨#[]⟩] := hq0.put 1 (.int .i64 y)
              have hq2 : Is _ bx 23 #[.int .i64 x, .int .i64 y, .string s] := hq1.put 2 (.string s)
              have hr0 := But.setCell (p := ⟨bx, 0, none⟩) HSs.out (.inr HGx.out) (.int .i64 x)
              have hr1 := hr0.setCell (p := ⟨bx, 1, none⟩) (.inr HGx.out) (.int .i64 y)
              have hr2 := hr1.setCell (p := ⟨bx, 2, none⟩) (.inr HGx.out) (.string s)
              have HQ := Lib.hid hq2
              have HRR := Lib.hid hr2
              have HTs := Lib.hid ((((hSs.2).far (p := ⟨bx, 0, none⟩) (by exact Is.ne hSs.2 HIs.out (by decide)) (.int .i64 x)).far (p := ⟨bx, 1, none⟩) (by exact Is.ne hSs.2 HIs.out (by decide)) (.int .i64 y)).far (p := ⟨bx, 2, none⟩) (by exact Is.ne hSs.2 HIs.out (by decide)) (.string s))
              clear hq0 hq1 hq2 hr0 hr1 hr2 z0 y0 z1 y1 z2 y2 hgs
              refine hK _ _ ⟨⟨HRR.out, HTs.out⟩, ?_⟩
              clear hK K'
              refine wpM_take (fun w => But.refl [] w) (fun x y z h k => h.trans k) (i := 12) (v := .int .i64 er) rfl (by kernel_rfl) (by kernel_rfl) (by kernel_rfl) (fun _ _ _ h => h) (YieldsR.read (fun w => But.refl [] w) ?_ fun w hS => ?_) ?_
              · first | kernel_rfl | go_simp
              · go_simp
              refine ⟨by kernel_rfl, fun w8 hR8 hS8 => ?_⟩
              have HIe := Lib.hid (HQ.out.but hR8 (by simp))
              have HBe := Lib.hid (HRR.out.trans hR8)
              clear hR8 hS8 hRs hSs
              go_simp
              go_wp2
              go_meet
              exact ⟨bx, rfl, rfl, HIe, HBe⟩
          case rest =>
          obtain ⟨bx1, rfl, rfl, HX1, HBc⟩ := hcut
          obtain ⟨wA, rfl⟩ : ∃ X, X = wc := ⟨_, rfl⟩
          have HI7 := Lib.hid (HI6.out.but HBc.out (by simp))
          have HN7 := Lib.hid ((⟨HNN.out.1.but HBc.out, HNN.out.2⟩ : Nums wA A ln ALL ∧ ln ≤ c ∧ ∀ g o, A = some ⟨g, o, none⟩ → g ∉ [b3]))
          have HB7 := Lib.hid (HB6.out.trans HBc.out)
          clear HBc
          go_upto_region 13 with (fail)
          go_cut [14, 15] from 83 to 94 (fun p v wx => ∃ bx, p = .pointer (some ⟨bx, 0, none⟩) ∧ v = .int .i64 er ∧ Hid (Is wx bx 23 #[.int .i64 x, .int .i64 y, .string s]) ∧ Hid (But [] wA wx))
          case first =>
            refine wp_region_m (S := fun v => But [] wA v) (R := fun v v' => But [] v v') (fun w => But.refl [] w) (by kernel_rfl) ((But.refl [] wA).drew) ?_
            refine wpM_take (fun w => But.refl [] w) (fun x y z h k => h.trans k) (i := 0) (v := .agg #[.int .i64 W, .int .i64 H, .int .i64 D, .int .i64 C, .int .i64 0, .string pal, .string tr, .bool has]) rfl (by kernel_rfl) (by kernel_rfl) (by kernel_rfl) (fun _ _ _ h => h) (YieldsR.read (fun w => But.refl [] w) ?_ fun w hS => ?_) ?_
            · first | kernel_rfl | go_simp
            · have hh := HI7.out.but (hS) (by simp); have c0 := hh.cell 0; have c1 := hh.cell 1; have c2 := hh.cell 2; have c3 := hh.cell 3; have c4 := hh.cell 4; have c5 := hh.cell 5; have c6 := hh.cell 6; have c7 := hh.cell 7; have hgl := hh.lt; clear hh; go_simp
            refine wpM_take (fun w => But.refl [] w) (fun x y z h k => h.trans k) (i := 1) (v := .pointer (some ⟨b3, 0, none⟩)) rfl (by kernel_rfl) (by kernel_rfl) (by kernel_rfl) (fun _ _ _ h => h) (YieldsR.read (fun w => But.refl [] w) ?_ fun w hS => ?_) ?_
            · first | kernel_rfl | go_simp
            · go_simp
            refine wpM_take (fun w => But.refl [] w) (fun x y z h k => h.trans k) (i := 2) (v := .agg #[.int .i64 W, .int .i64 H, .int .i64 D, .int .i64 C, .int .i64 0]) rfl (by kernel_rfl) (by kernel_rfl) (by kernel_rfl) (fun _ _ _ h => h) (YieldsR.read (fun w => But.refl [] w) ?_ fun w hS => ?_) ?_
            · first | kernel_rfl | go_simp
            · have hh := HI7.out.but (hS) (by simp); have c0 := hh.cell 0; have c1 := hh.cell 1; have c2 := hh.cell 2; have c3 := hh.cell 3; have c4 := hh.cell 4; have c5 := hh.cell 5; have c6 := hh.cell 6; have c7 := hh.cell 7; have hgl := hh.lt; clear hh; go_simp
            refine wpM_take (fun w => But.refl [] w) (fun x y z h k => h.trans k) (i := 3) (v := .slice A ln c) rfl (by kernel_rfl) (by kernel_rfl) (by kernel_rfl) (fun _ _ _ h => h) (YieldsR.read (fun w => But.refl [] w) ?_ fun w hS => ?_) ?_
            · first | kernel_rfl | go_simp
            · go_simp
            refine wpM_take (fun w => But.refl [] w) (fun x y z h k => h.trans k) (i := 4) (v := .int .i64 (ka : Nat)) rfl (by kernel_rfl) (by kernel_rfl) (by kernel_rfl) (fun _ _ _ h => h) (YieldsR.read (fun w => But.refl [] w) ?_ fun w hS => ?_) ?_
            · first | kernel_rfl | go_simp
            · go_simp
            refine wpM_take (fun w => But.refl [] w) (fun x y z h k => h.trans k) (i := 5) (v := .int .i64 (kb : Nat)) rfl (by kernel_rfl) (by kernel_rfl) (by kernel_rfl) (fun _ _ _ h => h) (YieldsR.read (fun w => But.refl [] w) ?_ fun w hS => ?_) ?_
            · first | kernel_rfl | go_simp
            · go_simp
            refine wpM_two (i := 6) (j := 12) rfl rfl (by kernel_rfl) ?_ ?_
            · intro wk0 hRk hSk K' hK
              go_simp
              obtain ⟨gk, hgk⟩ : ∃ g, g = wk0.heap.size := ⟨_, rfl⟩
              have hIk := Is.fresh wk0 3 #[.int .i64 (ka : Nat), .int .i64 (kb : Nat), .int .i64 (-1)]
              have hAk := (But.refl [] wk0).alloc (.cells #[.int .i64 (ka : Nat), .int .i64 (kb : Nat), .int .i64 (-1)] 3)
              obtain ⟨wk, hwk⟩ : ∃ X, X = wk0.alloc (.cells #[.int .i64 (ka : Nat), .int .i64 (kb : Nat), .int .i64 (-1)] 3) := ⟨_, rfl⟩
              rw [← hwk, ← hgk] at hIk
              rw [← hwk] at hAk
              have HIk := Lib.hid hIk
              have HSk := Lib.hid (hSk.trans hAk)
              rw [← hwk, ← hgk]
              refine hK _ _ ⟨HSk.out, ?_⟩
              clear hK K' hIk hAk hwk hgk hRk hSk
              refine wpM_more (T := fun v => Is v gk 3 #[.int .i64 (ka : Nat), .int .i64 (kb : Nat), .int .i64 (-1)]) (fun x y h k => h.but k (by simp)) HIk.out ?_
              refine wpM_take (fun w => But.refl [] w) (fun x y z h k => h.trans k) (i := 7) (v := .string raw1) rfl (by kernel_rfl) (by kernel_rfl) (by kernel_rfl) (fun _ _ _ h => h) (.inl ⟨?_, fun w hS => .inr ⟨_, _, ?_, (HPK1.out w A (some ⟨gk, 0, none⟩) c 3 (HN7.out.1.but hS.1) HN7.out.2.1 (Zs.is (l := [(ka : Int), (kb : Int), -1]) hS.2)).mono ?_⟩⟩) ?_
              · go_simp
              · go_simp
              · rintro e wy ⟨rfl, hB⟩; exact ⟨rfl, ⟨hS.1.trans hB, hS.2.but hB (by simp)⟩, hB⟩
              refine wpM_take (fun w => But.refl [] w) (fun x y z h k => h.trans k) (i := 8) (v := .tuple #[.agg #[.int .i64 x, .int .i64 y, .string s], .int .i64 er]) rfl (by kernel_rfl) (by kernel_rfl) (by kernel_rfl) (fun _ _ _ h => h) (.inl ⟨?_, fun w hS => .inr ⟨_, _, ?_, (HIM1.out w (HB7.out.trans hS.1)).mono ?_⟩⟩) ?_
              · go_simp
              · go_simp
              · rintro e wy ⟨rfl, hB⟩; exact ⟨rfl, ⟨hS.1.trans hB, hS.2.but hB (by simp)⟩, hB⟩
              refine wpM_take (fun w => But.refl [] w) (fun x y z h k => h.trans k) (i := 9) (v := .tuple #[.agg #[.int .i64 x, .int .i64 y, .string s], .int .i64 er]) rfl (by kernel_rfl) (by kernel_rfl) (by kernel_rfl) (fun _ _ _ h => h) (YieldsR.read (fun w => But.refl [] w) ?_ fun w hS => ?_) ?_
              · first | kernel_rfl | go_simp
              · go_simp
              refine wpM_take (fun w => But.refl [] w) (fun x y z h k => h.trans k) (i := 10) (v := .agg #[.int .i64 x, .int .i64 y, .string s]) rfl (by kernel_rfl) (by kernel_rfl) (by kernel_rfl) (fun _ _ _ h => h) (YieldsR.read (fun w => But.refl [] w) ?_ fun w hS => ?_) ?_
              · first | kernel_rfl | go_simp
              · go_simp
              refine wpM_take (fun w => But.refl [] w) (fun x y z h k => h.trans k) (i := 11) (v := .int .i64 er) rfl (by kernel_rfl) (by kernel_rfl) (by kernel_rfl) (fun _ _ _ h => h) (YieldsR.read (fun w => But.refl [] w) ?_ fun w hS => ?_) ?_
              · first | kernel_rfl | go_simp
              · go_simp
              refine wpM_one (i := 12) rfl (by kernel_rfl) fun wa hRx hSx K' hK => ?_
              go_simp
              obtain ⟨bx, hbx⟩ : ∃ g, g = wa.heap.size := ⟨_, rfl⟩
              have hIx := Is.fresh wa 23 #[.int .i64 0, .int .i64 0, .string ⟨#[]⟩]
              have hAx := (But.refl [] wa).alloc (.cells #[.int .i64 0, .int .i64 0, .string ⟨#[]⟩] 23)
              obtain ⟨wx, hwx⟩ : ∃ X, X = wa.alloc (.cells #[.int .i64 0, .int .i64 0, .string ⟨#[]⟩] 23) := ⟨_, rfl⟩
              rw [← hwx, ← hbx] at hIx
              rw [← hwx] at hAx
              have HIx := Lib.hid hIx
              have HGx : Hid (wA.heap.size ≤ bx) := Lib.hid (by have h := (hSx.1).size; omega)
              have HSx := Lib.hid ((hSx.1).trans hAx)
              have HTx := Lib.hid (hSx.2.but hAx (by simp))
              rw [← hwx, ← hbx]
              refine hK _ _ ⟨⟨HSx.out, HTx.out⟩, ?_⟩
              clear hK K' hIx hAx hwx hbx hRx hSx
              refine wpM_one (i := 13) rfl (by kernel_rfl) fun ws hRs hSs K' hK => ?_
              have HIs := Lib.hid (HIx.out.but hRs (by simp))
              have HSs := Lib.hid (hSs.1)
              have z0 := HIs.out.cell 0
              have y0 := HIs.out.free 0
              have z1 := HIs.out.cell 1
              have y1 := HIs.out.free 1
              have z2 := HIs.out.cell 2
              have y2 := HIs.out.free 2
              have hgs := HIs.out.lt
              go_simp
              have hq0 : Is _ bx 23 #[.int .i64 x, .int .i64 0, .string ⟨#[]⟩] := HIs.out.put 0 (.int .i64 x)
              have hq1 : Is _ bx 23 #[.int .i64 x, .int .i64 y, .string ⟨#[]⟩] := hq0.put 1 (.int .i64 y)
              have hq2 : Is _ bx 23 #[.int .i64 x, .int .i64 y, .string s] := hq1.put 2 (.string s)
              have hr0 := But.setCell (p := ⟨bx, 0, none⟩) HSs.out (.inr HGx.out) (.int .i64 x)
              have hr1 := hr0.setCell (p := ⟨bx, 1, none⟩) (.inr HGx.out) (.int .i64 y)
              have hr2 := hr1.setCell (p := ⟨bx, 2, none⟩) (.inr HGx.out) (.string s)
              have HQ := Lib.hid hq2
              have HRR := Lib.hid hr2
              have HTs := Lib.hid ((((hSs.2).far (p := ⟨bx, 0, none⟩) (by exact Is.ne hSs.2 HIs.out (by decide)) (.int .i64 x)).far (p := ⟨bx, 1, none⟩) (by exact Is.ne hSs.2 HIs.out (by decide)) (.int .i64 y)).far (p := ⟨bx, 2, none⟩) (by exact Is.ne hSs.2 HIs.out (by decide)) (.string s))
              clear hq0 hq1 hq2 hr0 hr1 hr2 z0 y0 z1 y1 z2 y2 hgs
              refine hK _ _ ⟨⟨HRR.out, HTs.out⟩, ?_⟩
              clear hK K'
              refine wpM_take (fun w => But.refl [] w) (fun x y z h k => h.trans k) (i := 14) (v := .int .i64 er) rfl (by kernel_rfl) (by kernel_rfl) (by kernel_rfl) (fun _ _ _ h => h) (YieldsR.read (fun w => But.refl [] w) ?_ fun w hS => ?_) ?_
              · first | kernel_rfl | go_simp
              · go_simp
              refine ⟨by kernel_rfl, fun w8 hR8 hS8 => ?_⟩
              have HIe := Lib.hid (HQ.out.but hR8 (by simp))
              have HBe := Lib.hid (HRR.out.trans hR8)
              clear hR8 hS8 hRs hSs
              go_simp
              go_wp2
              go_meet
              exact ⟨bx, rfl, rfl, HIe, HBe⟩
            · intro wa hRx hSx K' hK
              go_simp
              obtain ⟨bx, hbx⟩ : ∃ g, g = wa.heap.size := ⟨_, rfl⟩
              have hIx := Is.fresh wa 23 #[.int .i64 0, .int .i64 0, .string ⟨#[]⟩]
              have hAx := (But.refl [] wa).alloc (.cells #[.int .i64 0, .int .i64 0, .string ⟨#[]⟩] 23)
              obtain ⟨wx, hwx⟩ : ∃ X, X = wa.alloc (.cells #[.int .i64 0, .int .i64 0, .string ⟨#[]⟩] 23) := ⟨_, rfl⟩
              rw [← hwx, ← hbx] at hIx
              rw [← hwx] at hAx
              have HIx := Lib.hid hIx
              have HGx : Hid (wA.heap.size ≤ bx) := Lib.hid (by have h := (hSx).size; omega)
              have HSx := Lib.hid ((hSx).trans hAx)
              rw [← hwx, ← hbx]
              refine hK _ _ ⟨HSx.out, ?_⟩
              clear hK K' hIx hAx hwx hbx hRx hSx
              refine wpM_one (i := 6) rfl (by kernel_rfl) ?_
              intro wk0 hRk hSk K' hK
              go_simp
              obtain ⟨gk, hgk⟩ : ∃ g, g = wk0.heap.size := ⟨_, rfl⟩
              have hIk := Is.fresh wk0 3 #[.int .i64 (ka : Nat), .int .i64 (kb : Nat), .int .i64 (-1)]
              have hAk := (But.refl [] wk0).alloc (.cells #[.int .i64 (ka : Nat), .int .i64 (kb : Nat), .int .i64 (-1)] 3)
              obtain ⟨wk, hwk⟩ : ∃ X, X = wk0.alloc (.cells #[.int .i64 (ka : Nat), .int .i64 (kb : Nat), .int .i64 (-1)] 3) := ⟨_, rfl⟩
              rw [← hwk, ← hgk] at hIk
              rw [← hwk] at hAk
              have HIk := Lib.hid hIk
              have HSk := Lib.hid (hSk.trans hAk)
              have HIx := Lib.hid ((HIx.out.but hRk (by simp)).but hAk (by simp))
              rw [← hwk, ← hgk]
              refine hK _ _ ⟨HSk.out, ?_⟩
              clear hK K' hIk hAk hwk hgk hRk hSk
              refine wpM_more (T := fun v => Is v gk 3 #[.int .i64 (ka : Nat), .int .i64 (kb : Nat), .int .i64 (-1)]) (fun x y h k => h.but k (by simp)) HIk.out ?_
              refine wpM_take (fun w => But.refl [] w) (fun x y z h k => h.trans k) (i := 7) (v := .string raw1) rfl (by kernel_rfl) (by kernel_rfl) (by kernel_rfl) (fun _ _ _ h => h) (.inl ⟨?_, fun w hS => .inr ⟨_, _, ?_, (HPK1.out w A (some ⟨gk, 0, none⟩) c 3 (HN7.out.1.but hS.1) HN7.out.2.1 (Zs.is (l := [(ka : Int), (kb : Int), -1]) hS.2)).mono ?_⟩⟩) ?_
              · go_simp
              · go_simp
              · rintro e wy ⟨rfl, hB⟩; exact ⟨rfl, ⟨hS.1.trans hB, hS.2.but hB (by simp)⟩, hB⟩
              refine wpM_take (fun w => But.refl [] w) (fun x y z h k => h.trans k) (i := 8) (v := .tuple #[.agg #[.int .i64 x, .int .i64 y, .string s], .int .i64 er]) rfl (by kernel_rfl) (by kernel_rfl) (by kernel_rfl) (fun _ _ _ h => h) (.inl ⟨?_, fun w hS => .inr ⟨_, _, ?_, (HIM1.out w (HB7.out.trans hS.1)).mono ?_⟩⟩) ?_
              · go_simp
              · go_simp
              · rintro e wy ⟨rfl, hB⟩; exact ⟨rfl, ⟨hS.1.trans hB, hS.2.but hB (by simp)⟩, hB⟩
              refine wpM_take (fun w => But.refl [] w) (fun x y z h k => h.trans k) (i := 9) (v := .tuple #[.agg #[.int .i64 x, .int .i64 y, .string s], .int .i64 er]) rfl (by kernel_rfl) (by kernel_rfl) (by kernel_rfl) (fun _ _ _ h => h) (YieldsR.read (fun w => But.refl [] w) ?_ fun w hS => ?_) ?_
              · first | kernel_rfl | go_simp
              · go_simp
              refine wpM_take (fun w => But.refl [] w) (fun x y z h k => h.trans k) (i := 10) (v := .agg #[.int .i64 x, .int .i64 y, .string s]) rfl (by kernel_rfl) (by kernel_rfl) (by kernel_rfl) (fun _ _ _ h => h) (YieldsR.read (fun w => But.refl [] w) ?_ fun w hS => ?_) ?_
              · first | kernel_rfl | go_simp
              · go_simp
              refine wpM_take (fun w => But.refl [] w) (fun x y z h k => h.trans k) (i := 11) (v := .int .i64 er) rfl (by kernel_rfl) (by kernel_rfl) (by kernel_rfl) (fun _ _ _ h => h) (YieldsR.read (fun w => But.refl [] w) ?_ fun w hS => ?_) ?_
              · first | kernel_rfl | go_simp
              · go_simp
              refine wpM_one (i := 13) rfl (by kernel_rfl) fun ws hRs hSs K' hK => ?_
              have HIs := Lib.hid (HIx.out.but hRs (by simp))
              have HSs := Lib.hid (hSs.1)
              have z0 := HIs.out.cell 0
              have y0 := HIs.out.free 0
              have z1 := HIs.out.cell 1
              have y1 := HIs.out.free 1
              have z2 := HIs.out.cell 2
              have y2 := HIs.out.free 2
              have hgs := HIs.out.lt
              go_simp
              have hq0 : Is _ bx 23 #[.int .i64 x, .int .i64 0, .string ⟨#[]⟩] := HIs.out.put 0 (.int .i64 x)
              have hq1 : Is _ bx 23 #[.int .i64 x, .int .i64 y, .string ⟨#[]⟩] := hq0.put 1 (.int .i64 y)
              have hq2 : Is _ bx 23 #[.int .i64 x, .int .i64 y, .string s] := hq1.put 2 (.string s)
              have hr0 := But.setCell (p := ⟨bx, 0, none⟩) HSs.out (.inr HGx.out) (.int .i64 x)
              have hr1 := hr0.setCell (p := ⟨bx, 1, none⟩) (.inr HGx.out) (.int .i64 y)
              have hr2 := hr1.setCell (p := ⟨bx, 2, none⟩) (.inr HGx.out) (.string s)
              have HQ := Lib.hid hq2
              have HRR := Lib.hid hr2
              have HTs := Lib.hid ((((hSs.2).far (p := ⟨bx, 0, none⟩) (by exact Is.ne hSs.2 HIs.out (by decide)) (.int .i64 x)).far (p := ⟨bx, 1, none⟩) (by exact Is.ne hSs.2 HIs.out (by decide)) (.int .i64 y)).far (p := ⟨bx, 2, none⟩) (by exact Is.ne hSs.2 HIs.out (by decide)) (.string s))
              clear hq0 hq1 hq2 hr0 hr1 hr2 z0 y0 z1 y1 z2 y2 hgs
              refine hK _ _ ⟨⟨HRR.out, HTs.out⟩, ?_⟩
              clear hK K'
              refine wpM_take (fun w => But.refl [] w) (fun x y z h k => h.trans k) (i := 14) (v := .int .i64 er) rfl (by kernel_rfl) (by kernel_rfl) (by kernel_rfl) (fun _ _ _ h => h) (YieldsR.read (fun w => But.refl [] w) ?_ fun w hS => ?_) ?_
              · first | kernel_rfl | go_simp
              · go_simp
              refine ⟨by kernel_rfl, fun w8 hR8 hS8 => ?_⟩
              have HIe := Lib.hid (HQ.out.but hR8 (by simp))
              have HBe := Lib.hid (HRR.out.trans hR8)
              clear hR8 hS8 hRs hSs
              go_simp
              go_wp2
              go_meet
              exact ⟨bx, rfl, rfl, HIe, HBe⟩
          case rest =>
          obtain ⟨bx2, rfl, rfl, HX2, HBc⟩ := hcut
          obtain ⟨wB, rfl⟩ : ∃ X, X = wc := ⟨_, rfl⟩
          have HI8 := Lib.hid (HI7.out.but HBc.out (by simp))
          have HN8 := Lib.hid ((⟨HN7.out.1.but HBc.out, HN7.out.2⟩ : Nums wB A ln ALL ∧ ln ≤ c ∧ ∀ g o, A = some ⟨g, o, none⟩ → g ∉ [b3]))
          have HB8 := Lib.hid (HB7.out.trans HBc.out)
          have HX1 := Lib.hid (HX1.out.but HBc.out (by simp))
          clear HBc
          have c4 := HI8.out.cell 4
          have f4 := HI8.out.free 4
          have hgl := HI8.out.lt
          go_upto_region 15 with (fail)
          obtain ⟨wC, hwC⟩ : ∃ X, X = wB.setCell ⟨b3, 4, none⟩ (.int .i64 1) := ⟨_, rfl⟩
          rw [← hwC]
          have hBC : But [b3] wB wC := by rw [hwC]; exact (But.refl [b3] wB).setCell (p := ⟨b3, 4, none⟩) (.inl (by simp)) _
          have HI9 : Hid (Is wC b3 31 #[.int .i64 W, .int .i64 H, .int .i64 D, .int .i64 C, .int .i64 1, .string pal, .string tr, .bool has]) := Lib.hid (by rw [hwC]; exact HI8.out.put 4 (.int .i64 1))
          have HB9 : Hid (But [] w wC) := Lib.hid (by rw [hwC]; exact HB8.out.setCell (p := ⟨b3, 4, none⟩) (.inr HGE.out) _)
          have HN9 : Hid (Nums wC A ln ALL ∧ ln ≤ c ∧ ∀ g o, A = some ⟨g, o, none⟩ → g ∉ [b3]) := Lib.hid ⟨HN8.out.1.apart hBC HN8.out.2.2, HN8.out.2⟩
          have HX1 := Lib.hid (HX1.out.but hBC (by rw [List.mem_singleton]; exact Is.ne HX1.out HI8.out (by decide)))
          have HX2 := Lib.hid (HX2.out.but hBC (by rw [List.mem_singleton]; exact Is.ne HX2.out HI8.out (by decide)))
          clear hwC hBC c4 f4 hgl
          go_cut [16, 17] from 97 to 108 (fun p v wx => ∃ bx, p = .pointer (some ⟨bx, 0, none⟩) ∧ v = .int .i64 er ∧ Hid (Is wx bx 23 #[.int .i64 x, .int .i64 y, .string s]) ∧ Hid (But [] wC wx))
          case first =>
            refine wp_region_m (S := fun v => But [] wC v) (R := fun v v' => But [] v v') (fun w => But.refl [] w) (by kernel_rfl) ((But.refl [] wC).drew) ?_
            refine wpM_take (fun w => But.refl [] w) (fun x y z h k => h.trans k) (i := 0) (v := .agg #[.int .i64 W, .int .i64 H, .int .i64 D, .int .i64 C, .int .i64 1, .string pal, .string tr, .bool has]) rfl (by kernel_rfl) (by kernel_rfl) (by kernel_rfl) (fun _ _ _ h => h) (YieldsR.read (fun w => But.refl [] w) ?_ fun w hS => ?_) ?_
            · first | kernel_rfl | go_simp
            · have hh := HI9.out.but (hS) (by simp); have c0 := hh.cell 0; have c1 := hh.cell 1; have c2 := hh.cell 2; have c3 := hh.cell 3; have c4 := hh.cell 4; have c5 := hh.cell 5; have c6 := hh.cell 6; have c7 := hh.cell 7; have hgl := hh.lt; clear hh; go_simp
            refine wpM_take (fun w => But.refl [] w) (fun x y z h k => h.trans k) (i := 1) (v := .pointer (some ⟨b3, 0, none⟩)) rfl (by kernel_rfl) (by kernel_rfl) (by kernel_rfl) (fun _ _ _ h => h) (YieldsR.read (fun w => But.refl [] w) ?_ fun w hS => ?_) ?_
            · first | kernel_rfl | go_simp
            · go_simp
            refine wpM_take (fun w => But.refl [] w) (fun x y z h k => h.trans k) (i := 2) (v := .agg #[.int .i64 W, .int .i64 H, .int .i64 D, .int .i64 C, .int .i64 1]) rfl (by kernel_rfl) (by kernel_rfl) (by kernel_rfl) (fun _ _ _ h => h) (YieldsR.read (fun w => But.refl [] w) ?_ fun w hS => ?_) ?_
            · first | kernel_rfl | go_simp
            · have hh := HI9.out.but (hS) (by simp); have c0 := hh.cell 0; have c1 := hh.cell 1; have c2 := hh.cell 2; have c3 := hh.cell 3; have c4 := hh.cell 4; have c5 := hh.cell 5; have c6 := hh.cell 6; have c7 := hh.cell 7; have hgl := hh.lt; clear hh; go_simp
            refine wpM_take (fun w => But.refl [] w) (fun x y z h k => h.trans k) (i := 3) (v := .slice A ln c) rfl (by kernel_rfl) (by kernel_rfl) (by kernel_rfl) (fun _ _ _ h => h) (YieldsR.read (fun w => But.refl [] w) ?_ fun w hS => ?_) ?_
            · first | kernel_rfl | go_simp
            · go_simp
            refine wpM_take (fun w => But.refl [] w) (fun x y z h k => h.trans k) (i := 4) (v := .int .i64 (kb : Nat)) rfl (by kernel_rfl) (by kernel_rfl) (by kernel_rfl) (fun _ _ _ h => h) (YieldsR.read (fun w => But.refl [] w) ?_ fun w hS => ?_) ?_
            · first | kernel_rfl | go_simp
            · go_simp
            refine wpM_take (fun w => But.refl [] w) (fun x y z h k => h.trans k) (i := 5) (v := .int .i64 (ka : Nat)) rfl (by kernel_rfl) (by kernel_rfl) (by kernel_rfl) (fun _ _ _ h => h) (YieldsR.read (fun w => But.refl [] w) ?_ fun w hS => ?_) ?_
            · first | kernel_rfl | go_simp
            · go_simp
            refine wpM_two (i := 6) (j := 12) rfl rfl (by kernel_rfl) ?_ ?_
            · intro wk0 hRk hSk K' hK
              go_simp
              obtain ⟨gk, hgk⟩ : ∃ g, g = wk0.heap.size := ⟨_, rfl⟩
              have hIk := Is.fresh wk0 3 #[.int .i64 (kb : Nat), .int .i64 (ka : Nat)]
              have hAk := (But.refl [] wk0).alloc (.cells #[.int .i64 (kb : Nat), .int .i64 (ka : Nat)] 3)
              obtain ⟨wk, hwk⟩ : ∃ X, X = wk0.alloc (.cells #[.int .i64 (kb : Nat), .int .i64 (ka : Nat)] 3) := ⟨_, rfl⟩
              rw [← hwk, ← hgk] at hIk
              rw [← hwk] at hAk
              have HIk := Lib.hid hIk
              have HSk := Lib.hid (hSk.trans hAk)
              rw [← hwk, ← hgk]
              refine hK _ _ ⟨HSk.out, ?_⟩
              clear hK K' hIk hAk hwk hgk hRk hSk
              refine wpM_more (T := fun v => Is v gk 3 #[.int .i64 (kb : Nat), .int .i64 (ka : Nat)]) (fun x y h k => h.but k (by simp)) HIk.out ?_
              refine wpM_take (fun w => But.refl [] w) (fun x y z h k => h.trans k) (i := 7) (v := .string raw2) rfl (by kernel_rfl) (by kernel_rfl) (by kernel_rfl) (fun _ _ _ h => h) (.inl ⟨?_, fun w hS => .inr ⟨_, _, ?_, (HPK2.out w A (some ⟨gk, 0, none⟩) c 2 (HN9.out.1.but hS.1) HN9.out.2.1 (Zs.is (l := [(kb : Int), (ka : Int)]) hS.2)).mono ?_⟩⟩) ?_
              · go_simp
              · go_simp
              · rintro e wy ⟨rfl, hB⟩; exact ⟨rfl, ⟨hS.1.trans hB, hS.2.but hB (by simp)⟩, hB⟩
              refine wpM_take (fun w => But.refl [] w) (fun x y z h k => h.trans k) (i := 8) (v := .tuple #[.agg #[.int .i64 x, .int .i64 y, .string s], .int .i64 er]) rfl (by kernel_rfl) (by kernel_rfl) (by kernel_rfl) (fun _ _ _ h => h) (.inl ⟨?_, fun w hS => .inr ⟨_, _, ?_, (HIM2.out w (HB9.out.trans hS.1)).mono ?_⟩⟩) ?_
              · go_simp
              · go_simp
              · rintro e wy ⟨rfl, hB⟩; exact ⟨rfl, ⟨hS.1.trans hB, hS.2.but hB (by simp)⟩, hB⟩
              refine wpM_take (fun w => But.refl [] w) (fun x y z h k => h.trans k) (i := 9) (v := .tuple #[.agg #[.int .i64 x, .int .i64 y, .string s], .int .i64 er]) rfl (by kernel_rfl) (by kernel_rfl) (by kernel_rfl) (fun _ _ _ h => h) (YieldsR.read (fun w => But.refl [] w) ?_ fun w hS => ?_) ?_
              · first | kernel_rfl | go_simp
              · go_simp
              refine wpM_take (fun w => But.refl [] w) (fun x y z h k => h.trans k) (i := 10) (v := .agg #[.int .i64 x, .int .i64 y, .string s]) rfl (by kernel_rfl) (by kernel_rfl) (by kernel_rfl) (fun _ _ _ h => h) (YieldsR.read (fun w => But.refl [] w) ?_ fun w hS => ?_) ?_
              · first | kernel_rfl | go_simp
              · go_simp
              refine wpM_take (fun w => But.refl [] w) (fun x y z h k => h.trans k) (i := 11) (v := .int .i64 er) rfl (by kernel_rfl) (by kernel_rfl) (by kernel_rfl) (fun _ _ _ h => h) (YieldsR.read (fun w => But.refl [] w) ?_ fun w hS => ?_) ?_
              · first | kernel_rfl | go_simp
              · go_simp
              refine wpM_one (i := 12) rfl (by kernel_rfl) fun wa hRx hSx K' hK => ?_
              go_simp
              obtain ⟨bx, hbx⟩ : ∃ g, g = wa.heap.size := ⟨_, rfl⟩
              have hIx := Is.fresh wa 23 #[.int .i64 0, .int .i64 0, .string ⟨#[]⟩]
              have hAx := (But.refl [] wa).alloc (.cells #[.int .i64 0, .int .i64 0, .string ⟨#[]⟩] 23)
              obtain ⟨wx, hwx⟩ : ∃ X, X = wa.alloc (.cells #[.int .i64 0, .int .i64 0, .string ⟨#[]⟩] 23) := ⟨_, rfl⟩
              rw [← hwx, ← hbx] at hIx
              rw [← hwx] at hAx
              have HIx := Lib.hid hIx
              have HGx : Hid (wC.heap.size ≤ bx) := Lib.hid (by have h := (hSx.1).size; omega)
              have HSx := Lib.hid ((hSx.1).trans hAx)
              have HTx := Lib.hid (hSx.2.but hAx (by simp))
              rw [← hwx, ← hbx]
              refine hK _ _ ⟨⟨HSx.out, HTx.out⟩, ?_⟩
              clear hK K' hIx hAx hwx hbx hRx hSx
              refine wpM_one (i := 13) rfl (by kernel_rfl) fun ws hRs hSs K' hK => ?_
              have HIs := Lib.hid (HIx.out.but hRs (by simp))
              have HSs := Lib.hid (hSs.1)
              have z0 := HIs.out.cell 0
              have y0 := HIs.out.free 0
              have z1 := HIs.out.cell 1
              have y1 := HIs.out.free 1
              have z2 := HIs.out.cell 2
              have y2 := HIs.out.free 2
              have hgs := HIs.out.lt
              go_simp
              have hq0 : Is _ bx 23 #[.int .i64 x, .int .i64 0, .string ⟨#[]⟩] := HIs.out.put 0 (.int .i64 x)
              have hq1 : Is _ bx 23 #[.int .i64 x, .int .i64 y, .string ⟨#[]⟩] := hq0.put 1 (.int .i64 y)
              have hq2 : Is _ bx 23 #[.int .i64 x, .int .i64 y, .string s] := hq1.put 2 (.string s)
              have hr0 := But.setCell (p := ⟨bx, 0, none⟩) HSs.out (.inr HGx.out) (.int .i64 x)
              have hr1 := hr0.setCell (p := ⟨bx, 1, none⟩) (.inr HGx.out) (.int .i64 y)
              have hr2 := hr1.setCell (p := ⟨bx, 2, none⟩) (.inr HGx.out) (.string s)
              have HQ := Lib.hid hq2
              have HRR := Lib.hid hr2
              have HTs := Lib.hid ((((hSs.2).far (p := ⟨bx, 0, none⟩) (by exact Is.ne hSs.2 HIs.out (by decide)) (.int .i64 x)).far (p := ⟨bx, 1, none⟩) (by exact Is.ne hSs.2 HIs.out (by decide)) (.int .i64 y)).far (p := ⟨bx, 2, none⟩) (by exact Is.ne hSs.2 HIs.out (by decide)) (.string s))
              clear hq0 hq1 hq2 hr0 hr1 hr2 z0 y0 z1 y1 z2 y2 hgs
              refine hK _ _ ⟨⟨HRR.out, HTs.out⟩, ?_⟩
              clear hK K'
              refine wpM_take (fun w => But.refl [] w) (fun x y z h k => h.trans k) (i := 14) (v := .int .i64 er) rfl (by kernel_rfl) (by kernel_rfl) (by kernel_rfl) (fun _ _ _ h => h) (YieldsR.read (fun w => But.refl [] w) ?_ fun w hS => ?_) ?_
              · first | kernel_rfl | go_simp
              · go_simp
              refine ⟨by kernel_rfl, fun w8 hR8 hS8 => ?_⟩
              have HIe := Lib.hid (HQ.out.but hR8 (by simp))
              have HBe := Lib.hid (HRR.out.trans hR8)
              clear hR8 hS8 hRs hSs
              go_simp
              go_wp2
              go_meet
              exact ⟨bx, rfl, rfl, HIe, HBe⟩
            · intro wa hRx hSx K' hK
              go_simp
              obtain ⟨bx, hbx⟩ : ∃ g, g = wa.heap.size := ⟨_, rfl⟩
              have hIx := Is.fresh wa 23 #[.int .i64 0, .int .i64 0, .string ⟨#[]⟩]
              have hAx := (But.refl [] wa).alloc (.cells #[.int .i64 0, .int .i64 0, .string ⟨#[]⟩] 23)
              obtain ⟨wx, hwx⟩ : ∃ X, X = wa.alloc (.cells #[.int .i64 0, .int .i64 0, .string ⟨#[]⟩] 23) := ⟨_, rfl⟩
              rw [← hwx, ← hbx] at hIx
              rw [← hwx] at hAx
              have HIx := Lib.hid hIx
              have HGx : Hid (wC.heap.size ≤ bx) := Lib.hid (by have h := (hSx).size; omega)
              have HSx := Lib.hid ((hSx).trans hAx)
              rw [← hwx, ← hbx]
              refine hK _ _ ⟨HSx.out, ?_⟩
              clear hK K' hIx hAx hwx hbx hRx hSx
              refine wpM_one (i := 6) rfl (by kernel_rfl) ?_
              intro wk0 hRk hSk K' hK
              go_simp
              obtain ⟨gk, hgk⟩ : ∃ g, g = wk0.heap.size := ⟨_, rfl⟩
              have hIk := Is.fresh wk0 3 #[.int .i64 (kb : Nat), .int .i64 (ka : Nat)]
              have hAk := (But.refl [] wk0).alloc (.cells #[.int .i64 (kb : Nat), .int .i64 (ka : Nat)] 3)
              obtain ⟨wk, hwk⟩ : ∃ X, X = wk0.alloc (.cells #[.int .i64 (kb : Nat), .int .i64 (ka : Nat)] 3) := ⟨_, rfl⟩
              rw [← hwk, ← hgk] at hIk
              rw [← hwk] at hAk
              have HIk := Lib.hid hIk
              have HSk := Lib.hid (hSk.trans hAk)
              have HIx := Lib.hid ((HIx.out.but hRk (by simp)).but hAk (by simp))
              rw [← hwk, ← hgk]
              refine hK _ _ ⟨HSk.out, ?_⟩
              clear hK K' hIk hAk hwk hgk hRk hSk
              refine wpM_more (T := fun v => Is v gk 3 #[.int .i64 (kb : Nat), .int .i64 (ka : Nat)]) (fun x y h k => h.but k (by simp)) HIk.out ?_
              refine wpM_take (fun w => But.refl [] w) (fun x y z h k => h.trans k) (i := 7) (v := .string raw2) rfl (by kernel_rfl) (by kernel_rfl) (by kernel_rfl) (fun _ _ _ h => h) (.inl ⟨?_, fun w hS => .inr ⟨_, _, ?_, (HPK2.out w A (some ⟨gk, 0, none⟩) c 2 (HN9.out.1.but hS.1) HN9.out.2.1 (Zs.is (l := [(kb : Int), (ka : Int)]) hS.2)).mono ?_⟩⟩) ?_
              · go_simp
              · go_simp
              · rintro e wy ⟨rfl, hB⟩; exact ⟨rfl, ⟨hS.1.trans hB, hS.2.but hB (by simp)⟩, hB⟩
              refine wpM_take (fun w => But.refl [] w) (fun x y z h k => h.trans k) (i := 8) (v := .tuple #[.agg #[.int .i64 x, .int .i64 y, .string s], .int .i64 er]) rfl (by kernel_rfl) (by kernel_rfl) (by kernel_rfl) (fun _ _ _ h => h) (.inl ⟨?_, fun w hS => .inr ⟨_, _, ?_, (HIM2.out w (HB9.out.trans hS.1)).mono ?_⟩⟩) ?_
              · go_simp
              · go_simp
              · rintro e wy ⟨rfl, hB⟩; exact ⟨rfl, ⟨hS.1.trans hB, hS.2.but hB (by simp)⟩, hB⟩
              refine wpM_take (fun w => But.refl [] w) (fun x y z h k => h.trans k) (i := 9) (v := .tuple #[.agg #[.int .i64 x, .int .i64 y, .string s], .int .i64 er]) rfl (by kernel_rfl) (by kernel_rfl) (by kernel_rfl) (fun _ _ _ h => h) (YieldsR.read (fun w => But.refl [] w) ?_ fun w hS => ?_) ?_
              · first | kernel_rfl | go_simp
              · go_simp
              refine wpM_take (fun w => But.refl [] w) (fun x y z h k => h.trans k) (i := 10) (v := .agg #[.int .i64 x, .int .i64 y, .string s]) rfl (by kernel_rfl) (by kernel_rfl) (by kernel_rfl) (fun _ _ _ h => h) (YieldsR.read (fun w => But.refl [] w) ?_ fun w hS => ?_) ?_
              · first | kernel_rfl | go_simp
              · go_simp
              refine wpM_take (fun w => But.refl [] w) (fun x y z h k => h.trans k) (i := 11) (v := .int .i64 er) rfl (by kernel_rfl) (by kernel_rfl) (by kernel_rfl) (fun _ _ _ h => h) (YieldsR.read (fun w => But.refl [] w) ?_ fun w hS => ?_) ?_
              · first | kernel_rfl | go_simp
              · go_simp
              refine wpM_one (i := 13) rfl (by kernel_rfl) fun ws hRs hSs K' hK => ?_
              have HIs := Lib.hid (HIx.out.but hRs (by simp))
              have HSs := Lib.hid (hSs.1)
              have z0 := HIs.out.cell 0
              have y0 := HIs.out.free 0
              have z1 := HIs.out.cell 1
              have y1 := HIs.out.free 1
              have z2 := HIs.out.cell 2
              have y2 := HIs.out.free 2
              have hgs := HIs.out.lt
              go_simp
              have hq0 : Is _ bx 23 #[.int .i64 x, .int .i64 0, .string ⟨#[]⟩] := HIs.out.put 0 (.int .i64 x)
              have hq1 : Is _ bx 23 #[.int .i64 x, .int .i64 y, .string ⟨#[]⟩] := hq0.put 1 (.int .i64 y)
              have hq2 : Is _ bx 23 #[.int .i64 x, .int .i64 y, .string s] := hq1.put 2 (.string s)
              have hr0 := But.setCell (p := ⟨bx, 0, none⟩) HSs.out (.inr HGx.out) (.int .i64 x)
              have hr1 := hr0.setCell (p := ⟨bx, 1, none⟩) (.inr HGx.out) (.int .i64 y)
              have hr2 := hr1.setCell (p := ⟨bx, 2, none⟩) (.inr HGx.out) (.string s)
              have HQ := Lib.hid hq2
              have HRR := Lib.hid hr2
              have HTs := Lib.hid ((((hSs.2).far (p := ⟨bx, 0, none⟩) (by exact Is.ne hSs.2 HIs.out (by decide)) (.int .i64 x)).far (p := ⟨bx, 1, none⟩) (by exact Is.ne hSs.2 HIs.out (by decide)) (.int .i64 y)).far (p := ⟨bx, 2, none⟩) (by exact Is.ne hSs.2 HIs.out (by decide)) (.string s))
              clear hq0 hq1 hq2 hr0 hr1 hr2 z0 y0 z1 y1 z2 y2 hgs
              refine hK _ _ ⟨⟨HRR.out, HTs.out⟩, ?_⟩
              clear hK K'
              refine wpM_take (fun w => But.refl [] w) (fun x y z h k => h.trans k) (i := 14) (v := .int .i64 er) rfl (by kernel_rfl) (by kernel_rfl) (by kernel_rfl) (fun _ _ _ h => h) (YieldsR.read (fun w => But.refl [] w) ?_ fun w hS => ?_) ?_
              · first | kernel_rfl | go_simp
              · go_simp
              refine ⟨by kernel_rfl, fun w8 hR8 hS8 => ?_⟩
              have HIe := Lib.hid (HQ.out.but hR8 (by simp))
              have HBe := Lib.hid (HRR.out.trans hR8)
              clear hR8 hS8 hRs hSs
              go_simp
              go_wp2
              go_meet
              exact ⟨bx, rfl, rfl, HIe, HBe⟩
          case rest =>
          obtain ⟨bx3, rfl, rfl, HX3, HBc⟩ := hcut
          obtain ⟨wD, rfl⟩ : ∃ X, X = wc := ⟨_, rfl⟩
          have HI10 := Lib.hid (HI9.out.but HBc.out (by simp))
          have HN10 := Lib.hid ((⟨HN9.out.1.but HBc.out, HN9.out.2⟩ : Nums wD A ln ALL ∧ ln ≤ c ∧ ∀ g o, A = some ⟨g, o, none⟩ → g ∉ [b3]))
          have HB10 := Lib.hid (HB9.out.trans HBc.out)
          have HX1 := Lib.hid (HX1.out.but HBc.out (by simp))
          have HX2 := Lib.hid (HX2.out.but HBc.out (by simp))
          clear HBc
          by_cases her : er = 0
          · subst her
            have r0 := HX1.out.cell 0
            have r1 := HX1.out.cell 1
            have r2 := HX1.out.cell 2
            have rl := HX1.out.lt
            have u0 := HX2.out.cell 0
            have u1 := HX2.out.cell 1
            have u2 := HX2.out.cell 2
            have ul := HX2.out.lt
            have z0 := HX3.out.cell 0
            have z1 := HX3.out.cell 1
            have z2 := HX3.out.cell 2
            have zl := HX3.out.lt
            go_wp2_with fail
            refine (HA.out _ HB10.out).mono ?_
            rintro e wE ⟨rfl, hBE⟩
            have HBE := Lib.hid (HB10.out.trans hBE)
            clear hBE
            go_wp2
            go_ret
            exact ⟨rfl, HBE.out.belowT⟩
          · obtain ⟨hE, hC⟩ := HWR.out her
            subst hE hC
            have c3 := HI10.out.cell 3
            have hgl := HI10.out.lt
            go_wp2_with fail
            refine (HA.out _ HB10.out).mono ?_
            rintro e wE ⟨rfl, hBE⟩
            have HBE := Lib.hid (HB10.out.trans hBE)
            clear hBE
            go_wp2
            go_ret
            exact ⟨rfl, HBE.out.belowT⟩
  · have q1 : (r != 0) = true := by simpa using h0
    clear hr hZ hG hZ2 hI2 hJ2 hB2
    have c4 := hI1.cell 4
    have f4 := hI1.free 4
    have hgl := hI1.lt
    go_enter Tryd.func7, Tryd.ntmps7
    go_upto_region 1 with (fail)
    rw [← hw1, ← hb5, ← hb3]
    clear hw1 hb3 hb5
    go_upto_region 2 with (fail)
    rw [← hw2]
    clear hw2 c4 f4 hgl hI1 hJ1 hB1 hge3
    have c0 := HI2.out.cell 0
    have c1 := HI2.out.cell 1
    have c2 := HI2.out.cell 2
    have c3 := HI2.out.cell 3
    have c4 := HI2.out.cell 4
    have c5 := HI2.out.cell 5
    have c6 := HI2.out.cell 6
    have c7 := HI2.out.cell 7
    have hgl := HI2.out.lt
    go_wp2_with fail
    refine (HE.out _).mono ?_
    rintro e w3 ⟨rfl, hB3⟩
    have HI3 := Lib.hid (HI2.out.but hB3 (by simp))
    have HJ3 := Lib.hid (HJ2.out.but hB3 (by simp))
    have HB3 := Lib.hid (HB2.out.trans hB3)
    clear hB3
    clear c0 c1 c2 c3 c4 c5 c6 c7 hgl
    go_wp2_with fail
    refine (HA.out _ HB3.out).mono ?_
    rintro e w4 ⟨rfl, hB4⟩
    have HB4 := Lib.hid (HB3.out.trans hB4)
    clear hB4
    go_wp2
    go_ret
    exact ⟨rfl, HB4.out.belowT⟩
end Go.Proofs.YtfiedoejdikcgaaDoor
