/- Several texts in one: FiJ, FiK, PyB, SbF (what PixelImages, PixelRows, PixelSame reach of them). -/
import Derived.Test.YtfiedoejdikcgaaDoorQ01
import Derived.Test.YtfiedoejdikcgaaDoorQ02
import Derived.Test.YtfiedoejdikcgaaDoorQ03
import Derived.Test.YtfiedoejdikcgaaDoorQ05
import Derived.Test.YtfiedoejdikcgaaDoorQ06
import Derived.Test.YtfiedoejdikcgaaDoorQ07
import Derived.Test.YtfiedoejdikcgaaDoorQ08
import Derived.Test.YtfiedoejdikcgaaDoorQ09
import Derived.Test.YtfiedoejdikcgaaDoorQ10
import Derived.Test.YtfiedoejdikcgaaDoorQ11
import Derived.Below
import Derived.BigQuiet
import Derived.BigRegion
import Derived.Deep.AppendLies
import Derived.Deep.CutBlock
import Derived.Deep.CutRange
import Derived.Deep.DeepCutAuto
import Derived.Deep.Draws
import Derived.Deep.QuietTactic
import Derived.Deep.RegionLaw
import Derived.Deep.RegionWith
import Derived.Handy
import Derived.Laws.BitsAllLaws
import Derived.Laws.BitsLemmas
import Derived.Laws.BytesArg
import Derived.Laws.IdiomStrings
import Derived.Laws.MakeOwn
import Derived.Laws.OwnMore
import Derived.Laws.Rows
import Derived.Laws.StructEq
import Derived.Lib.BufferWrite
import Derived.Lib.Hide
import Derived.LoopIn
import Derived.LoopNIn
import Derived.Maps.AppendAt
import Derived.OrdersHeld
import Derived.OrdersIn
import Derived.Outline
import Derived.OwnWalk
import Derived.OwnWalkIn
import Derived.RangeFuncBound
import Derived.RangeFuncCalls
import Derived.RangeFuncLeaves
import Derived.RangeFuncNested
import Derived.RegionTactic
import Derived.Shelf.Abstract
import Derived.Shelf.RegionOpen
import Derived.Sort.CutIn
import Derived.TacticsInMore
import Derived.Test.YtfiedoejdikcgaaDoorChecked
import Derived.WalkKit
set_option maxRecDepth 100000
set_option linter.unusedVariables false
set_option maxRecDepth 100000
set_option linter.unusedVariables false
namespace Go.Proofs.YtfiedoejdikcgaaDoor
set_option maxRecDepth 100000
open Go Go.RowKit
/-- Two rows of the call's own. -/
def TwoF (w : World) (v : World) (g1 g2 : Nat) (l m : List UInt8) : Prop := RowF v g1 l ∧ RowF v g2 m ∧ g1 ≠ g2 ∧ w.heap.size ≤ g1 ∧ w.heap.size ≤ g2 ∧ But [] w v
theorem TwoF.but {w v v' : World} {g1 g2 : Nat} {l m : List UInt8} (h : TwoF w v g1 g2 l m) (k : But [] v v') : TwoF w v' g1 g2 l m := ⟨h.1.but k, h.2.1.but k, h.2.2.1, h.2.2.2.1, h.2.2.2.2.1, h.2.2.2.2.2.trans k⟩
theorem TwoF.put {w v : World} {g1 g2 : Nat} {l m : List UInt8} (h : TwoF w v g1 g2 l m) {i : Nat} (x : UInt8) (hi : i < m.length) : TwoF w (v.setCell ⟨g2, i, none⟩ (.int .u8 (x.toNat : Nat))) g1 g2 l (m.set i x) :=
  ⟨h.1.far (p := ⟨g2, i, none⟩) h.2.2.1 _, h.2.1.put i x hi, h.2.2.1, h.2.2.2.1, h.2.2.2.2.1, h.2.2.2.2.2.setCell (p := ⟨g2, i, none⟩) (.inr h.2.2.2.2.1) _⟩
/-- What is done so far, and noughts. -/
def parF (R : List UInt8) (n k : Nat) : List UInt8 := R.take k ++ List.replicate (n - k) 0
theorem parF_length {R : List UInt8} {n k : Nat} (h : R.length = n) (hk : k ≤ n) : (parF R n k).length = n := by unfold parF; rw [List.length_append, List.length_take, List.length_replicate]; omega
theorem parF_zero (R : List UInt8) (n : Nat) : parF R n 0 = List.replicate n 0 := by unfold parF; rw [List.take_zero]; rfl
theorem parF_all {R : List UInt8} {n : Nat} (h : R.length = n) : parF R n n = R := by unfold parF; rw [List.take_of_length_le (by omega), Nat.sub_self]; simp
theorem parF_set {R : List UInt8} {n k : Nat} (h : R.length = n) (hk : k < n) : (parF R n k).set k (R.getD k 0) = parF R n (k + 1) := by
  have hl := parF_length (k := k) h (by omega)
  have hl2 := parF_length (k := k + 1) h (by omega)
  refine ext_getD (by rw [List.length_set, hl, hl2]) fun i hi => ?_
  rw [List.length_set, hl] at hi
  have e : ∀ j, (parF R n j).getD i 0 = if i < j then R.getD i 0 else 0 := fun j => by
    unfold parF
    by_cases hij : i < j
    · rw [if_pos hij, getD_left (by rw [List.length_take]; omega), getD_take hij]
    · rw [if_neg hij, List.getD_eq_getElem?_getD, List.getElem?_append_right (by rw [List.length_take]; omega), ← List.getD_eq_getElem?_getD, getD_zeros]
  rw [e]
  by_cases hik : i = k
  · subst hik
    rw [getD_lt (by rw [List.length_set, hl]; exact hi), List.getElem_set_self, if_pos (by omega)]
  · rw [List.getD_eq_getElem?_getD, List.getElem?_set_ne (by omega), ← List.getD_eq_getElem?_getD, e]
    by_cases h3 : i < k
    · rw [if_pos h3, if_pos (by omega)]
    · rw [if_neg h3, if_neg (by omega)]
set_option maxHeartbeats 1000000 in
theorem pdo_any (w : World) (bpp kind : Int) (s t : ByteArray) (hs : s.size ≤ 140737488351232) (ht : t.size ≤ 140737488351232) :
    Calls Tryd.prog 32 #[.int .i64 bpp, .int .i64 kind, .string s, .string t] w fun e w' => e = .returned (.tuple #[.string (strL (doA bpp kind s t)), .int .i64 (wrongF bpp kind s t)]) ∧ But [] w w' := by
  have hW := fun v => pfcheck_any v bpp kind s t (by omega) (by omega)
  by_cases h0 : wrongF bpp kind s t ≠ 0
  · obtain ⟨er, her⟩ : ∃ x, x = wrongF bpp kind s t := ⟨_, rfl⟩
    rw [doA_bad h0]
    have h1 : er = 1 ∨ er = 28 := by rcases wrongF_cases bpp kind s t with h | h | h <;> simp_all
    rw [← her]
    simp only [← her] at hW
    have HW := Lib.hid hW
    clear hW her h0
    rcases h1 with rfl | rfl
    · go_enter Tryd.func32, Tryd.ntmps32
      go_wp2_with fail
      refine (HW.out _).mono ?_
      rintro e w1 ⟨rfl, rfl⟩
      go_wp2
      go_ret2
      exact ⟨rfl, But.refl [] _⟩
    · go_enter Tryd.func32, Tryd.ntmps32
      go_wp2_with fail
      refine (HW.out _).mono ?_
      rintro e w1 ⟨rfl, rfl⟩
      go_wp2
      go_ret2
      exact ⟨rfl, But.refl [] _⟩
  have h0 : wrongF bpp kind s t = 0 := by simpa using h0
  obtain ⟨⟨hb1, hb8⟩, hts, hk0, hk4⟩ := wrongF_zero h0
  obtain ⟨n, rfl⟩ : ∃ n : Nat, bpp = (n : Int) := ⟨bpp.toNat, by omega⟩
  obtain ⟨kd, rfl⟩ : ∃ n : Nat, kind = (n : Int) := ⟨kind.toNat, by omega⟩
  have hn1 : 1 ≤ n := by omega
  have hn8 : n ≤ 8 := by omega
  have hkd : kd ≤ 4 := by omega
  rw [doA_ok h0, h0]
  rw [h0] at hW
  have HW := Lib.hid hW
  have HTS := Lib.hid hts
  obtain ⟨R, hR⟩ : ∃ R, R = doF (kd : Int) n s.data.toList t.data.toList := ⟨_, rfl⟩
  have hRl : R.length = s.size := by rw [hR, doF_length, Array.length_toList]; rfl
  rw [← hR]
  have HRl := Lib.hid hRl
  have HR := Lib.hid hR
  clear hW h0 hts hR hRl hb1 hb8 hk0 hk4
  go_enter Tryd.func32, Tryd.ntmps32
  go_wp2_with fail
  refine (HW.out _).mono ?_
  rintro e w1 ⟨rfl, rfl⟩
  go_upto_region 4 with (fail)
  go_cut [11, 12] from 23 to 27 (fun v1 v2 wx => ∃ g1 g2 c1, v1 = .slice (some ⟨g1, 0, none⟩) s.size c1 ∧ v2 = .slice (some ⟨g2, 0, none⟩) s.size s.size ∧ s.size ≤ c1 ∧ Hid (TwoF w wx g1 g2 s.data.toList (parF R s.size 0)))
  case first =>
    refine wp_region_m (S := fun v => But [] w v) (R := fun v v' => But [] v v') (fun w => But.refl [] w) (by kernel_rfl) ((But.refl [] w).drew) ?_
    refine wpM_take (fun w => But.refl [] w) (fun x y z h k => h.trans k) (i := 0) (v := .string s) rfl (by kernel_rfl) (by kernel_rfl) (by kernel_rfl) (fun _ _ _ h => h) (YieldsR.read (fun w => But.refl [] w) ?_ fun w hS => ?_) ?_
    · go_simp
    · go_simp
    refine wpM_take (fun w => But.refl [] w) (fun x y z h k => h.trans k) (i := 2) (v := .string s) rfl (by kernel_rfl) (by kernel_rfl) (by kernel_rfl) (fun _ _ _ h => h) (YieldsR.read (fun w => But.refl [] w) ?_ fun w hS => ?_) ?_
    · go_simp
    · go_simp
    refine wpM_take (fun w => But.refl [] w) (fun x y z h k => h.trans k) (i := 3) (v := .int .i64 (s.size : Int)) rfl (by kernel_rfl) (by kernel_rfl) (by kernel_rfl) (fun _ _ _ h => h) (YieldsR.read (fun w => But.refl [] w) ?_ fun w hS => ?_) ?_
    · go_simp
    · go_simp
    refine wpM_two (i := 1) (j := 4) rfl rfl (by kernel_rfl) ?_ ?_
    · intro w4 hR4 hS4 K' hK
      have kc := run_rowOf w4 s
      have hro := rowOf_row w4 s
      have hrb := rowOf_but w4 s
      have hcg := grownCap_le' w4 s.size 5
      obtain ⟨c1, hc1⟩ : ∃ c, c = grownCap w4 s.size 0 5 := ⟨_, rfl⟩
      rw [← hc1] at kc hcg
      obtain ⟨w5, hw5⟩ : ∃ x, x = rowOf w4 s := ⟨_, rfl⟩
      rw [← hw5] at kc hro hrb
      clear hc1 hw5
      go_simp
      refine hK _ _ ⟨hS4.trans hrb, ?_⟩
      clear hK K' kc
      have hg4 := hS4.size
      have hlt5 := hro.lt
      refine wpM_take (fun w => But.refl [] w) (fun x y z h k => h.trans k) (i := 5) (v := .slice (some ⟨w4.heap.size, 0, none⟩) s.size c1) rfl (by kernel_rfl) (by kernel_rfl) (by kernel_rfl) (fun _ _ _ h => h) (YieldsR.read (fun w => But.refl [] w) ?_ fun w hS => ?_) ?_
      · go_simp
      · go_simp
      refine wpM_one (i := 4) rfl (by kernel_rfl) fun w6 hR6 hS6 K' hK => ?_
      have km := run_noughts w6 (n := s.size) (by omega)
      have hno := noughtsF_row w6 s.size
      have hnb := noughtsF_but w6 s.size
      obtain ⟨w7, hw7⟩ : ∃ x, x = noughtsF w6 s.size := ⟨_, rfl⟩
      rw [← hw7] at km hno hnb
      clear hw7
      go_simp
      refine hK _ _ ⟨hS6.trans hnb, ?_⟩
      clear hK K' km
      have hT : TwoF w w7 w4.heap.size w6.heap.size s.data.toList (parF R s.size 0) := ⟨(hro.but hR6).but hnb, by rw [parF_zero]; exact hno, by have := hR6.size; omega, hg4, hS6.size, hS6.trans hnb⟩
      refine wpM_take (fun w => But.refl [] w) (fun x y z h k => h.trans k) (i := 6) (v := .slice (some ⟨w6.heap.size, 0, none⟩) s.size s.size) rfl (by kernel_rfl) (by kernel_rfl) (by kernel_rfl) (fun _ _ _ h => h) (YieldsR.read (fun w => But.refl [] w) ?_ fun w hS => ?_) ?_
      · go_simp
      · go_simp
      refine ⟨by kernel_rfl, fun w9 hR9 hS9 => ?_⟩
      have HT9 := Lib.hid (hT.but hR9)
      clear hR9 hS9 hT
      go_simp
      go_wp2
      go_meet
      exact ⟨_, _, _, rfl, rfl, hcg, HT9⟩
    · intro w4 hR4 hS4 K' hK
      have km := run_noughts w4 (n := s.size) (by omega)
      have hno := noughtsF_row w4 s.size
      have hnb := noughtsF_but w4 s.size
      obtain ⟨w5, hw5⟩ : ∃ x, x = noughtsF w4 s.size := ⟨_, rfl⟩
      rw [← hw5] at km hno hnb
      clear hw5
      go_simp
      refine hK _ _ ⟨hS4.trans hnb, ?_⟩
      clear hK K' km
      have hg4 := hS4.size
      have hlt5 := hno.lt
      refine wpM_one (i := 1) rfl (by kernel_rfl) fun w6 hR6 hS6 K' hK => ?_
      have kc := run_rowOf w6 s
      have hro := rowOf_row w6 s
      have hrb := rowOf_but w6 s
      have hcg := grownCap_le' w6 s.size 5
      obtain ⟨c1, hc1⟩ : ∃ c, c = grownCap w6 s.size 0 5 := ⟨_, rfl⟩
      rw [← hc1] at kc hcg
      obtain ⟨w7, hw7⟩ : ∃ x, x = rowOf w6 s := ⟨_, rfl⟩
      rw [← hw7] at kc hro hrb
      clear hc1 hw7
      go_simp
      refine hK _ _ ⟨hS6.trans hrb, ?_⟩
      clear hK K' kc
      have hT : TwoF w w7 w6.heap.size w4.heap.size s.data.toList (parF R s.size 0) := ⟨hro, by rw [parF_zero]; exact (hno.but hR6).but hrb, by have := hR6.size; omega, hS6.size, hg4, hS6.trans hrb⟩
      refine wpM_take (fun w => But.refl [] w) (fun x y z h k => h.trans k) (i := 5) (v := .slice (some ⟨w6.heap.size, 0, none⟩) s.size c1) rfl (by kernel_rfl) (by kernel_rfl) (by kernel_rfl) (fun _ _ _ h => h) (YieldsR.read (fun w => But.refl [] w) ?_ fun w hS => ?_) ?_
      · go_simp
      · go_simp
      refine wpM_take (fun w => But.refl [] w) (fun x y z h k => h.trans k) (i := 6) (v := .slice (some ⟨w4.heap.size, 0, none⟩) s.size s.size) rfl (by kernel_rfl) (by kernel_rfl) (by kernel_rfl) (fun _ _ _ h => h) (YieldsR.read (fun w => But.refl [] w) ?_ fun w hS => ?_) ?_
      · go_simp
      · go_simp
      refine ⟨by kernel_rfl, fun w9 hR9 hS9 => ?_⟩
      have HT9 := Lib.hid (hT.but hR9)
      clear hR9 hS9 hT
      go_simp
      go_wp2
      go_meet
      exact ⟨_, _, _, rfl, rfl, hcg, HT9⟩
  case rest =>
  obtain ⟨g1, g2, c1, rfl, rfl, hcap, HT⟩ := hcut
  go_wp2_with fail
  go_loopw [30] (fun kv wr => ∃ k : Nat, k ≤ s.size ∧ kv = .int .i64 k ∧ Hid (TwoF w wr g1 g2 s.data.toList (parF R s.size k))) (fun kv _ => s.size - (intOf kv).toNat)
  case atStart => exact ⟨0, Nat.zero_le _, rfl, HT⟩
  case round =>
    obtain ⟨k, hk, rfl, HT⟩ := hrel
    by_cases hlt : k < s.size
    · obtain ⟨qa, hqa⟩ : ∃ q, q = behindF s.data.toList n k := ⟨_, rfl⟩
      obtain ⟨qb, hqb⟩ : ∃ q, q = (t.data.toList.getD k 0).toNat := ⟨_, rfl⟩
      obtain ⟨qc, hqc⟩ : ∃ q, q = behindF t.data.toList n k := ⟨_, rfl⟩
      have la : qa < 256 := by rw [hqa]; exact behindF_lt _ _ _
      have lb : qb < 256 := by rw [hqb]; exact UInt8.toNat_lt _
      have lc : qc < 256 := by rw [hqc]; exact behindF_lt _ _ _
      have hll : s.data.toList.length = s.size := Array.length_toList
      have hpl := parF_length (k := k) HRl.out hk
      obtain ⟨b, hb⟩ : ∃ b, b = (s.data.toList.getD k 0).toNat := ⟨_, rfl⟩
      have hcb : wr.cell? ⟨g1, k, none⟩ = some (.int .u8 (b : Nat)) := by rw [hb]; exact HT.out.1.cell (by rw [hll]; exact hlt)
      have hb256 : b < 256 := by rw [hb]; exact UInt8.toNat_lt _
      have HP : Hid (Calls Tryd.prog 54 #[.int .i64 n, .int .i64 k, .slice (some ⟨g1, 0, none⟩) s.size c1, .string t] wr fun e w' => e = .returned (preV qa qb qc) ∧ But [] wr w') := Lib.hid (by
        rw [hqa, hqb, hqc]
        exact ppre_any wr hn1 hn8 hlt hs hcap HT.out.1.lt (fun i hi => HT.out.1.cell (by rw [hll]; omega)) HTS.out)
      obtain ⟨p, hp⟩ : ∃ p, p = predF (kd : Int) qa qb qc := ⟨_, rfl⟩
      have hp256 : p < 256 := by rw [hp]; exact predF_lt _ la lb lc
      have hix := fun v => pre_index (a := qa) (b := qb) (c := qc) hkd la lb v
      rw [← hp] at hix
      obtain ⟨V, hV⟩ : ∃ V, V = preV qa qb qc := ⟨_, rfl⟩
      rw [← hV] at hix HP
      obtain ⟨y, hy⟩ : ∃ y, y = s.data.toList.getD k 0 - foreF (kd : Int) n s.data.toList t.data.toList k := ⟨_, rfl⟩
      have ew : IntKind.u8.wrap ((b : Int) - (p : Int)) = ((y.toNat : Nat) : Int) := by
        have hfo : (foreF (kd : Int) n s.data.toList t.data.toList k).toNat = p := by
          unfold foreF
          rw [← hqa, ← hqb, ← hqc, ← hp, UInt8.toNat_ofNat']
          omega
        rw [hy, UInt8.toNat_sub, hfo, ← hb, IntKind.wrap_u8]
        omega
      obtain ⟨z, hz⟩ : ∃ z : Nat, z = y.toNat := ⟨_, rfl⟩
      rw [← hz] at ew
      have HN : Hid (y = R.getD k 0) := Lib.hid (by rw [HR.out, doF_at _ _ _ _ (by rw [hll]; exact hlt), hy])
      have HZ := Lib.hid hz
      have HPL := Lib.hid hpl
      have HLL := Lib.hid hll
      clear hqa hqb hqc hb hp hV hy hz hpl hll
      go_upto_region 8 with (fail)
      go_wp2_with fail
      refine HP.out.mono ?_
      rintro e w5 ⟨rfl, hB5⟩
      have HT5 := Lib.hid (HT.out.but hB5)
      have c5 : ∃ u, w5.cell? ⟨g2, k, none⟩ = some (.int .u8 u) := ⟨_, HT5.out.2.1.cell (by rw [HPL.out]; exact hlt)⟩
      obtain ⟨u5, c5⟩ := c5
      have f5 : w5.frozen? ⟨g2, k, none⟩ = false := HT5.out.2.1.free (by rw [HPL.out]; exact hlt)
      have HT6 : Hid (TwoF w (w5.setCell ⟨g2, k, none⟩ (.int .u8 (z : Nat))) g1 g2 s.data.toList (parF R s.size (k + 1))) := Lib.hid (by
        rw [← parF_set HRl.out hlt, ← HN.out, HZ.out]
        exact HT5.out.put y (by rw [HPL.out]; exact hlt))
      clear hB5 hcb HP HT HT5
      go_wp2
      go_roundw
      case rel => exact ⟨k + 1, by omega, by go_num, HT6⟩
      case measure => simp [intOf] <;> omega
    · obtain rfl : k = s.size := by omega
      have hpa := parF_all HRl.out
      have hct := HT.out.2.1.text s.size
      rw [hpa, HRl.out] at hct
      go_wp2
      go_ret2
      exact ⟨rfl, HT.out.2.2.2.2.2⟩
end Go.Proofs.YtfiedoejdikcgaaDoor
set_option maxRecDepth 100000
set_option linter.unusedVariables false
namespace Go.Proofs.YtfiedoejdikcgaaDoor
set_option maxRecDepth 100000
open Go Go.RowKit
/-- What is undone so far, and the rest as it was. -/
def midF (U l : List UInt8) (k : Nat) : List UInt8 := U.take k ++ l.drop k
theorem midF_length {U l : List UInt8} (h : U.length = l.length) (k : Nat) : (midF U l k).length = l.length := by unfold midF; rw [List.length_append, List.length_take, List.length_drop]; omega
theorem midF_zero (U l : List UInt8) : midF U l 0 = l := rfl
theorem midF_all {U l : List UInt8} (h : U.length = l.length) {n : Nat} (hn : n = l.length) : midF U l n = U := by unfold midF; rw [List.take_of_length_le (by omega), List.drop_eq_nil_of_le (by omega), List.append_nil]
theorem midF_at {U l : List UInt8} (h : U.length = l.length) {k i : Nat} (hk : k ≤ l.length) : (midF U l k).getD i 0 = if i < k then U.getD i 0 else l.getD i 0 := by
  unfold midF
  by_cases hi : i < k
  · rw [if_pos hi, getD_left (by rw [List.length_take]; omega), getD_take hi]
  · rw [if_neg hi, List.getD_eq_getElem?_getD, List.getElem?_append_right (by rw [List.length_take]; omega), List.length_take, List.getElem?_drop, List.getD_eq_getElem?_getD]
    congr 2
    omega
theorem midF_set {U l : List UInt8} (h : U.length = l.length) {k : Nat} (hk : k < l.length) : (midF U l k).set k (U.getD k 0) = midF U l (k + 1) := by
  refine ext_getD (by rw [List.length_set, midF_length h, midF_length h]) fun i hi => ?_
  rw [List.length_set, midF_length h] at hi
  rw [midF_at h (by omega)]
  by_cases hik : i = k
  · subst hik
    rw [getD_lt (by rw [List.length_set, midF_length h]; exact hi), List.getElem_set_self, if_pos (by omega)]
  · rw [List.getD_eq_getElem?_getD, List.getElem?_set_ne (by omega), ← List.getD_eq_getElem?_getD, midF_at h (by omega)]
    by_cases h3 : i < k
    · rw [if_pos h3, if_pos (by omega)]
    · rw [if_neg h3, if_neg (by omega)]
/-- A row of the call's own. -/
def OneF (w : World) (v : World) (g : Nat) (l : List UInt8) : Prop := RowF v g l ∧ w.heap.size ≤ g ∧ But [] w v
theorem OneF.but {w v v' : World} {g : Nat} {l : List UInt8} (h : OneF w v g l) (k : But [] v v') : OneF w v' g l := ⟨h.1.but k, h.2.1, h.2.2.trans k⟩
theorem OneF.put {w v : World} {g : Nat} {l : List UInt8} (h : OneF w v g l) {i : Nat} (x : UInt8) (hi : i < l.length) : OneF w (v.setCell ⟨g, i, none⟩ (.int .u8 (x.toNat : Nat))) g (l.set i x) :=
  ⟨h.1.put i x hi, h.2.1, h.2.2.setCell (p := ⟨g, i, none⟩) (.inr h.2.1) _⟩
set_option maxHeartbeats 1000000 in
theorem pundo_any (w : World) (bpp kind : Int) (s t : ByteArray) (hs : s.size ≤ 140737488351232) (ht : t.size ≤ 140737488351232) :
    Calls Tryd.prog 62 #[.int .i64 bpp, .int .i64 kind, .string s, .string t] w fun e w' => e = .returned (.tuple #[.string (strL (undoA bpp kind s t)), .int .i64 (wrongF bpp kind s t)]) ∧ But [] w w' := by
  have hW := fun v => pfcheck_any v bpp kind s t (by omega) (by omega)
  by_cases h0 : wrongF bpp kind s t ≠ 0
  · obtain ⟨er, her⟩ : ∃ x, x = wrongF bpp kind s t := ⟨_, rfl⟩
    rw [undoA_bad h0]
    have h1 : er = 1 ∨ er = 28 := by rcases wrongF_cases bpp kind s t with h | h | h <;> simp_all
    rw [← her]
    simp only [← her] at hW
    have HW := Lib.hid hW
    clear hW her h0
    rcases h1 with rfl | rfl
    · go_enter Tryd.func62, Tryd.ntmps62
      go_wp2_with fail
      refine (HW.out _).mono ?_
      rintro e w1 ⟨rfl, rfl⟩
      go_wp2
      go_ret2
      exact ⟨rfl, But.refl [] _⟩
    · go_enter Tryd.func62, Tryd.ntmps62
      go_wp2_with fail
      refine (HW.out _).mono ?_
      rintro e w1 ⟨rfl, rfl⟩
      go_wp2
      go_ret2
      exact ⟨rfl, But.refl [] _⟩
  have h0 : wrongF bpp kind s t = 0 := by simpa using h0
  obtain ⟨⟨hb1, hb8⟩, hts, hk0, hk4⟩ := wrongF_zero h0
  obtain ⟨n, rfl⟩ : ∃ n : Nat, bpp = (n : Int) := ⟨bpp.toNat, by omega⟩
  obtain ⟨kd, rfl⟩ : ∃ n : Nat, kind = (n : Int) := ⟨kind.toNat, by omega⟩
  have hn1 : 1 ≤ n := by omega
  have hn8 : n ≤ 8 := by omega
  have hkd : kd ≤ 4 := by omega
  rw [undoA_ok h0, h0]
  rw [h0] at hW
  have HW := Lib.hid hW
  have HTS := Lib.hid hts
  obtain ⟨R, hR⟩ : ∃ R, R = undoF (kd : Int) n s.data.toList t.data.toList := ⟨_, rfl⟩
  have hRl : R.length = s.data.toList.length := by rw [hR, undoF_length]
  rw [← hR]
  have HRl := Lib.hid hRl
  have HR := Lib.hid hR
  clear hW h0 hts hR hRl hb1 hb8 hk0 hk4
  have kc := run_rowOf w s
  have hro := rowOf_row w s
  have hrb := rowOf_but w s
  have hcap := grownCap_le' w s.size 5
  obtain ⟨c1, hc1⟩ : ∃ c, c = grownCap w s.size 0 5 := ⟨_, rfl⟩
  rw [← hc1] at kc hcap
  obtain ⟨w5, hw5⟩ : ∃ x, x = rowOf w s := ⟨_, rfl⟩
  rw [← hw5] at kc hro hrb
  clear hc1 hw5
  obtain ⟨g, hg⟩ : ∃ g, g = w.heap.size := ⟨_, rfl⟩
  have HO0 : Hid (OneF w w5 g (midF R s.data.toList 0)) := Lib.hid ⟨by rw [midF_zero, hg]; exact hro, by rw [hg]; exact Nat.le_refl _, hrb⟩
  rw [← hg] at kc
  clear hro hrb hg
  go_enter Tryd.func62, Tryd.ntmps62
  go_wp2_with fail
  refine (HW.out _).mono ?_
  rintro e wz ⟨rfl, rfl⟩
  go_wp2_with fail
  go_loopw [25] (fun kv wr => ∃ k : Nat, k ≤ s.size ∧ kv = .int .i64 k ∧ Hid (OneF w wr g (midF R s.data.toList k))) (fun kv _ => s.size - (intOf kv).toNat)
  case atStart => exact ⟨0, Nat.zero_le _, rfl, HO0⟩
  case round =>
    clear HO0 kc
    obtain ⟨k, hk, rfl, HO⟩ := hrel
    by_cases hlt : k < s.size
    · obtain ⟨qa, hqa⟩ : ∃ q, q = behindF R n k := ⟨_, rfl⟩
      obtain ⟨qb, hqb⟩ : ∃ q, q = (t.data.toList.getD k 0).toNat := ⟨_, rfl⟩
      obtain ⟨qc, hqc⟩ : ∃ q, q = behindF t.data.toList n k := ⟨_, rfl⟩
      have la : qa < 256 := by rw [hqa]; exact behindF_lt _ _ _
      have lb : qb < 256 := by rw [hqb]; exact UInt8.toNat_lt _
      have lc : qc < 256 := by rw [hqc]; exact behindF_lt _ _ _
      have hll : s.data.toList.length = s.size := Array.length_toList
      have hpl := midF_length HRl.out k
      rw [hll] at hpl
      obtain ⟨b, hb⟩ : ∃ b, b = (s.data.toList.getD k 0).toNat := ⟨_, rfl⟩
      have hcell : ∀ v, OneF w v g (midF R s.data.toList k) → v.cell? ⟨g, k, none⟩ = some (.int .u8 (b : Nat)) := fun v h => by
        rw [hb, h.1.cell (by rw [hpl]; exact hlt), midF_at HRl.out (by rw [hll]; exact hk), if_neg (by omega)]
      have hfree : ∀ v, OneF w v g (midF R s.data.toList k) → v.frozen? ⟨g, k, none⟩ = false := fun v h => h.1.free (by rw [hpl]; exact hlt)
      have hb256 : b < 256 := by rw [hb]; exact UInt8.toNat_lt _
      have HP : Hid (∀ v, OneF w v g (midF R s.data.toList k) → Calls Tryd.prog 54 #[.int .i64 n, .int .i64 k, .slice (some ⟨g, 0, none⟩) s.size c1, .string t] v fun e w' => e = .returned (preV qa qb qc) ∧ But [] v w') := Lib.hid (fun v h => by
        rw [hqa, hqb, hqc]
        refine ppre_any v hn1 hn8 hlt hs hcap h.1.lt (fun i hi => ?_) HTS.out
        rw [h.1.cell (by rw [hpl]; omega), midF_at HRl.out (by rw [hll]; exact hk), if_pos hi])
      obtain ⟨p, hp⟩ : ∃ p, p = predF (kd : Int) qa qb qc := ⟨_, rfl⟩
      have hp256 : p < 256 := by rw [hp]; exact predF_lt _ la lb lc
      have hix := fun v => pre_index (a := qa) (b := qb) (c := qc) hkd la lb v
      rw [← hp] at hix
      obtain ⟨V, hV⟩ : ∃ V, V = preV qa qb qc := ⟨_, rfl⟩
      rw [← hV] at hix HP
      obtain ⟨y, hy⟩ : ∃ y, y = R.getD k 0 := ⟨_, rfl⟩
      have ew : IntKind.u8.wrap ((b : Int) + (p : Int)) = ((y.toNat : Nat) : Int) := by
        have hfo : (foreF (kd : Int) n R t.data.toList k).toNat = p := by
          unfold foreF
          rw [← hqa, ← hqb, ← hqc, ← hp, UInt8.toNat_ofNat']
          omega
        rw [hy, HR.out, undoF_at hn1 _ _ k (by rw [hll]; exact hlt), ← HR.out, UInt8.toNat_add, hfo, ← hb, IntKind.wrap_u8]
        omega
      obtain ⟨z, hz⟩ : ∃ z : Nat, z = y.toNat := ⟨_, rfl⟩
      rw [← hz] at ew
      have HZ := Lib.hid hz
      have HY := Lib.hid hy
      have HPL := Lib.hid hpl
      have HLL := Lib.hid hll
      have HCE := Lib.hid hcell
      have HFR := Lib.hid hfree
      have HPUT : Hid (∀ v, OneF w v g (midF R s.data.toList k) → OneF w (v.setCell ⟨g, k, none⟩ (.int .u8 (z : Nat))) g (midF R s.data.toList (k + 1))) := Lib.hid (fun v h => by
        rw [← midF_set HRl.out (by rw [hll]; exact hlt), ← hy, hz]
        exact h.put y (by rw [hpl]; exact hlt))
      clear hqa hqb hqc hb hp hV hy hz hpl hll hcell hfree
      go_upto_region 8 with (fail)
      have c0 := HCE.out _ (HO.out.but ((But.refl [] _).drew))
      go_region_with (refine (HP.out _ (HO.out.but ((But.refl [] _).drew))).mono ?_; rintro e w6 ⟨rfl, hB6⟩; have HO6 := Lib.hid (HO.out.but (((But.refl [] _).drew).trans hB6)); have c6 := HCE.out _ HO6.out; have f6 := HFR.out _ HO6.out; have HO7 := Lib.hid (HPUT.out _ HO6.out); clear hB6)
      all_goals go_wp2
      all_goals exact ⟨⟨k + 1, by omega, by go_num, HO7⟩, by simp [intOf] <;> omega⟩
    · obtain rfl : k = s.size := by omega
      have hpa := midF_all HRl.out (n := s.size) (Array.length_toList).symm
      have hct := HO.out.1.text c1
      have hRl2 : R.length = s.size := HRl.out.trans Array.length_toList
      rw [hpa, hRl2] at hct
      go_wp2
      go_ret2
      exact ⟨rfl, HO.out.2.2⟩
end Go.Proofs.YtfiedoejdikcgaaDoor
set_option maxRecDepth 100000
set_option linter.unusedVariables false
namespace Go.Proofs.YtfiedoejdikcgaaDoor
set_option maxRecDepth 100000
open Go Go.RowKit
theorem cutFrom_run (s : ByteArray) {i : Nat} (W : World) (hi : i ≤ s.size) : (Instr.slice 9 (.string s) (some (.int .i64 (i : Int))) none none).run Tryd.prog W = .ok (.string (strL (s.data.toList.drop i))) W := by
  rw [run_slice_string_from_if W 9 s .i64 (i : Int) Tryd.underlying9, if_pos (by omega), Int.toNat_natCast, ext_list, List.take_of_length_le (by rw [Array.length_toList]; exact Nat.le_refl _)]
theorem cutMid_run (s : ByteArray) {i j : Nat} (h : i ≤ j) (W : World) (hj : j ≤ s.size) : (Instr.slice 9 (.string s) (some (.int .i64 (i : Int))) (some (.int .i64 (j : Int))) none).run Tryd.prog W = .ok (.string (strL ((s.data.toList.drop i).take (j - i)))) W := by
  rw [run_slice_string W 9 s .i64 .i64 (i : Int) (j : Int) Tryd.underlying9 (by omega) (by omega) (by omega), Int.toNat_natCast, Int.toNat_natCast, ext_list, List.drop_take]
/-- A row of one pixel has as many bytes as the filter asks. -/
theorem rowLen_one {a b d c l : Int} {W H D C : Nat} (h0 : rightH a b d c l = 0) (R : RightP a b d c l W H D C) (pal tr : List UInt8) (has : Bool) : rowLen ⟨W, H, D, C, pal, tr, has⟩ 1 = bppN ⟨W, H, D, C, pal, tr, has⟩ ∧ bppN ⟨W, H, D, C, pal, tr, has⟩ ≤ 8 ∧ 1 ≤ bppN ⟨W, H, D, C, pal, tr, has⟩ := by
  have hd := of_decide_eq_true (rightH_ok h0).2.2.2.2
  rw [R.dd, R.cc] at hd
  show (D * samplesN C * 1 + 7) / 8 = max 1 (D * samplesN C / 8) ∧ max 1 (D * samplesN C / 8) ≤ 8 ∧ 1 ≤ max 1 (D * samplesN C / 8)
  have hD : (D = 1 ∨ D = 2 ∨ D = 4 ∨ D = 8 ∨ D = 16) := by omega
  have hd2 : C = 0 ∨ C = 3 ∨ ((C = 2 ∨ C = 4 ∨ C = 6) ∧ (D = 8 ∨ D = 16)) := by omega
  rcases hd2 with rfl | rfl | ⟨rfl | rfl | rfl, rfl | rfl⟩
  · rcases hD with rfl | rfl | rfl | rfl | rfl <;> decide
  · rcases hD with rfl | rfl | rfl | rfl | rfl <;> decide
  all_goals decide
theorem rowLen_le {a b d c l : Int} {W H D C : Nat} (R : RightP a b d c l W H D C) (pal tr : List UInt8) (has : Bool) {n : Nat} (hn : n ≤ 1024) : rowLen ⟨W, H, D, C, pal, tr, has⟩ n ≤ 8192 := by
  have h1 : D * samplesN C ≤ 16 * 4 := Nat.mul_le_mul R.d16 R.s4
  have h : D * samplesN C * n ≤ 64 * 1024 := Nat.mul_le_mul h1 hn
  show (D * samplesN C * n + 7) / 8 ≤ 8192
  omega
set_option maxHeartbeats 1000000 in
theorem pnext12_any (w : World) {W H D C : Nat} {l : Int} {pal tr rest ab : ByteArray} {has : Bool} {bm gp n8 n m : Nat} {SS : ShP} (hSS : SS = ⟨W, H, D, C, pal.data.toList, tr.data.toList, has⟩) (h0 : rightH (W : Int) H D C l = 0) (R : RightP (W : Int) H D C l W H D C) (hI : Is w bm 48 #[.int .i64 W, .int .i64 H, .int .i64 D, .int .i64 C, .int .i64 l, .string pal, .string tr, .bool has, .string rest, .slice (some ⟨gp, 0, none⟩) n8 n8])
    (hm1 : 1 ≤ m) (hm2 : m ≤ 1024) (hn : n = rowLen SS m) (hr : 1 + n ≤ rest.size) (hr2 : rest.size ≤ 140737488351232) (hab : ab.size ≤ 140737488351232) :
    Calls Tryd.prog 43 #[.pointer (some ⟨bm, 0, none⟩), .int .i64 (m : Nat), .string ab] w fun e w' => e = .returned (.tuple #[.string (strL (undoA (bppN SS : Nat) (kindJ rest.data.toList : Nat) (strL ((rest.data.toList.drop 1).take n)) ab)), .int .i64 (wrongF (bppN SS : Nat) (kindJ rest.data.toList : Nat) (strL ((rest.data.toList.drop 1).take n)) ab)]) ∧ Is w' bm 48 #[.int .i64 W, .int .i64 H, .int .i64 D, .int .i64 C, .int .i64 l, .string pal, .string tr, .bool has, .string (strL (rest.data.toList.drop (1 + n))), .slice (some ⟨gp, 0, none⟩) n8 n8] ∧ But [bm] w w' := by
  have HROW : Hid (∀ v, Calls Tryd.prog 59 #[.agg #[.int .i64 W, .int .i64 H, .int .i64 D, .int .i64 C, .int .i64 l], .int .i64 (m : Nat)] v fun e w' => e = .returned (.int .i64 (n : Nat)) ∧ But [] v w') := Lib.hid fun v => by
    have h := lrow_any v (W : Int) H D C l m
    rw [rowA_len pal.data.toList tr.data.toList has h0 R hm1 hm2, ← hSS, ← hn] at h
    exact h
  have hb1 := rowLen_one h0 R pal.data.toList tr.data.toList has
  rw [← hSS] at hb1
  obtain ⟨hb1, hb8, hb0⟩ := hb1
  obtain ⟨bp, hbp⟩ : ∃ z, z = bppN SS := ⟨_, rfl⟩
  rw [← hbp] at hb1 hb8 hb0 ⊢
  have HROW1 : Hid (∀ v, Calls Tryd.prog 59 #[.agg #[.int .i64 W, .int .i64 H, .int .i64 D, .int .i64 C, .int .i64 l], .int .i64 1] v fun e w' => e = .returned (.int .i64 (bp : Nat)) ∧ But [] v w') := Lib.hid fun v => by
    have h := lrow_any v (W : Int) H D C l ((1 : Nat) : Int)
    rw [rowA_len pal.data.toList tr.data.toList has h0 R (by decide) (by decide), ← hSS, hb1] at h
    exact h
  have hnl : n ≤ 8192 := by rw [hn, hSS]; exact rowLen_le R _ _ _ hm2
  obtain ⟨n1, hn1⟩ : ∃ z, z = 1 + n := ⟨_, rfl⟩
  have en1 : (1 : Int) + (n : Int) = (n1 : Int) := by omega
  have vn1 := wrapI_in (show n1 < 1000000000000000 by omega)
  have hn1l : n1 ≤ rest.size := by omega
  have h0l : 0 < rest.size := by omega
  obtain ⟨kd, hkd⟩ : ∃ z, z = kindJ rest.data.toList := ⟨_, rfl⟩
  have hkd2 : kd = rest[0].toNat := by rw [hkd]; unfold kindJ; rw [getD_byte rest h0l]
  have kdl : kd < 256 := by rw [hkd2]; exact rest[0].toNat_lt
  have kx : ∀ w, (Instr.index 9 (.string rest) (.int .i64 0)).run Tryd.prog w = .ok (.int .u8 (kd : Nat)) w := fun w => by rw [hkd2]; exact byteR_run (k := 0) h0l w
  have vkd := wrapI_in (show kd < 1000000000000000 by omega)
  obtain ⟨seg, hseg⟩ : ∃ z, z = strL ((rest.data.toList.drop 1).take n) := ⟨_, rfl⟩
  have hrl : rest.data.toList.length = rest.size := by rw [Array.length_toList]; rfl
  have hsegl : seg.size = n := by rw [hseg, strL_size, List.length_take, List.length_drop, hrl]; omega
  have ks : ∀ w, (Instr.slice 9 (.string rest) (some (.int .i64 1)) (some (.int .i64 (n1 : Nat))) none).run Tryd.prog w = .ok (.string seg) w := fun w => by
    have h := cutMid_run rest (i := 1) (j := n1) (by omega) w hn1l
    rw [show n1 - 1 = n by omega, ← hseg] at h
    exact h
  obtain ⟨re, hre⟩ : ∃ z, z = strL (rest.data.toList.drop n1) := ⟨_, rfl⟩
  have kf : ∀ w, (Instr.slice 9 (.string rest) (some (.int .i64 (n1 : Nat))) none none).run Tryd.prog w = .ok (.string re) w := fun w => by rw [hre]; exact cutFrom_run rest w hn1l
  have HUN : Hid (∀ v, Calls Tryd.prog 62 #[.int .i64 (bp : Nat), .int .i64 (kd : Nat), .string seg, .string ab] v fun e w' => e = .returned (.tuple #[.string (strL (undoA (bp : Nat) (kd : Nat) seg ab)), .int .i64 (wrongF (bp : Nat) (kd : Nat) seg ab)]) ∧ But [] v w') := Lib.hid fun v => pundo_any v (bp : Int) (kd : Int) seg ab (by rw [hsegl]; omega) hab
  rw [← hkd, ← hn1, ← hseg, ← hre]
  obtain ⟨us, hus⟩ : ∃ z, z = strL (undoA (bp : Int) (kd : Int) seg ab) := ⟨_, rfl⟩
  obtain ⟨er, her⟩ : ∃ z, z = wrongF (bp : Int) (kd : Int) seg ab := ⟨_, rfl⟩
  rw [← hus, ← her] at HUN ⊢
  have HI := Lib.hid hI
  clear hI hSS hn hr hr2 hb1 hbp hkd hkd2 hseg hrl hsegl hre hus her R h0 hn1 hab
  have c0 := HI.out.cell 0
  have c1 := HI.out.cell 1
  have c2 := HI.out.cell 2
  have c3 := HI.out.cell 3
  have c4 := HI.out.cell 4
  have hgl := HI.out.lt
  go_enter Tryd.func43, Tryd.ntmps43
  go_wp2_with fail
  refine (HROW.out _).mono ?_
  rintro e w2 ⟨rfl, hB2⟩
  have HI2 := Lib.hid (HI.out.but hB2 (by simp))
  have HB2 := Lib.hid hB2
  clear hB2 c0 c1 c2 c3 c4 hgl
  have c8 := HI2.out.cell 8
  have f8 := HI2.out.free 8
  have hgl := HI2.out.lt
  go_upto_region 2 with (fail)
  go_quiet (fail)
  go_upto_region 4 with (fail)
  obtain ⟨w3, hw3⟩ : ∃ X, X = (w2.drewN nq).setCell ⟨bm, 8, none⟩ (.string re) := ⟨_, rfl⟩
  rw [← hw3]
  have HI3 : Hid (Is w3 bm 48 #[.int .i64 W, .int .i64 H, .int .i64 D, .int .i64 C, .int .i64 l, .string pal, .string tr, .bool has, .string re, .slice (some ⟨gp, 0, none⟩) n8 n8]) := Lib.hid (by rw [hw3]; exact (HI2.out.drewN nq).put 8 _)
  have HB3 : Hid (But [bm] w w3) := Lib.hid (by rw [hw3]; exact (HB2.out.drewN nq).wide.setCell (p := ⟨bm, 8, none⟩) (.inl (by simp)) _)
  clear c8 f8 hgl hw3
  have c0 := HI3.out.cell 0
  have c1 := HI3.out.cell 1
  have c2 := HI3.out.cell 2
  have c3 := HI3.out.cell 3
  have c4 := HI3.out.cell 4
  have hgl := HI3.out.lt
  go_wp2_with fail
  refine (HROW1.out _).mono ?_
  rintro e w4 ⟨rfl, hB4⟩
  have HI4 := Lib.hid (HI3.out.but hB4 (by simp))
  have HB4 := Lib.hid (HB3.out.trans hB4.wide)
  clear hB4 c0 c1 c2 c3 c4 hgl
  go_wp2_with fail
  refine (HUN.out _).mono ?_
  rintro e w5 ⟨rfl, hB5⟩
  have HI5 := Lib.hid (HI4.out.but hB5 (by simp))
  have HB5 := Lib.hid (HB4.out.trans hB5.wide)
  clear hB5
  go_wp2
  go_ret2
  exact ⟨rfl, HI5.out, HB5.out⟩
end Go.Proofs.YtfiedoejdikcgaaDoor
set_option maxRecDepth 100000
set_option linter.unusedVariables false
namespace Go.Proofs.YtfiedoejdikcgaaDoor
set_option maxRecDepth 100000
open Go Go.RowKit
theorem Nums.zs {w : World} {A : Option Addr} {n : Nat} {L : List Nat} (h : Nums w A n L) : Zs w A n (L.map fun x => ((x : Nat) : Int)) := by
  refine ⟨by rw [List.length_map]; exact h.1, fun hn => ?_⟩
  obtain ⟨g, o, e, hg, hc⟩ := h.2 hn
  refine ⟨g, o, e, hg, fun i hi => ?_⟩
  rw [List.length_map] at hi
  rw [List.getElem_map]
  exact hc i hi
end Go.Proofs.YtfiedoejdikcgaaDoor
