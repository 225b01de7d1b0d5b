/- Several texts in one: PxL, FiP, Slib, CkA, BuA, BuB, BuC (what PixelImages, PixelRows, PixelSame reach of them). -/
import Derived.Test.YtfiedoejdikcgaaDoorQ01
import Derived.Test.YtfiedoejdikcgaaDoorQ02
import Derived.Test.YtfiedoejdikcgaaDoorQ03
import Derived.Test.YtfiedoejdikcgaaDoorQ05
import Derived.Test.YtfiedoejdikcgaaDoorQ06
import Derived.Test.YtfiedoejdikcgaaDoorQ07
import Derived.Test.YtfiedoejdikcgaaDoorQ08
import Derived.Test.YtfiedoejdikcgaaDoorQ09
import Derived.Test.YtfiedoejdikcgaaDoorQ10
import Derived.Test.YtfiedoejdikcgaaDoorQ11
import Derived.Test.YtfiedoejdikcgaaDoorQ12
import Derived.Test.YtfiedoejdikcgaaDoorQ13
import Derived.Below
import Derived.BigQuiet
import Derived.BigRegion
import Derived.Deep.AppendLies
import Derived.Deep.CutBlock
import Derived.Deep.CutRange
import Derived.Deep.DeepCutAuto
import Derived.Deep.Draws
import Derived.Deep.QuietTactic
import Derived.Deep.RegionLaw
import Derived.Deep.RegionWith
import Derived.Deep.Slices
import Derived.Handy
import Derived.Laws.BitsAllLaws
import Derived.Laws.BitsLemmas
import Derived.Laws.BytesArg
import Derived.Laws.Externs
import Derived.Laws.IdiomStrings
import Derived.Laws.MakeOwn
import Derived.Laws.OwnMore
import Derived.Laws.Rows
import Derived.Laws.StructEq
import Derived.Lib.AppendStr
import Derived.Lib.BufferWrite
import Derived.Lib.Hide
import Derived.Lib.UnsafeStr
import Derived.Maps.AppendAt
import Derived.OpenShut
import Derived.OrdersHeld
import Derived.OrdersIn
import Derived.Outline
import Derived.OwnWalk
import Derived.OwnWalkIn
import Derived.ProofKit
import Derived.RangeFuncCalls
import Derived.RegionTactic
import Derived.Shelf.LaysM
import Derived.Shelf.Small.Wraps
import Derived.Shelf.Strconv.Clone
import Derived.Shelf.Strings.Builder1
import Derived.Shelf.Strings.BuilderF
import Derived.Shelf.Strings.Prefix
import Derived.TacticsInMore
import Derived.Test.YtfiedoejdikcgaaDoorChecked
import Derived.WalkKit
set_option maxRecDepth 100000
set_option linter.unusedVariables false
set_option maxRecDepth 100000
set_option linter.unusedVariables false
namespace Go.Proofs.YtfiedoejdikcgaaDoor
set_option maxRecDepth 100000
open Go Go.RowKit
/-- A raster's packed bytes, of whatever numbers. -/
def rowsA (a b : Int) (pix : ByteArray) : ByteArray × Int := if checkA a b pix ≠ 0 then (⟨#[]⟩, checkA a b pix) else (strL (rowsT a.toNat b.toNat pix.data.toList), 0)
theorem ras_eql (w : World) (a b : Int) (s : ByteArray) : (binOp .eql 23 (.agg #[.int .i64 a, .int .i64 b, .string s]) (.agg #[.int .i64 a, .int .i64 b, .string s])).run Tryd.prog w = .ok (.bool true) w := by
  rw [run_eql_struct, show (10000 : Nat) = 9998 + 1 + 1 from rfl, run_equalIn_agg w _ _ _ _ (by kernel_rfl) (by kernel_rfl)]
  have hf : (Tryd.prog.fieldsOf 23).toList = [⟨ "W", 3, 0, false, "", "", 0⟩, ⟨ "H", 3, 1, false, "", "", 8⟩, ⟨ "Pix", 9, 2, false, "", "", 16⟩] := by kernel_rfl
  rw [hf]
  simp [go_sem, Op.eqFields]
def ImC (G : World → Prop) : Prop := ∀ (v : World) (a b d c l : Int) (pal tr raw : ByteArray) (has : Bool), G v → pal.size ≤ 140737488351232 → tr.size ≤ 140737488351232 → raw.size ≤ 140737488351232 → Calls Tryd.prog 11 #[.agg #[.int .i64 a, .int .i64 b, .int .i64 d, .int .i64 c, .int .i64 l, .string pal, .string tr, .bool has], .string raw] v fun r w' => r = .returned (.tuple #[.agg #[.int .i64 (imageA a b d c l pal tr has raw).1.1, .int .i64 (imageA a b d c l pal tr has raw).1.2.1, .string (imageA a b d c l pal tr has raw).1.2.2], .int .i64 (imageA a b d c l pal tr has raw).2]) ∧ But [] v w'
def RwC (G : World → Prop) : Prop := ∀ (v : World) (a b : Int) (pix : ByteArray), G v → pix.size ≤ 140737488351232 → Calls Tryd.prog 13 #[.agg #[.int .i64 a, .int .i64 b, .string pix]] v fun e w' => e = .returned (.tuple #[.string (rowsA a b pix).1, .int .i64 (rowsA a b pix).2]) ∧ But [] v w'
/-- The chapter's examples come out. -/
def Awk12 (G : World → Prop) : Prop := ∀ v : World, G v → Calls Tryd.prog 10 #[] v fun e w' => e = .returned (.bool true) ∧ But [] v w'
/-- What the variables hold lasts. -/
def Lasts (G : World → Prop) : Prop := ∀ v v' : World, G v → But [] v v' → G v'
attribute [local irreducible] checkA imageA rowsA
end Go.Proofs.YtfiedoejdikcgaaDoor
set_option maxRecDepth 100000
set_option linter.unusedVariables false
namespace Go.Proofs.YtfiedoejdikcgaaDoor
set_option maxRecDepth 100000
open Go Go.RowKit
/-- Five sums. -/
def sumC (f : Nat → Nat) : Array Value := #[.int .i64 (f 0 : Nat), .int .i64 (f 1 : Nat), .int .i64 (f 2 : Nat), .int .i64 (f 3 : Nat), .int .i64 (f 4 : Nat)]
theorem sumC_at (f : Nat → Nat) {k : Nat} (hk : k < 5) : (sumC f)[k]? = some (.int .i64 (f k : Nat)) := by
  match k, hk with
  | 0, _ => rfl
  | 1, _ => rfl
  | 2, _ => rfl
  | 3, _ => rfl
  | 4, _ => rfl
theorem sumC_set (f : Nat → Nat) {k : Nat} (hk : k < 5) (x : Nat) : (sumC f).setIfInBounds k (.int .i64 (x : Nat)) = sumC fun j => if j = k then x else f j := by
  match k, hk with
  | 0, _ => rfl
  | 1, _ => rfl
  | 2, _ => rfl
  | 3, _ => rfl
  | 4, _ => rfl
theorem sumC_eq {f h : Nat → Nat} (e : ∀ j, j < 5 → f j = h j) : sumC f = sumC h := by
  unfold sumC
  rw [e 0 (by omega), e 1 (by omega), e 2 (by omega), e 3 (by omega), e 4 (by omega)]
theorem sum_index (f : Nat → Nat) {k : Nat} (hk : k < 5) (w : World) : (Instr.index 89 (.agg (sumC f)) (.int .i64 (k : Int))).run Tryd.prog w = .ok (.int .i64 (f k : Nat)) w := by
  match k, hk with
  | 0, _ => rfl
  | 1, _ => rfl
  | 2, _ => rfl
  | 3, _ => rfl
  | 4, _ => rfl
/-- The row and the sums. -/
def PickS (w v : World) (g b0 : Nat) (l : List UInt8) (f : Nat → Nat) : Prop := RowF v g l ∧ Is v b0 89 (sumC f) ∧ g ≠ b0 ∧ w.heap.size ≤ b0 ∧ But [] w v
section
variable {w v v' : World} {g b0 : Nat} {l : List UInt8} {f h : Nat → Nat}
theorem PickS.but (s : PickS w v g b0 l f) (k : But [] v v') : PickS w v' g b0 l f := ⟨s.1.but k, s.2.1.but k (by simp), s.2.2.1, s.2.2.2.1, s.2.2.2.2.trans k⟩
theorem PickS.eq (s : PickS w v g b0 l f) (e : ∀ j, j < 5 → f j = h j) : PickS w v g b0 l h := ⟨s.1, by rw [← sumC_eq e]; exact s.2.1, s.2.2⟩
theorem PickS.put (s : PickS w v g b0 l f) {k : Nat} (hk : k < 5) (x : Nat) : PickS w (v.setCell ⟨b0, k, none⟩ (.int .i64 (x : Nat))) g b0 l fun j => if j = k then x else f j :=
  ⟨s.1.far (p := ⟨b0, k, none⟩) s.2.2.1 _, by rw [← sumC_set f hk]; exact s.2.1.put k _, s.2.2.1, s.2.2.2.1, s.2.2.2.2.setCell (p := ⟨b0, k, none⟩) (.inr s.2.2.2.1) _⟩
theorem PickS.sum (s : PickS w v g b0 l f) {k : Nat} (hk : k < 5) : v.cell? ⟨b0, k, none⟩ = some (.int .i64 (f k : Nat)) := (s.2.1.cell k).trans (sumC_at f hk)
end
theorem bstF_cost (c : Nat → Nat) (k : Nat) : (bstF c (k + 1)).2 = c (bstF c (k + 1)).1 := (pickTo_is c k).2.1
theorem bstF_one (c : Nat → Nat) (k : Nat) : (bstF c (k + 1)).1 = if c k < c (bstF c k).1 then k else (bstF c k).1 := by
  rw [bstF_next]
  cases k with
  | zero => rw [if_pos (.inl rfl)]; show 0 = if c 0 < c 0 then 0 else 0; split <;> rfl
  | succ k =>
    rw [bstF_cost]
    by_cases h : c (k + 1) < c (bstF c (k + 1)).1
    · rw [if_pos (.inr h), if_pos h]
    · rw [if_neg (by omega), if_neg h]
set_option maxHeartbeats 1000000 in
theorem ppick_any (w : World) (bpp : Int) (s t : ByteArray) (hs : s.size ≤ 140737488351232) (ht : t.size ≤ 140737488351232) :
    Calls Tryd.prog 31 #[.int .i64 bpp, .string s, .string t] w fun e w' => e = .returned (.tuple #[.int .i64 (pickA bpp s t : Nat), .int .i64 (wrongP bpp s t)]) ∧ But [] w w' := by
  have hF := fun v => pfits_f v bpp s t (by omega) (by omega)
  by_cases h0 : wrongP bpp s t ≠ 0
  · have h1 : wrongP bpp s t = 1 := by rcases wrongP_cases bpp s t with h | h; exact absurd h h0; exact h
    rw [pickA_bad h0, h1]
    rw [decide_eq_false h0] at hF
    have HF := Lib.hid hF
    clear hF h0 h1
    go_enter Tryd.func31, Tryd.ntmps31
    go_wp2_with fail
    refine (HF.out _).mono ?_
    rintro e w1 ⟨rfl, rfl⟩
    go_wp2
    go_ret2
    exact ⟨rfl, But.refl [] _⟩
  have h0 : wrongP bpp s t = 0 := by simpa using h0
  obtain ⟨hb1, hb8, hts⟩ := wrongP_zero h0
  obtain ⟨n, rfl⟩ : ∃ n : Nat, bpp = (n : Int) := ⟨bpp.toNat, by omega⟩
  have hn1 : 1 ≤ n := by omega
  have hn8 : n ≤ 8 := by omega
  rw [pickA_ok h0, h0]
  rw [decide_eq_true h0] at hF
  have HF := Lib.hid hF
  have HTS := Lib.hid hts
  obtain ⟨X, hX⟩ : ∃ X : Nat → List UInt8, X = fun k => doF (k : Nat) n s.data.toList t.data.toList := ⟨_, rfl⟩
  have hll : s.data.toList.length = s.size := Array.length_toList
  have hXl : ∀ k, (X k).length = s.size := fun k => by rw [hX]; dsimp only; rw [doF_length, hll]
  obtain ⟨c, hc⟩ : ∃ c : Nat → Nat → Nat, c = fun i k => costF ((X k).take i) := ⟨_, rfl⟩
  have hR : pickF n s.data.toList t.data.toList = (bstF (c s.size) 5).1 := by
    have e : c s.size = fun k => costF (X k) := by
      rw [hc]
      funext k
      dsimp only
      rw [List.take_of_length_le (by rw [hXl]; exact Nat.le_refl _)]
    unfold pickF
    rw [e, hX]
    rfl
  have hcl : ∀ i k, c i k ≤ 18014398508957696 := fun i k => by
    rw [hc]
    dsimp only
    have h := costF_take_le (X k) i (B := 140737488351232) (by rw [hXl]; exact hs)
    omega
  have hc0 : ∀ k, c 0 k = 0 := fun k => by rw [hc]; dsimp only; rw [List.take_zero]; rfl
  have hcn : ∀ i k, i < s.size → c (i + 1) k = c i k + farB ((X k).getD i 0) := fun i k hi => by
    rw [hc]; dsimp only; rw [costF_take _ (by rw [hXl]; exact hi)]
  have hXa : ∀ i (k : Nat), i < s.size → (X k).getD i 0 = s.data.toList.getD i 0 - foreF (k : Int) n s.data.toList t.data.toList i := fun i k hi => by
    rw [hX]; dsimp only; rw [doF_at _ _ _ _ (by rw [hll]; exact hi)]
  have HR := Lib.hid hR
  have HCL := Lib.hid hcl
  have HC0 := Lib.hid hc0
  have HCN := Lib.hid hcn
  have HXA := Lib.hid hXa
  have HLL := Lib.hid hll
  clear hF h0 hts hb1 hb8 hX hXl hc hR hcl hc0 hcn hXa hll
  have kc := run_rowOf w s
  have hro := rowOf_row w s
  have hrb := rowOf_but w s
  have hcap := grownCap_le' w s.size 5
  obtain ⟨c1, hc1⟩ : ∃ c, c = grownCap w s.size 0 5 := ⟨_, rfl⟩
  rw [← hc1] at kc hcap
  obtain ⟨w5, hw5⟩ : ∃ x, x = rowOf w s := ⟨_, rfl⟩
  rw [← hw5] at kc hro hrb
  clear hc1 hw5
  obtain ⟨g, hg⟩ : ∃ g, g = w.heap.size := ⟨_, rfl⟩
  rw [← hg] at kc hro
  have hI5 := Is.fresh w5 89 #[.int .i64 0, .int .i64 0, .int .i64 0, .int .i64 0, .int .i64 0]
  have hA5 := (But.refl [] w5).alloc (.cells #[.int .i64 0, .int .i64 0, .int .i64 0, .int .i64 0, .int .i64 0] 89)
  have HS0 : Hid (PickS w (w5.alloc (.cells #[.int .i64 0, .int .i64 0, .int .i64 0, .int .i64 0, .int .i64 0] 89)) g w5.heap.size s.data.toList (c 0)) := Lib.hid (by
    refine ⟨hro.but hA5, ?_, by have := hro.lt; omega, hrb.size, hrb.trans hA5⟩
    have e : sumC (c 0) = #[.int .i64 0, .int .i64 0, .int .i64 0, .int .i64 0, .int .i64 0] := by
      unfold sumC
      rw [HC0.out, HC0.out, HC0.out, HC0.out, HC0.out]
      rfl
    rw [e]
    exact hI5)
  clear hro hrb hg hI5 hA5
  go_enter Tryd.func31, Tryd.ntmps31
  go_wp2_with fail
  refine (HF.out _).mono ?_
  rintro e wz ⟨rfl, rfl⟩
  go_wp2_with fail
  obtain ⟨b0, hb0⟩ : ∃ b, b = w5.heap.size := ⟨_, rfl⟩
  rw [← hb0] at HS0 ⊢
  obtain ⟨w6, hw6⟩ : ∃ x, x = w5.alloc (.cells #[.int .i64 0, .int .i64 0, .int .i64 0, .int .i64 0, .int .i64 0] 89) := ⟨_, rfl⟩
  rw [← hw6] at HS0 ⊢
  clear hb0 hw6 kc
  go_loopw [26] (fun kv wr => ∃ i : Nat, i ≤ s.size ∧ kv = .int .i64 i ∧ Hid (PickS w wr g b0 s.data.toList (c i))) (fun kv _ => s.size - (intOf kv).toNat)
  case atStart => exact ⟨0, Nat.zero_le _, rfl, HS0⟩
  case round =>
    clear HS0
    obtain ⟨k, hk, rfl, HS⟩ := hrel
    by_cases hlt : k < s.size
    · obtain ⟨qa, hqa⟩ : ∃ q, q = behindF s.data.toList n k := ⟨_, rfl⟩
      obtain ⟨qb, hqb⟩ : ∃ q, q = (t.data.toList.getD k 0).toNat := ⟨_, rfl⟩
      obtain ⟨qc, hqc⟩ : ∃ q, q = behindF t.data.toList n k := ⟨_, rfl⟩
      have la : qa < 256 := by rw [hqa]; exact behindF_lt _ _ _
      have lb : qb < 256 := by rw [hqb]; exact UInt8.toNat_lt _
      have lc : qc < 256 := by rw [hqc]; exact behindF_lt _ _ _
      obtain ⟨b, hb⟩ : ∃ b, b = (s.data.toList.getD k 0).toNat := ⟨_, rfl⟩
      have hcb : wr.cell? ⟨g, k, none⟩ = some (.int .u8 (b : Nat)) := by rw [hb]; exact HS.out.1.cell (by rw [HLL.out]; exact hlt)
      have hb256 : b < 256 := by rw [hb]; exact UInt8.toNat_lt _
      have HP : Hid (Calls Tryd.prog 54 #[.int .i64 n, .int .i64 k, .slice (some ⟨g, 0, none⟩) s.size c1, .string t] wr fun e w' => e = .returned (preV qa qb qc) ∧ But [] wr w') := Lib.hid (by
        rw [hqa, hqb, hqc]
        exact ppre_any wr hn1 hn8 hlt hs hcap HS.out.1.lt (fun i hi => HS.out.1.cell (by rw [HLL.out]; omega)) HTS.out)
      have HIX : Hid (∀ (m : Nat) v, m ≤ 4 → (Instr.index 90 (preV qa qb qc) (.int .i64 (m : Int))).run Tryd.prog v = .ok (.int .u8 (predF (m : Int) qa qb qc : Nat)) v) := Lib.hid fun m v hm => pre_index hm la lb v
      obtain ⟨V, hV⟩ : ∃ V, V = preV qa qb qc := ⟨_, rfl⟩
      have HFO : Hid (∀ m : Nat, (foreF (m : Int) n s.data.toList t.data.toList k).toNat = predF (m : Int) qa qb qc) := Lib.hid (fun m => by
        have hp := predF_lt (m : Int) la lb lc
        unfold foreF
        rw [← hqa, ← hqb, ← hqc, UInt8.toNat_ofNat']
        omega)
      rw [← hV] at HIX HP
      have HBB := Lib.hid hb
      clear hqa hqb hqc hV hb
      go_wp2_with fail
      refine HP.out.mono ?_
      rintro e w7 ⟨rfl, hB7⟩
      have HS7 := Lib.hid (HS.out.but hB7)
      clear hB7 HP hcb HS
      go_wp2_with fail
      go_loopw [36] (fun kv wx => ∃ m : Nat, m ≤ 5 ∧ kv = .int .i64 m ∧ Hid (PickS w wx g b0 s.data.toList (fun j => if j < m then c (k + 1) j else c k j))) (fun kv _ => 5 - (intOf kv).toNat)
      case atStart => exact ⟨0, Nat.zero_le _, rfl, Lib.hid (HS7.out.eq fun j _ => by rw [if_neg (by omega)])⟩
      case round =>
        clear HS7
        obtain ⟨m, hm, rfl, HS8⟩ := hrel
        by_cases hm5 : m < 5
        · have hix := fun v => HIX.out m v (by omega)
          obtain ⟨p, hp⟩ : ∃ p, p = predF (m : Int) qa qb qc := ⟨_, rfl⟩
          have hp256 : p < 256 := by rw [hp]; exact predF_lt _ la lb lc
          rw [← hp] at hix
          obtain ⟨y, hy⟩ : ∃ y, y = (X m).getD k 0 := ⟨_, rfl⟩
          obtain ⟨z, hz⟩ : ∃ z : Nat, z = y.toNat := ⟨_, rfl⟩
          have hz256 : z < 256 := by rw [hz]; exact y.toNat_lt
          have ew : IntKind.u8.wrap ((b : Int) - (p : Int)) = (z : Int) := by
            rw [hz, hy, HXA.out k m hlt, UInt8.toNat_sub, HFO.out, ← HBB.out, ← hp, IntKind.wrap_u8]
            omega
          obtain ⟨q, hq⟩ : ∃ q, q = farB y := ⟨_, rfl⟩
          have HSZ : Hid (∀ v, Calls Tryd.prog 55 #[.int .u8 (z : Int)] v fun e w' => e = .returned (.int .i64 (q : Nat)) ∧ v = w') := Lib.hid fun v => by
            have h := psize_any v z hz256
            rw [hz, UInt8.ofNat_toNat, ← hq] at h
            rw [hz]
            exact h
          obtain ⟨a, ha⟩ : ∃ a, a = c k m := ⟨_, rfl⟩
          have ha2 : a ≤ 18014398508957696 := by rw [ha]; exact HCL.out k m
          have hq2 : q ≤ 128 := by rw [hq]; exact farB_le y
          have haq : c (k + 1) m = a + q := by rw [HCN.out k m hlt, ← hy, ← hq, ← ha]
          have hcell : wr.drew.cell? ⟨b0, m, none⟩ = some (.int .i64 (a : Nat)) := by
            have h := (HS8.out.but ((But.refl [] _).drew)).sum hm5
            rw [if_neg (by omega), ← ha] at h
            exact h
          have hfree : wr.drew.frozen? ⟨b0, m, none⟩ = false := (HS8.out.but ((But.refl [] _).drew)).2.1.free m
          have HS9 : Hid (PickS w (wr.drew.setCell ⟨b0, m, none⟩ (.int .i64 ((a : Int) + (q : Int)))) g b0 s.data.toList (fun j => if j < m + 1 then c (k + 1) j else c k j)) := Lib.hid (by
            have h := (HS8.out.but ((But.refl [] _).drew)).put hm5 (a + q)
            rw [Int.natCast_add] at h
            refine h.eq fun j _ => ?_
            by_cases hj : j = m
            · rw [if_pos hj, hj, if_pos (by omega), haq]
            · rw [if_neg hj]
              by_cases hjm : j < m
              · rw [if_pos hjm, if_pos (by omega)]
              · rw [if_neg hjm, if_neg (by omega)])
          have m0 : (0 : Int) ≤ (m : Int) := by omega
          have m1 : (m : Int) < 5 := by omega
          clear hp hy hz hq ha haq HS8
          go_upto_region 11 with (fail)
          go_region_with (refine (HSZ.out _).mono ?_; rintro e w6 ⟨rfl, rfl⟩)
          all_goals go_wp2
          all_goals exact ⟨⟨m + 1, by omega, by go_num, HS9⟩, by simp [intOf] <;> omega⟩
        · obtain rfl : m = 5 := by omega
          have HS9 := Lib.hid (HS8.out.eq (h := c (k + 1)) fun j hj => if_pos hj)
          go_wp2
          go_roundw
          case rel => exact ⟨k + 1, by omega, by go_num, HS9⟩
          case measure => simp [intOf] <;> omega
    · obtain rfl : k = s.size := by omega
      obtain ⟨d, hd⟩ : ∃ d, d = c s.size := ⟨_, rfl⟩
      rw [← hd] at HS HR
      have hdl : ∀ j, d j ≤ 18014398508957696 := fun j => by rw [hd]; exact HCL.out _ _
      have HDL := Lib.hid hdl
      have e0 := HS.out.sum (k := 0) (by omega)
      have e1 := HS.out.sum (k := 1) (by omega)
      have e2 := HS.out.sum (k := 2) (by omega)
      have e3 := HS.out.sum (k := 3) (by omega)
      have e4 := HS.out.sum (k := 4) (by omega)
      have HIX : Hid (∀ (m : Nat) v, m < 5 → (Instr.index 89 (.agg #[.int .i64 (d 0 : Nat), .int .i64 (d 1 : Nat), .int .i64 (d 2 : Nat), .int .i64 (d 3 : Nat), .int .i64 (d 4 : Nat)]) (.int .i64 (m : Int))).run Tryd.prog v = .ok (.int .i64 (d m : Nat)) v) := Lib.hid fun m v hm => sum_index d hm v
      clear hd hdl
      go_wp2_with fail
      go_loopw [14, 52] (fun bv kv wx => ∃ m b : Nat, m ≤ 5 ∧ kv = .int .i64 m ∧ bv = .int .i64 b ∧ Hid (b = (bstF d m).1) ∧ Hid (PickS w wx g b0 s.data.toList d)) (fun _ kv _ => 5 - (intOf kv).toNat)
      case atStart => exact ⟨0, 0, Nat.zero_le _, rfl, rfl, Lib.hid rfl, HS⟩
      case round =>
        clear e0 e1 e2 e3 e4 HS
        obtain ⟨m, b, hm, rfl, rfl, HB, HS⟩ := hrel
        by_cases hm5 : m < 5
        · have hix := fun v => HIX.out m v hm5
          have hbm : b ≤ m := by rw [HB.out]; exact (bstF_le d HDL.out m).2
          have hcell := HS.out.sum (k := b) (by omega)
          have HON : Hid ((bstF d (m + 1)).1 = if d m < d b then m else b) := Lib.hid (by rw [bstF_one, ← HB.out])
          obtain ⟨x, hx⟩ : ∃ x, x = d m := ⟨_, rfl⟩
          obtain ⟨u, hu⟩ : ∃ u, u = d b := ⟨_, rfl⟩
          rw [← hx] at hix HON
          rw [← hu] at hcell HON
          have i0 : (0 : Int) ≤ (b : Int) := by omega
          have i1 : (b : Int) < 5 := by omega
          have m0 : (0 : Int) ≤ (m : Int) := by omega
          have m1 : (m : Int) < 5 := by omega
          clear hx hu
          by_cases hxu : x < u
          · have HN : Hid (m = (bstF d (m + 1)).1) := Lib.hid (by rw [HON.out, if_pos hxu])
            go_wp2
            go_roundw
            case rel => exact ⟨m + 1, m, by omega, by go_num, by first | rfl | go_num, HN, HS⟩
            case measure => simp [intOf] <;> omega
          · have HN : Hid (b = (bstF d (m + 1)).1) := Lib.hid (by rw [HON.out, if_neg hxu])
            go_wp2
            go_roundw
            case rel => exact ⟨m + 1, b, by omega, by go_num, by first | rfl | go_num, HN, HS⟩
            case measure => simp [intOf] <;> omega
        · obtain rfl : m = 5 := by omega
          have HE : Hid (pickF n s.data.toList t.data.toList = b) := Lib.hid (by rw [HR.out, ← HB.out])
          go_wp2
          go_ret2
          exact ⟨by rw [HE.out]; rfl, HS.out.2.2.2.2⟩
end Go.Proofs.YtfiedoejdikcgaaDoor
set_option maxRecDepth 100000
set_option linter.unusedVariables false
namespace Go.Proofs.YtfiedoejdikcgaaDoor
set_option maxRecDepth 100000
open Go Go.Shelf Go.RowKit
def lays169_ren : Go.Shelf.Ren := ⟨fun | 169 => 35 | n => n, fun | 70 => 60 | 9 => 9 | 0 => 0 | 72 => 62 | 37 => 45 | 127 => 93 | 3 => 3 | 5 => 5 | n => n, fun | n => n⟩
theorem lays169 : Go.Proofs.Lays.n169 Tryd.prog lays169_ren := {
  mixed := by kernel_rfl
  f169 := Tryd.func35.trans (congrArg some (by kernel_rfl))
  t0 := Tryd.underlying0
  a0 := Tryd.isAgg0
  z0 := Tryd.sizeOf0
  v0 := Tryd.zeroValue0
  t3 := Tryd.underlying3
  a3 := Tryd.isAgg3
  z3 := Tryd.sizeOf3
  v3 := Tryd.zeroValue3
  t9 := Tryd.underlying9
  a9 := Tryd.isAgg9
  z9 := Tryd.sizeOf9
  v9 := Tryd.zeroValue9
  t37 := Tryd.underlying45
  a37 := Tryd.isAgg45
  z37 := Tryd.sizeOf45
  v37 := Tryd.zeroValue45
  t70 := Tryd.underlying60
  a70 := Tryd.isAgg60
  z70 := Tryd.sizeOf60
  v70 := Tryd.zeroValue60
  t72 := Tryd.underlying62
  a72 := Tryd.isAgg62
  z72 := Tryd.sizeOf62
  v72 := Tryd.zeroValue62
  t127 := Tryd.underlying93
  a127 := Tryd.isAgg93
  z127 := Tryd.sizeOf93
  v127 := Tryd.zeroValue93 }
theorem Builder_Extra_169 : Builder.Extra Tryd.prog lays169_ren := {
  sizeBuilder := by kernel_rfl
  liesBuilder := by kernel_rfl
  t5 := Tryd.underlying5
  a5 := Tryd.isAgg5
  z5 := Tryd.sizeOf5
  v5 := Tryd.zeroValue5
  infoByte := by kernel_rfl
  cellsByte := by kernel_rfl
  sizeByte := by kernel_rfl
  neB5 := by decide }
theorem Builder_String_any (B b : Nat) (l : List UInt8) (w : World) (h : Lib.IsBuilder 62 5 B b (Lib.byteCells l) w) (hBw : B ≤ w.heap.size) :
    Calls Tryd.prog 35 #[.pointer (some ⟨b, 0, none⟩)] w fun e w' => e = .returned (.string ⟨l.toArray⟩) ∧ Below B w w' := Any.Builder_String_any lays169 Builder_Extra_169 B b l w h hBw
end Go.Proofs.YtfiedoejdikcgaaDoor
set_option maxRecDepth 100000
namespace Go.Proofs.YtfiedoejdikcgaaDoor
set_option maxRecDepth 100000
open Go Go.RowKit Go.ChangeShapes Go.WideShapes
/-- A slice reads as these chunks. -/
def Cks (w : World) (A : Option Addr) (n : Nat) (L : List Ck) : Prop :=
  L.length = n ∧ (0 < n → ∃ g o, A = some ⟨g, o, none⟩ ∧ g < w.heap.size ∧ ∀ (i : Nat) (h : i < L.length), w.cell? ⟨g, o + i * 2, none⟩ = some (.string (strL L[i].1)) ∧ w.cell? ⟨g, o + i * 2 + 1, none⟩ = some (.string (strL L[i].2)))
theorem Cks.but {w w' : World} {A : Option Addr} {n : Nat} {L : List Ck} (h : Cks w A n L) (hw : But [] w w') : Cks w' A n L :=
  ⟨h.1, fun hn => by
    obtain ⟨g, o, e, hg, hc⟩ := h.2 hn
    exact ⟨g, o, e, Nat.lt_of_lt_of_le hg hw.size, fun i hi => ⟨hw.cell (hc i hi).1 (by simp), hw.cell (hc i hi).2 (by simp)⟩⟩⟩
end Go.Proofs.YtfiedoejdikcgaaDoor
set_option maxRecDepth 100000
set_option linter.unusedVariables false
namespace Go.Proofs.YtfiedoejdikcgaaDoor
set_option maxRecDepth 100000
open Go Go.RowKit
theorem info_byteB : (Tryd.prog.info? 5).map (fun i => (i.zero, i.size, i.bytes)) = some (some (.int .u8 0), 1, 1) := by kernel_rfl
theorem size_bld : (Tryd.prog.info? 62).map (·.size) = some 2 := by kernel_rfl
theorem lies_bld : liesAt Tryd.prog Tryd.prog.depth 62 (2 / Tryd.prog.cellsOf 62) 0 62 1 = true := by kernel_rfl
set_option maxHeartbeats 1000000 in
theorem bld_used (b : Nat) (w : World) (h0 : w.cell? ⟨b, 0, none⟩ = some (.pointer (some ⟨b, 0, none⟩))) :
    Calls Tryd.prog 57 #[.pointer (some ⟨b, 0, none⟩)] w fun e w' => e = .returned (.tuple #[]) ∧ w' = w := by
  obtain ⟨j, hj, _⟩ := Option.map_eq_some_iff.1 size_bld
  go_enter Tryd.func57, Tryd.ntmps57
  go_wp2
  rw [Lib.run_neq_ptr_same w _ Tryd.underlying60 hj]
  go_wp2
  go_end0
  exact ⟨rfl, rfl⟩
set_option maxHeartbeats 1000000 in
theorem bld_fresh (b : Nat) (w : World) (h0 : w.cell? ⟨b, 0, none⟩ = some (.pointer none)) (hsh : w.shape? b = some (62, 2)) (hfz : w.frozen? ⟨b, 0, none⟩ = false) :
    Calls Tryd.prog 57 #[.pointer (some ⟨b, 0, none⟩)] w fun e w' => e = .returned (.tuple #[]) ∧ w' = w.setCell ⟨b, 0, none⟩ (.pointer (some ⟨b, 0, none⟩)) := by
  obtain ⟨j, hj, hjs⟩ := Option.map_eq_some_iff.1 size_bld
  go_enter Tryd.func57, Tryd.ntmps57
  go_wp2
  rw [Lib.run_to_unsafe w ⟨b, 0, none⟩ Tryd.underlying60 Tryd.underlying101 hj (by rw [hjs]; decide) hsh (Nat.zero_lt_succ 1)]
  simp only [Result.andThen]
  rw [Oper.upon_value]
  go_wp2
  rw [run_callFunc_extern Tryd.func68 (by kernel_rfl) (by kernel_rfl) (by kernel_rfl) (e := Extern.AbiNoEscape.same) (by kernel_rfl)]
  rw [Lib.run_noEscape]
  simp only [Result.andThen]
  rw [Oper.upon_value]
  go_wp2
  rw [Lib.run_from_unsafe w ⟨b, 0, none⟩ Tryd.underlying101 Tryd.underlying60 hj hsh lies_bld]
  simp only [Result.andThen]
  rw [Oper.upon_value]
  go_wp2
  go_end0
  exact ⟨rfl, rfl⟩
theorem bld_check (B b : Nat) (bs : List Value) (w : World) (h : Lib.IsBuilder 62 5 B b bs w) :
    Calls Tryd.prog 57 #[.pointer (some ⟨b, 0, none⟩)] w fun e w' => e = .returned (.tuple #[]) ∧ (Lib.BuilderAt 62 5 B b (.pointer (some ⟨b, 0, none⟩)) bs w' ∧ Below B w w') := by
  rcases h with h | h
  · refine (bld_fresh b w h.cell0 h.shape h.frozen0).mono ?_
    rintro e w' ⟨rfl, rfl⟩
    exact ⟨rfl, h.used _, (Below.refl B w).setCell (p := ⟨b, 0, none⟩) h.1 _⟩
  · refine (bld_used b w h.cell0).mono ?_
    rintro e w' ⟨rfl, rfl⟩
    exact ⟨rfl, h, Below.refl B _⟩
set_option maxHeartbeats 1000000 in
theorem bld_write (B b : Nat) (bs : List Value) (s : ByteArray) (w : World) (h : Lib.IsBuilder 62 5 B b bs w) (hlen : bs.length + s.size ≤ 140737488355328) (hBw : B ≤ w.heap.size) :
    Calls Tryd.prog 34 #[.pointer (some ⟨b, 0, none⟩), .string s] w fun e w' => e = .returned (.tuple #[.int .i64 s.size, .nilIface]) ∧ (Lib.BuilderAt 62 5 B b (.pointer (some ⟨b, 0, none⟩)) (bs ++ Lib.strCells s) w' ∧ Below B w w') := by
  obtain ⟨i0, hi, hz0, hz1, hz2⟩ := info_parts info_byteB
  go_enter Tryd.func34, Tryd.ntmps34
  go_wp2_with (go_at_call 57; refine (bld_check B b bs _ h).mono ?_)
  rintro e w1 ⟨rfl, h1, hb1⟩
  obtain ⟨hB, v, hbk, hown, hne⟩ := h1
  have c0 : w1.cell? ⟨b, 0, none⟩ = some (.pointer (some ⟨b, 0, none⟩)) := by rw [Lib.cell_of_heap hbk]; rfl
  have c1 : w1.cell? ⟨b, 1, none⟩ = some v := by rw [Lib.cell_of_heap hbk]; rfl
  go_wp2_with (at_builtin; refine Lib.wpList_append_own_string _ rfl _ _ 45 9 rfl B 5 i0 Tryd.underlying45 Tryd.underlying9 hi hz0 hz1 hz2 _ _ _ rfl hown s rfl ?c3 ?c4 ?c5 ?_)
  case c3 => unfold maxLen; omega
  case c4 => omega
  case c5 => have := hb1.size; omega
  intro v' w2 hown' hgrow _
  have hlt : b < w1.heap.size := by
    rcases Nat.lt_or_ge b w1.heap.size with h' | h'
    · exact h'
    · simp [Array.getElem?_eq_none h'] at hbk
  have hb2 : w2.heap[b]? = some (.cells #[.pointer (some ⟨b, 0, none⟩), v] 62 (0, 0)) := by
    rw [hgrow.block b hlt (fun e => hne e.symm)]
    exact hbk
  have d0 : w2.cell? ⟨b, 0, none⟩ = some (.pointer (some ⟨b, 0, none⟩)) := by rw [Lib.cell_of_heap hb2]; rfl
  have d1 : w2.cell? ⟨b, 1, none⟩ = some v := by rw [Lib.cell_of_heap hb2]; rfl
  have f1 : w2.frozen? ⟨b, 1, none⟩ = false := Lib.frozen_of_heap hb2 1
  obtain ⟨ao, n', cap, rfl⟩ : ∃ ao n' cap, v' = .slice ao n' cap := by
    rcases hown'.2 with ⟨hv, _⟩ | ⟨g, cap, cur, hv, _⟩
    · exact ⟨_, _, _, hv⟩
    · exact ⟨_, _, _, hv⟩
  go_wp2
  go_ret2
  refine ⟨rfl, ?_, ?_⟩
  · exact Lib.BuilderAt.put (T := 62) (e := 5) hB hb2 (bs' := bs ++ Lib.strCells s) (by simpa [Lib.strCells_length] using hown') (by decide)
  · exact (hb1.grown hgrow (by have := hb1.size; omega) (fun k hk => (hown.lt k hk).1)).setCell (p := ⟨b, 1, none⟩) hB _
end Go.Proofs.YtfiedoejdikcgaaDoor
set_option maxRecDepth 100000
set_option linter.unusedVariables false
namespace Go.Proofs.YtfiedoejdikcgaaDoor
set_option maxRecDepth 100000
open Go Go.RowKit
/-- A builder of the call's own, that holds these bytes. -/
def Bld (w : World) (base b : Nat) (l : List UInt8) : Prop := Lib.IsBuilder 62 5 base b (Lib.byteCells l) w
theorem cells_ofB (l : List UInt8) : Lib.strCells (strL l) = Lib.byteCells l := by
  unfold Lib.strCells Lib.byteCells
  rw [show (strL l).data.toList = l from strL_list l]
theorem byteCells_ap (a b : List UInt8) : Lib.byteCells (a ++ b) = Lib.byteCells a ++ Lib.byteCells b := by
  unfold Lib.byteCells; rw [List.map_append]
theorem bldAt_but {w w' : World} {base b : Nat} {p : Value} {bs : List Value} (h : Lib.BuilderAt 62 5 base b p bs w) (hw : But [] w w') : Lib.BuilderAt 62 5 base b p bs w' := by
  have hlt := h.lt
  obtain ⟨hB, v, hb, hown, hne⟩ := h
  refine ⟨hB, v, (hw.block b hlt (by simp)).trans hb, ?_, hne⟩
  refine ⟨hown.1, ?_⟩
  rcases hown.2 with h2 | ⟨g, cap, cur, hv, hg, hh, r⟩
  · exact .inl h2
  · refine .inr ⟨g, cap, cur, hv, hg, ?_, r⟩
    have hlt : g < w.heap.size := (hown.lt g (by rw [hv]; rfl)).2
    rw [hw.block g hlt (by simp)]
    exact hh
theorem Bld.but {w w' : World} {base b : Nat} {l : List UInt8} (h : Bld w base b l) (hw : But [] w w') : Bld w' base b l := by
  rcases h with h | h
  · exact .inl (bldAt_but h hw)
  · exact .inr (bldAt_but h hw)
theorem Bld.lt {w : World} {base b : Nat} {l : List UInt8} (h : Bld w base b l) : base ≤ b ∧ b < w.heap.size := by
  rcases h with h | h
  · exact ⟨h.1, h.lt⟩
  · exact ⟨h.1, h.lt⟩
theorem Bld.fresh (w : World) {base : Nat} (hb : base ≤ w.heap.size) : Bld (w.alloc (.cells #[.pointer none, .slice none 0 0] 62)) base w.heap.size [] :=
  Or.inl ⟨hb, .slice none 0 0, heap_alloc_new w _, World.ownsRow_nil _ _ _ _, by simp [Value.ownBlock]⟩
theorem bld_put {w0 w : World} {b : Nat} {l : List UInt8} (s : List UInt8) (h : Bld w w0.heap.size b l) (hB : But [] w0 w) (hlen : l.length + s.length ≤ 140737488355328) :
    Calls Tryd.prog 34 #[.pointer (some ⟨b, 0, none⟩), .string (strL s)] w fun e w' => e = .returned (.tuple #[.int .i64 (s.length : Nat), .nilIface]) ∧ Bld w' w0.heap.size b (l ++ s) ∧ But [] w0 w' := by
  refine (bld_write w0.heap.size b (Lib.byteCells l) (strL s) w h (by rw [strL_size, Lib.byteCells_length]; exact hlen) hB.size).mono ?_
  rintro e w1 ⟨rfl, h1, h2⟩
  rw [strL_size]
  refine ⟨rfl, ?_, ?_⟩
  · unfold Bld
    rw [byteCells_ap, ← cells_ofB s]
    exact .inr h1
  · exact ⟨h2.os.trans hB.os, h2.tape.trans hB.tape, h2.output.trans hB.output, Nat.le_trans hB.size h2.size, fun i hi _ => (h2.block i hi).trans (hB.block i hi (by simp))⟩
theorem bld_text {w0 w : World} {b : Nat} {l : List UInt8} (h : Bld w w0.heap.size b l) (hB : But [] w0 w) :
    Calls Tryd.prog 35 #[.pointer (some ⟨b, 0, none⟩)] w fun e w' => e = .returned (.string (strL l)) ∧ But [] w0 w' := by
  refine (Builder_String_any w0.heap.size b l w h hB.size).mono ?_
  rintro e w1 ⟨rfl, h2⟩
  exact ⟨rfl, h2.os.trans hB.os, h2.tape.trans hB.tape, h2.output.trans hB.output, Nat.le_trans hB.size h2.size, fun i hi _ => (h2.block i hi).trans (hB.block i hi (by simp))⟩
end Go.Proofs.YtfiedoejdikcgaaDoor
set_option maxRecDepth 100000
set_option linter.unusedVariables false
namespace Go.Proofs.YtfiedoejdikcgaaDoor
set_option maxRecDepth 100000
open Go Go.RowKit
theorem ownsRow_but {w w' : World} {base size n : Nat} {e : TypeId} {v : Value} {xs : List Value} (hown : w.ownsRow base e size v n xs) (hw : But [] w w') : w'.ownsRow base e size v n xs := by
  refine ⟨hown.1, ?_⟩
  rcases hown.2 with h2 | ⟨g, cap, cur, hv, hg, hh, r⟩
  · exact .inl h2
  · refine .inr ⟨g, cap, cur, hv, hg, ?_, r⟩
    have hlt : g < w.heap.size := (hown.lt g (by rw [hv]; rfl)).2
    rw [hw.block g hlt (by simp)]
    exact hh
set_option maxHeartbeats 1000000 in
theorem bld_byte (B b : Nat) (bs : List Value) {x : Nat} (w : World) (h : Lib.IsBuilder 62 5 B b bs w) (hlen : bs.length + 1 ≤ 140737488355328) (hBw : B ≤ w.heap.size) :
    Calls Tryd.prog 33 #[.pointer (some ⟨b, 0, none⟩), .int .u8 (x : Nat)] w fun e w' => e = .returned .nilIface ∧ (Lib.BuilderAt 62 5 B b (.pointer (some ⟨b, 0, none⟩)) (bs ++ [.int .u8 (x : Nat)]) w' ∧ Below B w w') := by
  obtain ⟨i0, hi, hz0, hz1, hz2⟩ := info_parts info_byteB
  go_enter Tryd.func33, Tryd.ntmps33
  go_wp2_with (go_at_call 57; refine (bld_check B b bs _ h).mono ?_)
  rintro e w1 ⟨rfl, h1, hb1⟩
  obtain ⟨hB, v, hbk, hown, hne⟩ := h1
  have c0 : w1.cell? ⟨b, 0, none⟩ = some (.pointer (some ⟨b, 0, none⟩)) := by rw [Lib.cell_of_heap hbk]; rfl
  have c1 : w1.cell? ⟨b, 1, none⟩ = some v := by rw [Lib.cell_of_heap hbk]; rfl
  have hA := (But.refl [] w1).alloc (.cells #[.int .u8 (x : Nat)] 5)
  have hIs := Is.fresh w1 5 #[.int .u8 (x : Nat)]
  have hown1 := ownsRow_but hown hA
  have hblt : b < w1.heap.size := by
    rcases Nat.lt_or_ge b w1.heap.size with h' | h'
    · exact h'
    · simp [Array.getElem?_eq_none h'] at hbk
  have hbk1 := (hA.block b hblt (by simp)).trans hbk
  obtain ⟨g, hg⟩ : ∃ g, g = w1.heap.size := ⟨_, rfl⟩
  have HG := Lib.hid hg
  have hbw : B ≤ w1.heap.size := Nat.le_trans hBw hb1.size
  go_wp2_with (at_builtin; refine wpList_append_own _ rfl _ _ 45 rfl B 5 i0 (.int .u8 0) 1 1 Tryd.underlying45 hi hz0 hz1 hz2 rfl (by omega) v bs.length bs rfl hown1 ⟨w1.heap.size, 0, none⟩ 1 1 [.int .u8 (x : Nat)] rfl rfl ?c1 ?c2 ?c3 ?c4 ?c5 ?_)
  case c1 =>
    intro j u hj
    have h0 := hIs.cell 0
    match j, hj with
    | 0, hj =>
      have : u = .int .u8 (x : Nat) := (Option.some.inj hj).symm
      rw [this]
      exact h0
    | j + 1, hj => simp at hj
  case c2 => simp [Value.oneCell']
  case c3 => unfold maxLen; omega
  case c4 => omega
  case c5 => exact Nat.le_trans hbw hA.size
  intro v' w2 hown' hgrow _
  have hb2 : w2.heap[b]? = some (.cells #[.pointer (some ⟨b, 0, none⟩), v] 62 (0, 0)) := by
    rw [hgrow.block b (Nat.lt_of_lt_of_le hblt hA.size) (fun e => hne e.symm)]
    exact hbk1
  have d0 : w2.cell? ⟨b, 0, none⟩ = some (.pointer (some ⟨b, 0, none⟩)) := by rw [Lib.cell_of_heap hb2]; rfl
  have d1 : w2.cell? ⟨b, 1, none⟩ = some v := by rw [Lib.cell_of_heap hb2]; rfl
  have f1 : w2.frozen? ⟨b, 1, none⟩ = false := Lib.frozen_of_heap hb2 1
  obtain ⟨ao, n', cap, rfl⟩ : ∃ ao n' cap, v' = .slice ao n' cap := by
    rcases hown'.2 with ⟨hv, _⟩ | ⟨g, cap, cur, hv, _⟩
    · exact ⟨_, _, _, hv⟩
    · exact ⟨_, _, _, hv⟩
  go_wp2
  go_ret
  refine ⟨rfl, ?_, ?_⟩
  · exact Lib.BuilderAt.put (T := 62) (e := 5) hB hb2 (bs' := bs ++ [.int .u8 (x : Nat)]) (by simpa using hown') (by decide)
  · have hbA : Below B w (w1.alloc (.cells #[.int .u8 (x : Nat)] 5)) := hb1.alloc hbw _
    exact (hbA.grown hgrow (Nat.le_trans hbw hA.size) (fun k hk => (hown.lt k hk).1)).setCell (p := ⟨b, 1, none⟩) hB _
theorem bld_putB {w0 w : World} {b : Nat} {l : List UInt8} (y : UInt8) (h : Bld w w0.heap.size b l) (hB : But [] w0 w) (hlen : l.length + 1 ≤ 140737488355328) :
    Calls Tryd.prog 33 #[.pointer (some ⟨b, 0, none⟩), .int .u8 (y.toNat : Nat)] w fun e w' => e = .returned .nilIface ∧ Bld w' w0.heap.size b (l ++ [y]) ∧ But [] w0 w' := by
  refine (bld_byte w0.heap.size b (Lib.byteCells l) (x := y.toNat) w h (by rw [Lib.byteCells_length]; exact hlen) hB.size).mono ?_
  rintro e w1 ⟨rfl, h1, h2⟩
  refine ⟨rfl, ?_, ?_⟩
  · unfold Bld
    rw [byteCells_ap]
    exact .inr h1
  · exact ⟨h2.os.trans hB.os, h2.tape.trans hB.tape, h2.output.trans hB.output, Nat.le_trans hB.size h2.size, fun i hi _ => (h2.block i hi).trans (hB.block i hi (by simp))⟩
end Go.Proofs.YtfiedoejdikcgaaDoor
