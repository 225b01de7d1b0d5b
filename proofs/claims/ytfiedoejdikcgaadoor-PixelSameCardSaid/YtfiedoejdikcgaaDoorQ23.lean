/- Several texts in one: PiM, SbB, SbM, SbD, FiA, FiC (what PixelRows, PixelSame reach of them). -/
import Derived.Test.YtfiedoejdikcgaaDoorQ01
import Derived.Test.YtfiedoejdikcgaaDoorQ02
import Derived.Test.YtfiedoejdikcgaaDoorQ03
import Derived.Test.YtfiedoejdikcgaaDoorQ05
import Derived.Test.YtfiedoejdikcgaaDoorQ06
import Derived.Test.YtfiedoejdikcgaaDoorQ07
import Derived.Below
import Derived.BigQuiet
import Derived.BigRegion
import Derived.Deep.AppendLies
import Derived.Deep.CutBlock
import Derived.Deep.CutRange
import Derived.Deep.DeepCutAuto
import Derived.Deep.Draws
import Derived.Deep.QuietTactic
import Derived.Deep.RegionLaw
import Derived.Deep.RegionWith
import Derived.Handy
import Derived.Laws.BitsAllLaws
import Derived.Laws.BitsLemmas
import Derived.Laws.BytesArg
import Derived.Laws.IdiomStrings
import Derived.Laws.MakeOwn
import Derived.Laws.OwnMore
import Derived.Laws.Rows
import Derived.Lib.Hide
import Derived.Maps.AppendAt
import Derived.OrdersHeld
import Derived.Outline
import Derived.OwnWalk
import Derived.RegionTactic
import Derived.Test.YtfiedoejdikcgaaDoorChecked
import Derived.WalkKit
set_option maxRecDepth 100000
set_option linter.unusedVariables false
set_option linter.unusedVariables false
namespace Go.Proofs.YtfiedoejdikcgaaDoor
set_option maxRecDepth 100000
open Go
theorem packI_length {S : ShP} {v : List Nat} {kind : Nat → Int} : ∀ (js : List RowJ) (k : Nat) (above : List UInt8), (packI S v kind js k above).length = sizeJ S js := by
  intro js
  induction js with
  | nil => intro k above; rfl
  | cons j js ih =>
    intro k above
    unfold packI sizeJ
    rw [List.length_cons, List.length_append, doF_length, packT_length, rowV_length, ih, List.map_cons, List.sum_cons]
    have : (samplesN S.c * j.n * S.d + 7) / 8 = rowLen S j.n := by unfold rowLen; rw [Nat.mul_comm, ← Nat.mul_assoc]
    rw [this]
    unfold sizeJ
    omega

end Go.Proofs.YtfiedoejdikcgaaDoor
set_option maxRecDepth 100000
set_option linter.unusedVariables false
namespace Go.Proofs.YtfiedoejdikcgaaDoor
set_option maxRecDepth 100000
open Go Go.RowKit
theorem nCells_length (L : List Nat) : (nCells L).length = L.length := by simp [nCells]
end Go.Proofs.YtfiedoejdikcgaaDoor
set_option linter.unusedVariables false
namespace Go.Proofs.YtfiedoejdikcgaaDoor
set_option maxRecDepth 100000
open Go
theorem valN_zero (n : Nat) : valN (fun _ => 0) n = 0 := by
  induction n with
  | zero => rfl
  | succ n ih => show 2 * valN (fun _ => 0) n + 0 = 0; rw [ih]
/-- A byte of which the first bits are laid. -/
def partB (D : Nat) (l : List Nat) (k j : Nat) : Nat := valN (fun b => if 8 * j + b < k then packBit D l (8 * j + b) else 0) 8
/-- A row of which the first bits are laid. -/
def partT (D : Nat) (l : List Nat) (k : Nat) : List UInt8 := (List.range ((l.length * D + 7) / 8)).map fun j => UInt8.ofNat (partB D l k j)
theorem partT_length (D : Nat) (l : List Nat) (k : Nat) : (partT D l k).length = (l.length * D + 7) / 8 := by unfold partT; rw [List.length_map, List.length_range]
theorem partT_at (D : Nat) (l : List Nat) (k : Nat) {j : Nat} (hj : j < (l.length * D + 7) / 8) : (partT D l k).getD j 0 = UInt8.ofNat (partB D l k j) := by
  unfold partT
  rw [List.getD_eq_getElem?_getD, List.getElem?_map, List.getElem?_range hj]
  rfl
theorem partB_lt (D : Nat) (l : List Nat) (k j : Nat) : partB D l k j < 256 := by
  unfold partB
  refine valN_lt (n := 8) fun b _ => ?_
  split
  · exact packBit_lt _ _ _
  · decide
theorem partT_zero (D : Nat) (l : List Nat) : partT D l 0 = List.replicate ((l.length * D + 7) / 8) 0 := by
  refine ext_getD (by rw [partT_length, List.length_replicate]) fun j hj => ?_
  rw [partT_length] at hj
  rw [partT_at _ _ _ hj, getD_zeros]
  have e : partB D l 0 j = 0 := by
    unfold partB
    rw [valN_congr (g := fun _ => 0) (fun b _ => if_neg (by omega)), valN_zero]
  rw [e]
  rfl
theorem partT_all (D : Nat) (l : List Nat) : partT D l (l.length * D) = packT D l := by
  have e : ∀ j, partB D l (l.length * D) j = valN (fun b => packBit D l (8 * j + b)) 8 := fun j => by
    unfold partB
    refine valN_congr fun b _ => ?_
    by_cases h : 8 * j + b < l.length * D
    · rw [if_pos h]
    · rw [if_neg h]; unfold packBit; rw [if_neg h]
  unfold partT packT
  simp only [e]
theorem partB_other {D : Nat} {l : List Nat} {k j : Nat} (h : j ≠ k / 8) : partB D l (k + 1) j = partB D l k j := by
  unfold partB
  refine valN_congr fun b hb => ?_
  by_cases h1 : 8 * j + b < k
  · rw [if_pos h1, if_pos (by omega)]
  · rw [if_neg h1, if_neg (by omega)]
/-- The bits behind the first ones are noughts. -/
theorem partB_form (D : Nat) (l : List Nat) (k : Nat) : partB D l k (k / 8) = valN (fun b => packBit D l (8 * (k / 8) + b)) (k % 8) * 2 ^ (8 - k % 8) := by
  have hm : k % 8 < 8 := Nat.mod_lt _ (by decide)
  have h8 := valN_tail (f := fun b => if 8 * (k / 8) + b < k then packBit D l (8 * (k / 8) + b) else 0) (m := k % 8) (8 - k % 8) (fun b h1 h2 => if_neg (by omega))
  rw [show k % 8 + (8 - k % 8) = 8 by omega] at h8
  unfold partB
  rw [h8]
  congr 1
  refine valN_congr fun b hb => if_pos (by omega)
theorem partB_next (D : Nat) (l : List Nat) (k : Nat) : partB D l (k + 1) (k / 8) = partB D l k (k / 8) + packBit D l k * 2 ^ (7 - k % 8) := by
  have hm : k % 8 < 8 := Nat.mod_lt _ (by decide)
  rw [partB_form]
  have h8 := valN_tail (f := fun b => if 8 * (k / 8) + b < k + 1 then packBit D l (8 * (k / 8) + b) else 0) (m := k % 8 + 1) (7 - k % 8) (fun b h1 h2 => if_neg (by omega))
  rw [show k % 8 + 1 + (7 - k % 8) = 8 by omega] at h8
  unfold partB
  rw [h8]
  have e1 : valN (fun b => if 8 * (k / 8) + b < k + 1 then packBit D l (8 * (k / 8) + b) else 0) (k % 8 + 1) = 2 * valN (fun b => packBit D l (8 * (k / 8) + b)) (k % 8) + packBit D l k := by
    show 2 * valN _ (k % 8) + (if 8 * (k / 8) + k % 8 < k + 1 then packBit D l (8 * (k / 8) + k % 8) else 0) = _
    rw [valN_congr (g := fun b => packBit D l (8 * (k / 8) + b)) (fun b hb => if_pos (by omega)), Nat.div_add_mod, if_pos (by omega)]
  rw [e1, show 8 - k % 8 = (7 - k % 8) + 1 by omega, Nat.pow_succ, Nat.add_mul]
  congr 1
  rw [Nat.mul_comm 2, Nat.mul_assoc, Nat.mul_comm 2]
/-- The bit laid is an 'or'. -/
theorem partB_or (D : Nat) (l : List Nat) (k : Nat) : partB D l k (k / 8) ||| packBit D l k * 2 ^ (7 - k % 8) = partB D l (k + 1) (k / 8) := by
  have hm : k % 8 < 8 := Nat.mod_lt _ (by decide)
  have hb : packBit D l k * 2 ^ (7 - k % 8) < 2 ^ (8 - k % 8) := by
    have h1 := packBit_lt D l k
    have h2 : 0 < 2 ^ (7 - k % 8) := Nat.pow_pos (by decide)
    rw [show 8 - k % 8 = (7 - k % 8) + 1 by omega, Nat.pow_succ]
    have h3 : packBit D l k * 2 ^ (7 - k % 8) ≤ 1 * 2 ^ (7 - k % 8) := Nat.mul_le_mul_right _ (by omega)
    omega
  rw [partB_next, partB_form, Nat.mul_comm (valN _ _), ← Nat.two_pow_add_eq_or_of_lt hb]
theorem partT_next {D : Nat} {l : List Nat} {k : Nat} (hk : k < l.length * D) : (partT D l k).set (k / 8) (UInt8.ofNat (partB D l (k + 1) (k / 8))) = partT D l (k + 1) := by
  have hj : k / 8 < (l.length * D + 7) / 8 := by omega
  refine ext_getD (by rw [List.length_set, partT_length, partT_length]) fun j h => ?_
  rw [List.length_set, partT_length] at h
  rw [partT_at _ _ _ h]
  by_cases e : j = k / 8
  · subst e
    rw [getD_lt (by rw [List.length_set, partT_length]; exact h), List.getElem_set_self]
  · rw [List.getD_eq_getElem?_getD, List.getElem?_set_ne (by omega), ← List.getD_eq_getElem?_getD, partT_at _ _ _ h, partB_other e]
theorem lowN_bit (x : Int) {e : Nat} (he : e ≤ 15) : x / 2 ^ e % 2 = ((bitN (lowN x) e : Nat) : Int) := by
  unfold bitN lowN
  have h : ∀ e, e ≤ 15 → x / 2 ^ e % 2 = (x % 65536) / 2 ^ e % 2 := by
    intro e he
    match e, he with
    | 0, _ => omega
    | 1, _ => omega
    | 2, _ => omega
    | 3, _ => omega
    | 4, _ => omega
    | 5, _ => omega
    | 6, _ => omega
    | 7, _ => omega
    | 8, _ => omega
    | 9, _ => omega
    | 10, _ => omega
    | 11, _ => omega
    | 12, _ => omega
    | 13, _ => omega
    | 14, _ => omega
    | 15, _ => omega
  rw [h e he]
  obtain ⟨m, hm⟩ : ∃ m : Nat, x % 65536 = (m : Int) := ⟨(x % 65536).toNat, by omega⟩
  rw [hm]
  simp
end Go.Proofs.YtfiedoejdikcgaaDoor
set_option maxRecDepth 100000
set_option linter.unusedVariables false
namespace Go.Proofs.YtfiedoejdikcgaaDoor
set_option maxRecDepth 100000
open Go Go.RowKit
theorem wrapD_in {D : Nat} (h1 : 1 ≤ D) (h2 : D ≤ 16) : IntKind.i64.wrap ((D : Int) - 1) = (D : Int) - 1 := by rw [IntKind.wrap_i64]; omega
set_option maxHeartbeats 2000000 in
theorem epack_any (w : World) {A : Option Addr} {n c : Nat} {l : List Int} {d : Int} (hZ : Zs w A n l) (hF : ZFit l) (hn : n ≤ 17592186043904) :
    Calls Tryd.prog 36 #[.int .i64 d, .slice A n c] w fun e w' => e = .returned (.tuple #[.string (strL (packA d l).1), .int .i64 (packA d l).2]) ∧ But [] w w' := by
  have HD := Lib.hid fun W => edepth_any W d
  cases hd : depB d with
  | false =>
    have HR : Hid (packA d l = ([], 1)) := Lib.hid (by unfold packA; rw [if_pos hd])
    rw [HR.out]
    rw [hd] at HD
    clear hd hZ hF
    go_enter Tryd.func36, Tryd.ntmps36
    go_wp2_with fail
    refine (HD.out _).mono ?_
    rintro e w1 ⟨rfl, rfl⟩
    go_wp2
    go_ret2
    exact ⟨rfl, But.refl [] _⟩
  | true =>
    rw [hd] at HD
    obtain ⟨D, rfl, hdep, hD1, hD16⟩ := depB_nat hd
    obtain ⟨L, hL⟩ : ∃ L, L = l.map lowN := ⟨_, rfl⟩
    have hLl : L.length = n := by rw [hL, List.length_map]; exact hZ.1
    have HR : Hid (packA (D : Int) l = (packT D L, 0)) := Lib.hid (by unfold packA; rw [if_neg (by rw [hd]; decide), hL]; rfl)
    rw [HR.out]
    obtain ⟨t, ht⟩ : ∃ t, t = n * D := ⟨_, rfl⟩
    have e0 : (n : Int) * (D : Int) = (t : Int) := by rw [ht, Int.natCast_mul]
    have ht2 : t ≤ 281474976702464 := by rw [ht]; show _ ≤ 17592186043904 * 16; exact Nat.mul_le_mul hn hD16
    obtain ⟨T, hT⟩ : ∃ T, T = (t + 7) / 8 := ⟨_, rfl⟩
    have g1 : ((t : Int) + 7).tdiv 8 = (T : Int) := by rw [Int.tdiv_eq_ediv_of_nonneg (by omega)]; omega
    have g2 : ((t : Int) + 7) / 8 = (T : Int) := by omega
    have hpt : ∀ k, (partT D L k).length = T := fun k => by rw [partT_length, hLl, ← ht, hT]
    have km := run_noughts w (n := T) (by omega)
    have hno := noughtsF_row w T
    have hnb := noughtsF_but w T
    obtain ⟨w5, hw5⟩ : ∃ x, x = noughtsF w T := ⟨_, rfl⟩
    rw [← hw5] at km hno hnb
    obtain ⟨g, hg⟩ : ∃ g, g = w.heap.size := ⟨_, rfl⟩
    have HO0 : Hid (OneS w w5 g (partT D L 0)) := Lib.hid ⟨by rw [partT_zero, hLl, ← ht, ← hT, hg]; exact hno, by rw [hg]; exact Nat.le_refl _, hnb⟩
    rw [← hg] at km
    have HZ := Lib.hid hZ
    have HF := Lib.hid hF
    have HL := Lib.hid hL
    have HLL := Lib.hid hLl
    have HT := Lib.hid ht
    have HT2 := Lib.hid hT
    have HPT := Lib.hid hpt
    clear hd hdep hZ hF hL hLl ht hT hpt hno hnb hw5 hg
    go_enter Tryd.func36, Tryd.ntmps36
    go_wp2_with fail
    refine (HD.out _).mono ?_
    rintro e wz ⟨rfl, rfl⟩
    go_wp2_with fail
    go_loopw [7] (fun iv wr => ∃ i : Nat, i ≤ n ∧ iv = .int .i64 i ∧ Hid (OneS w wr g (partT D L (i * D)))) (fun iv _ => n - (intOf iv).toNat)
    case atStart => exact ⟨0, Nat.zero_le _, rfl, Lib.hid (by rw [Nat.zero_mul]; exact HO0.out)⟩
    case round =>
      clear HO0 km
      obtain ⟨i, hi, rfl, HO⟩ := hrel
      by_cases hlt : i < n
      · obtain ⟨q, hq⟩ : ∃ q, q = i * D := ⟨_, rfl⟩
        have e1 : (i : Int) * (D : Int) = (q : Int) := by rw [hq, Int.natCast_mul]
        have hqn : (i + 1) * D = q + D := by rw [hq, Nat.add_mul, Nat.one_mul]
        have hqt : q + D ≤ t := by rw [← hqn, HT.out]; exact Nat.mul_le_mul_right D hlt
        rw [← hq] at HO
        have HQ := Lib.hid hq
        have HQN := Lib.hid hqn
        clear hq hqn
        go_wp2_with fail
        go_loopw [8] (fun bv wx => ∃ b : Nat, b ≤ D ∧ bv = .int .i64 b ∧ Hid (OneS w wx g (partT D L (q + b)))) (fun bv _ => D - (intOf bv).toNat)
        case atStart => exact ⟨0, Nat.zero_le _, rfl, HO⟩
        case round =>
          clear HO
          obtain ⟨b, hb, rfl, HO⟩ := hrel
          by_cases hbl : b < D
          · obtain ⟨k, hk⟩ : ∃ k, k = q + b := ⟨_, rfl⟩
            have ek : (q : Int) + (b : Int) = (k : Int) := by omega
            rw [← hk] at HO
            obtain ⟨x, hx⟩ : ∃ x, l[i]? = some x := ⟨_, List.getElem?_eq_getElem (by rw [HZ.out.1]; exact hlt)⟩
            have hxf := HF.out x (List.mem_of_getElem? hx)
            obtain ⟨x1, x2⟩ := hxf
            obtain ⟨kq, hkq⟩ : ∃ x, x = k / 8 := ⟨_, rfl⟩
            obtain ⟨km, hkm⟩ : ∃ x, x = k % 8 := ⟨_, rfl⟩
            obtain ⟨sh, hsh⟩ : ∃ x, x = 7 - km := ⟨_, rfl⟩
            obtain ⟨ex, hex⟩ : ∃ x, x = D - 1 - b := ⟨_, rfl⟩
            obtain ⟨y, hy⟩ : ∃ y, y = x / 2 ^ ex := ⟨_, rfl⟩
            obtain ⟨z, hz⟩ : ∃ z, z = packBit D L k := ⟨_, rfl⟩
            have hz2 : z < 2 := by rw [hz]; exact packBit_lt _ _ _
            have hyz : y % 2 = (z : Int) := by
              have hg : L.getD i 0 = lowN x := by rw [HL.out, List.getD_eq_getElem?_getD, List.getElem?_map, hx]; rfl
              rw [hy, lowN_bit x (by omega), hz, hk, HQ.out, packBit_of (by rw [HLL.out]; exact hlt) hbl, hg, hex]
            obtain ⟨old, hold⟩ : ∃ o, o = partB D L k kq := ⟨_, rfl⟩
            obtain ⟨new, hnew⟩ : ∃ o, o = partB D L (k + 1) kq := ⟨_, rfl⟩
            have ho256 : old < 256 := by rw [hold]; exact partB_lt _ _ _ _
            have hn256 : new < 256 := by rw [hnew]; exact partB_lt _ _ _ _
            obtain ⟨pe, hpe⟩ : ∃ p, p = z * 2 ^ sh := ⟨_, rfl⟩
            have hor : old ||| pe = new := by rw [hold, hpe, hz, hnew, hsh, hkm, hkq]; exact partB_or D L k
            have hpe256 : pe < 256 := by
              have h1 : pe ≤ new := by rw [← hor]; exact Nat.right_le_or
              omega
            have f1 : (k : Int).tdiv 8 = (kq : Int) := by rw [Int.tdiv_eq_ediv_of_nonneg (by omega)]; omega
            have f2 : (k : Int) / 8 = (kq : Int) := by omega
            have f3 : (k : Int).tmod 8 = (km : Int) := by rw [Int.tmod_eq_emod_of_nonneg (by omega)]; omega
            have f4 : (k : Int) % 8 = (km : Int) := by omega
            have f5 : (7 : Int) - (km : Int) = (sh : Int) := by omega
            have f6 : (D : Int) - 1 - (b : Int) = (ex : Int) := by omega
            have f7 : x / 2 ^ ex = y := hy.symm
            have f8 : bits .and .i64 y 1 = (z : Int) := by rw [← hyz]; exact i64_mask y 1 (by decide)
            have f9 : (z : Int) * 2 ^ sh = (pe : Int) := by rw [hpe]; simp
            have f10 : bits .or .u8 (old : Int) (pe : Int) = (new : Int) := by rw [u8_or_nat old pe ho256 hpe256, hor]
            have hkl : kq < T := by have := HT2.out; omega
            have i0 : (0 : Int) ≤ (i : Int) := by omega
            have i1 : (i : Int) < (n : Int) := by omega
            have j0 : (0 : Int) ≤ (kq : Int) := by omega
            have j1 : (kq : Int) < (T : Int) := by omega
            have hsh7 : sh ≤ 7 := by omega
            have hex15 : ex ≤ 15 := by omega
            have HO1 := Lib.hid (HO.out.but ((But.refl [] wr).drew))
            have hpl := HPT.out k
            have hcl : wr.drew.cell? ⟨g, kq, none⟩ = some (.int .u8 (old : Nat)) := by
              rw [HO1.out.1.cell (by rw [hpl]; exact hkl), partT_at _ _ _ (by rw [HLL.out, ← HT.out, ← HT2.out]; exact hkl), ← hold, UInt8.toNat_ofNat', Nat.mod_eq_of_lt ho256]
            have hfr : wr.drew.frozen? ⟨g, kq, none⟩ = false := HO1.out.1.free (by rw [hpl]; exact hkl)
            obtain ⟨ga, o, x', rfl, hga, hx', hca⟩ := (HZ.out.but HO1.out.2.2).at hlt
            have ex' : x' = x := by rw [hx] at hx'; exact (Option.some.inj hx').symm
            subst ex'
            have HO2 : Hid (OneS w (wr.drew.setCell ⟨g, kq, none⟩ (.int .u8 (new : Nat))) g (partT D L (q + (b + 1)))) := Lib.hid (by
              have h := HO1.out.put (i := kq) (UInt8.ofNat new) (by rw [hpl]; exact hkl)
              rw [UInt8.toNat_ofNat', Nat.mod_eq_of_lt hn256, hnew, hkq, partT_next (by rw [HLL.out, ← HT.out]; omega)] at h
              rw [show q + (b + 1) = k + 1 by omega, hnew, hkq]
              exact h)
            clear hk hx hx' hkq hkm hsh hex hy hz hyz hold hnew hpe hor hpl HO HO1
            have v1 := wrapI_in (show kq < 1000000000000000 by omega)
            have v2 := wrapI_in (show km < 1000000000000000 by omega)
            have v3 := wrapI_in (show sh < 1000000000000000 by omega)
            have v4 := wrapI_in (show ex < 1000000000000000 by omega)
            have v5 := wrapD_in hD1 hD16
            have v6 := wrapY_in (z := z) (by omega)
            have v7 := wrapY_in (z := pe) (by omega)
            have v8 := wrapI_in (show z < 1000000000000000 by omega)
            go_upto_region 11 with (fail)
            go_region_with fail
            all_goals go_wp2
            all_goals exact ⟨⟨b + 1, by omega, by go_num, HO2⟩, by simp [intOf] <;> omega⟩
          · obtain rfl : b = D := by omega
            have HO9 : Hid (OneS w wr g (partT b L ((i + 1) * b))) := Lib.hid (by rw [HQN.out]; exact HO.out)
            go_wp2
            go_roundw
            case rel => exact ⟨i + 1, by omega, by go_num, HO9⟩
            case measure => simp [intOf] <;> omega
      · obtain rfl : i = n := by omega
        have hpa : partT D L (i * D) = packT D L := by rw [← HLL.out]; exact partT_all D L
        have hct := HO.out.1.text T
        rw [HPT.out, hpa] at hct
        go_wp2
        go_ret2
        exact ⟨rfl, HO.out.2.2⟩
end Go.Proofs.YtfiedoejdikcgaaDoor
set_option maxRecDepth 100000
set_option linter.unusedVariables false
namespace Go.Proofs.YtfiedoejdikcgaaDoor
set_option maxRecDepth 100000
open Go Go.RowKit
theorem atF_lt (s : ByteArray) (i : Int) : atF s i < 256 := by
  unfold atF
  split
  · omega
  · exact UInt8.toNat_lt _
end Go.Proofs.YtfiedoejdikcgaaDoor
set_option maxRecDepth 100000
set_option linter.unusedVariables false
namespace Go.Proofs.YtfiedoejdikcgaaDoor
set_option maxRecDepth 100000
open Go Go.RowKit
theorem doF_take (kind : Int) (n : Nat) (l m : List UInt8) {k : Nat} (h : k < l.length) : (doF kind n l m).take (k + 1) = (doF kind n l m).take k ++ [l.getD k 0 - foreF kind n l m k] := by
  have hl : k < (doF kind n l m).length := by rw [doF_length]; exact h
  rw [List.take_succ_eq_append_getElem hl, ← getD_lt hl, doF_at _ _ _ _ h]
set_option maxHeartbeats 1000000 in
theorem edo_any (w : World) (bpp kind : Int) (s t : ByteArray) (hs : s.size ≤ 140737488351232) (ht : t.size ≤ 140737488351232) :
    Calls Tryd.prog 38 #[.int .i64 bpp, .int .i64 kind, .string s, .string t] w fun e w' => e = .returned (.tuple #[.string (strL (doA bpp kind s t)), .int .i64 (wrongF bpp kind s t)]) ∧ But [] w w' := by
  have hW := fun v => ewrong_any v bpp kind s t (by omega) (by omega)
  by_cases h0 : wrongF bpp kind s t ≠ 0
  · obtain ⟨er, her⟩ : ∃ x, x = wrongF bpp kind s t := ⟨_, rfl⟩
    rw [doA_bad h0]
    have h1 : er = 1 ∨ er = 28 := by rcases wrongF_cases bpp kind s t with h | h | h <;> simp_all
    rw [← her]
    simp only [← her] at hW
    have HW := Lib.hid hW
    clear hW her h0
    rcases h1 with rfl | rfl
    · go_enter Tryd.func38, Tryd.ntmps38
      go_wp2_with fail
      refine (HW.out _).mono ?_
      rintro e w1 ⟨rfl, rfl⟩
      go_wp2
      go_ret2
      exact ⟨rfl, But.refl [] _⟩
    · go_enter Tryd.func38, Tryd.ntmps38
      go_wp2_with fail
      refine (HW.out _).mono ?_
      rintro e w1 ⟨rfl, rfl⟩
      go_wp2
      go_ret2
      exact ⟨rfl, But.refl [] _⟩
  have h0 : wrongF bpp kind s t = 0 := by simpa using h0
  obtain ⟨⟨hb1, hb8⟩, hts, hk0, hk4⟩ := wrongF_zero h0
  obtain ⟨n, rfl⟩ : ∃ n : Nat, bpp = (n : Int) := ⟨bpp.toNat, by omega⟩
  have hn1 : 1 ≤ n := by omega
  have hn8 : n ≤ 8 := by omega
  rw [doA_ok h0, h0]
  rw [h0] at hW
  have HW := Lib.hid hW
  have HH := Lib.hid h0
  have HTS := Lib.hid hts
  obtain ⟨R, hR⟩ : ∃ R, R = doF kind n s.data.toList t.data.toList := ⟨_, rfl⟩
  have hRl : R.length = s.size := by rw [hR, doF_length, Array.length_toList]; rfl
  rw [← hR]
  have HRl := Lib.hid hRl
  have HR := Lib.hid hR
  obtain ⟨i0, hi0, hz0, hz1, hz2⟩ := info_parts info_u8F
  clear hW h0 hts hR hRl hb1 hb8
  go_enter Tryd.func38, Tryd.ntmps38
  go_wp2_with fail
  refine (HW.out _).mono ?_
  rintro e w1 ⟨rfl, rfl⟩
  go_wp2_with fail
  go_loopw [11, 12] (fun ov kv wr => ∃ (k : Nat) (L : List UInt8), k ≤ s.size ∧ kv = .int .i64 k ∧ Hid (L = R.take k) ∧ Hid (OwnF wr w.heap.size ov L) ∧ Hid (But [] w wr)) (fun _ kv _ => s.size - (intOf kv).toNat)
  case atStart => exact ⟨0, [], Nat.zero_le _, rfl, Lib.hid (by rw [List.take_zero]), Lib.hid (OwnF.nil _ _), Lib.hid (But.refl [] _)⟩
  case round =>
    obtain ⟨k, L, hk, rfl, HL, HO, HB⟩ := hrel
    by_cases hlt : k < s.size
    · obtain ⟨A, c, rfl⟩ := HO.out.shape
      have hLl : L.length = k := by rw [HL.out, List.length_take, HRl.out]; omega
      have HLL := Lib.hid hLl
      rw [hLl]
      clear hLl
      have wkn : IntKind.i64.wrap ((k : Int) - (n : Int)) = (k : Int) - (n : Int) := by rw [IntKind.wrap_i64]; omega
      obtain ⟨b, hb⟩ : ∃ b, b = s[k].toNat := ⟨_, rfl⟩
      have kx : ∀ w, (Instr.index 9 (.string s) (.int .i64 (k : Int))).run Tryd.prog w = .ok (.int .u8 (b : Int)) w := fun w => by rw [hb]; exact byteF_run hlt w
      have hb256 : b < 256 := by rw [hb]; exact s[k].toNat_lt
      obtain ⟨qa, hqa⟩ : ∃ q, q = behindF s.data.toList n k := ⟨_, rfl⟩
      obtain ⟨qb, hqb⟩ : ∃ q, q = (t.data.toList.getD k 0).toNat := ⟨_, rfl⟩
      obtain ⟨qc, hqc⟩ : ∃ q, q = behindF t.data.toList n k := ⟨_, rfl⟩
      have la : qa < 256 := by rw [hqa, ← atF_behind]; exact atF_lt _ _
      have lb : qb < 256 := by rw [hqb]; exact UInt8.toNat_lt _
      have lc : qc < 256 := by rw [hqc, ← atF_behind]; exact atF_lt _ _
      have HA : Hid (∀ v, Calls Tryd.prog 48 #[.string s, .int .i64 ((k : Int) - (n : Int))] v fun e w' => e = .returned (.int .i64 (qa : Nat)) ∧ v = w') := Lib.hid fun v => by
        rw [hqa, ← atF_behind]; exact eat_any v s _ (by omega)
      have HQB : Hid (∀ v, Calls Tryd.prog 48 #[.string t, .int .i64 (k : Int)] v fun e w' => e = .returned (.int .i64 (qb : Nat)) ∧ v = w') := Lib.hid fun v => by
        rw [hqb, ← atF_nat]; exact eat_any v t _ (by omega)
      have HC : Hid (∀ v, Calls Tryd.prog 48 #[.string t, .int .i64 ((k : Int) - (n : Int))] v fun e w' => e = .returned (.int .i64 (qc : Nat)) ∧ v = w') := Lib.hid fun v => by
        rw [hqc, ← atF_behind]; exact eat_any v t _ (by omega)
      have hc0 : k < n → qc = 0 := fun h => by rw [hqc]; unfold behindF; rw [if_pos h]
      obtain ⟨p, hp⟩ : ∃ p, p = predF kind qa qb qc := ⟨_, rfl⟩
      have wb : IntKind.i64.wrap (b : Int) = (b : Int) := by rw [IntKind.wrap_i64]; omega
      have hp256 : p < 256 := by rw [hp]; exact predF_lt kind la lb lc
      have wbp : IntKind.i64.wrap ((b : Int) - (p : Int)) = (b : Int) - (p : Int) := by rw [IntKind.wrap_i64]; omega
      have HP : Hid (∀ v, Calls Tryd.prog 47 #[.int .i64 kind, .int .i64 (qa : Int), .int .i64 (qb : Int), .int .i64 (qc : Int)] v fun e w' => e = .returned (.int .i64 (p : Nat)) ∧ v = w') := Lib.hid fun v => by
        rw [hp]; exact etells_any v kind la lb lc
      obtain ⟨y, hy⟩ : ∃ y, y = s.data.toList.getD k 0 - foreF kind n s.data.toList t.data.toList k := ⟨_, rfl⟩
      have ew : IntKind.u8.wrap ((b : Int) - (p : Int)) = ((y.toNat : Nat) : Int) := by
        have hfo : (foreF kind n s.data.toList t.data.toList k).toNat = p := by
          unfold foreF
          rw [← hqa, ← hqb, ← hqc, ← hp, UInt8.toNat_ofNat']
          omega
        rw [hy, UInt8.toNat_sub, hfo, getD_byte s hlt, ← hb, IntKind.wrap_u8]
        omega
      have HN : Hid (L ++ [y] = R.take (k + 1)) := Lib.hid (by rw [HL.out, HR.out, doF_take _ _ _ _ (by rw [Array.length_toList]; exact hlt), hy])
      clear hb hqa hqb hqc hp hy
      by_cases hkn : k < n
      · obtain rfl : qc = 0 := hc0 hkn
        go_upto_region 11 with (fail)
        refine wp_region_m (S := fun v => But [] w v) (R := fun v v' => But [] v v') (fun w => But.refl [] w) (by kernel_rfl) (HB.out.drew) ?_
        refine wpM_take (fun w => But.refl [] w) (fun x y z h k => h.trans k) (i := 0) (v := .slice A k c) rfl (by kernel_rfl) (by kernel_rfl) (by kernel_rfl) (fun _ _ _ h => h) (YieldsR.read (fun w => But.refl [] w) ?_ fun w hS => ?_) ?_
        · go_simp
        · go_simp
        refine wpM_take (fun w => But.refl [] w) (fun x y z h k => h.trans k) (i := 1) (v := .string s) rfl (by kernel_rfl) (by kernel_rfl) (by kernel_rfl) (fun _ _ _ h => h) (YieldsR.read (fun w => But.refl [] w) ?_ fun w hS => ?_) ?_
        · go_simp
        · go_simp
        refine wpM_take (fun w => But.refl [] w) (fun x y z h k => h.trans k) (i := 2) (v := .int .i64 (k : Int)) rfl (by kernel_rfl) (by kernel_rfl) (by kernel_rfl) (fun _ _ _ h => h) (YieldsR.read (fun w => But.refl [] w) ?_ fun w hS => ?_) ?_
        · go_simp
        · go_simp
        refine wpM_take (fun w => But.refl [] w) (fun x y z h k => h.trans k) (i := 3) (v := .int .u8 (b : Int)) rfl (by kernel_rfl) (by kernel_rfl) (by kernel_rfl) (fun _ _ _ h => h) (YieldsR.read (fun w => But.refl [] w) ?_ fun w hS => ?_) ?_
        · go_simp
        · go_simp
        refine wpM_take (fun w => But.refl [] w) (fun x y z h k => h.trans k) (i := 4) (v := .int .i64 (b : Int)) rfl (by kernel_rfl) (by kernel_rfl) (by kernel_rfl) (fun _ _ _ h => h) (YieldsR.read (fun w => But.refl [] w) ?_ fun w hS => ?_) ?_
        · go_simp
        · go_simp
        refine wpM_take (fun w => But.refl [] w) (fun x y z h k => h.trans k) (i := 5) (v := .int .i64 kind) rfl (by kernel_rfl) (by kernel_rfl) (by kernel_rfl) (fun _ _ _ h => h) (YieldsR.read (fun w => But.refl [] w) ?_ fun w hS => ?_) ?_
        · go_simp
        · go_simp
        refine wpM_take (fun w => But.refl [] w) (fun x y z h k => h.trans k) (i := 6) (v := .string s) rfl (by kernel_rfl) (by kernel_rfl) (by kernel_rfl) (fun _ _ _ h => h) (YieldsR.read (fun w => But.refl [] w) ?_ fun w hS => ?_) ?_
        · go_simp
        · go_simp
        refine wpM_take (fun w => But.refl [] w) (fun x y z h k => h.trans k) (i := 7) (v := .int .i64 (k : Int)) rfl (by kernel_rfl) (by kernel_rfl) (by kernel_rfl) (fun _ _ _ h => h) (YieldsR.read (fun w => But.refl [] w) ?_ fun w hS => ?_) ?_
        · go_simp
        · go_simp
        refine wpM_take (fun w => But.refl [] w) (fun x y z h k => h.trans k) (i := 8) (v := .int .i64 (n : Int)) rfl (by kernel_rfl) (by kernel_rfl) (by kernel_rfl) (fun _ _ _ h => h) (YieldsR.read (fun w => But.refl [] w) ?_ fun w hS => ?_) ?_
        · go_simp
        · go_simp
        refine wpM_take (fun w => But.refl [] w) (fun x y z h k => h.trans k) (i := 9) (v := .int .i64 ((k : Int) - (n : Int))) rfl (by kernel_rfl) (by kernel_rfl) (by kernel_rfl) (fun _ _ _ h => h) (YieldsR.read (fun w => But.refl [] w) ?_ fun w hS => ?_) ?_
        · go_simp
        · go_simp
        refine wpM_take (fun w => But.refl [] w) (fun x y z h k => h.trans k) (i := 10) (v := .int .i64 (qa : Int)) rfl (by kernel_rfl) (by kernel_rfl) (by kernel_rfl) (fun _ _ _ h => h) (.inl ⟨?_, fun w hS => .inr ⟨_, _, ?_, (HA.out w).mono ?_⟩⟩) ?_
        · go_simp
        · go_simp
        · rintro e wy ⟨rfl, rfl⟩; exact ⟨rfl, hS, But.refl [] _⟩
        refine wpM_take (fun w => But.refl [] w) (fun x y z h k => h.trans k) (i := 11) (v := .string t) rfl (by kernel_rfl) (by kernel_rfl) (by kernel_rfl) (fun _ _ _ h => h) (YieldsR.read (fun w => But.refl [] w) ?_ fun w hS => ?_) ?_
        · go_simp
        · go_simp
        refine wpM_take (fun w => But.refl [] w) (fun x y z h k => h.trans k) (i := 12) (v := .int .i64 (k : Int)) rfl (by kernel_rfl) (by kernel_rfl) (by kernel_rfl) (fun _ _ _ h => h) (YieldsR.read (fun w => But.refl [] w) ?_ fun w hS => ?_) ?_
        · go_simp
        · go_simp
        refine wpM_take (fun w => But.refl [] w) (fun x y z h k => h.trans k) (i := 13) (v := .int .i64 (qb : Int)) rfl (by kernel_rfl) (by kernel_rfl) (by kernel_rfl) (fun _ _ _ h => h) (.inl ⟨?_, fun w hS => .inr ⟨_, _, ?_, (HQB.out w).mono ?_⟩⟩) ?_
        · go_simp
        · go_simp
        · rintro e wy ⟨rfl, rfl⟩; exact ⟨rfl, hS, But.refl [] _⟩
        refine wpM_take (fun w => But.refl [] w) (fun x y z h k => h.trans k) (i := 14) (v := .int .i64 0) rfl (by kernel_rfl) (by kernel_rfl) (by kernel_rfl) (fun _ _ _ h => h) (YieldsR.read (fun w => But.refl [] w) ?_ fun w hS => ?_) ?_
        · go_simp
        · go_simp
        refine wpM_take (fun w => But.refl [] w) (fun x y z h k => h.trans k) (i := 15) (v := .int .i64 (p : Int)) rfl (by kernel_rfl) (by kernel_rfl) (by kernel_rfl) (fun _ _ _ h => h) (.inl ⟨?_, fun w hS => .inr ⟨_, _, ?_, (HP.out w).mono ?_⟩⟩) ?_
        · go_simp
        · go_simp
        · rintro e wy ⟨rfl, rfl⟩; exact ⟨rfl, hS, But.refl [] _⟩
        refine wpM_take (fun w => But.refl [] w) (fun x y z h k => h.trans k) (i := 16) (v := .int .i64 ((b : Int) - (p : Int))) rfl (by kernel_rfl) (by kernel_rfl) (by kernel_rfl) (fun _ _ _ h => h) (YieldsR.read (fun w => But.refl [] w) ?_ fun w hS => ?_) ?_
        · go_simp
        · go_simp
        refine wpM_take (fun w => But.refl [] w) (fun x y z h k => h.trans k) (i := 17) (v := .int .u8 ((y.toNat : Nat) : Int)) rfl (by kernel_rfl) (by kernel_rfl) (by kernel_rfl) (fun _ _ _ h => h) (YieldsR.read (fun w => But.refl [] w) ?_ fun w hS => ?_) ?_
        · go_simp
        · go_simp
        refine wpM_one (i := 18) rfl (by kernel_rfl) fun w1 hR1 hS1 K' hK => ?_
        go_simp
        refine hK _ _ ⟨hS1.alloc _, ?_⟩
        clear hK K'
        have hI1 := Is.fresh w1 5 #[.int .u8 ((y.toNat : Nat) : Int)]
        have hO1 := HO.out.but (((But.refl [] wr).drew.trans hR1).alloc (.cells #[.int .u8 ((y.toNat : Nat) : Int)] 5))
        refine wpM_one (i := 19) rfl (by kernel_rfl) fun w2 hR2 hS2 K' hK => ?_
        refine step_append_f (w0 := w) w2 rfl _ _ rfl hi0 hz0 hz1 hz2 (.slice A L.length c) L (by rw [HLL.out]; rfl) (hO1.but hR2) hS2 y (by rfl) (hI1.but hR2 (by simp)) (by rw [HLL.out]; omega) ?_
        intro A2 c2 w3 M hM hO3 hB3
        refine hK _ _ ⟨hB3, ?_⟩
        clear hK K'
        refine wpM_take (fun w => But.refl [] w) (fun x y z h k => h.trans k) (i := 20) (v := .slice A2 M.length c2) rfl (by kernel_rfl) (by kernel_rfl) (by kernel_rfl) (fun _ _ _ h => h) (YieldsR.read (fun w => But.refl [] w) ?_ fun w hS => ?_) ?_
        · go_simp
        · go_simp
        refine ⟨by kernel_rfl, fun w4 hR4 hS4 => ?_⟩
        have HO4 := Lib.hid (hO3.but hR4)
        have HB4 := Lib.hid hS4
        have HM : Hid (M = R.take (k + 1)) := Lib.hid (by rw [hM]; exact HN.out)
        clear hR4 hS4 hO3 hB3 hM hI1 hO1 hR1 hS1 hR2 hS2
        go_simp
        go_wp2
        go_roundw
        case rel => exact ⟨k + 1, M, by omega, by go_num, HM, HO4, HB4⟩
        case measure => simp [intOf]; omega
      · go_upto_region 11 with (refine (HC.out _).mono ?_; rintro e w1 ⟨rfl, rfl⟩)
        refine wp_region_m (S := fun v => But [] w v) (R := fun v v' => But [] v v') (fun w => But.refl [] w) (by kernel_rfl) (HB.out.drew) ?_
        refine wpM_take (fun w => But.refl [] w) (fun x y z h k => h.trans k) (i := 0) (v := .slice A k c) rfl (by kernel_rfl) (by kernel_rfl) (by kernel_rfl) (fun _ _ _ h => h) (YieldsR.read (fun w => But.refl [] w) ?_ fun w hS => ?_) ?_
        · go_simp
        · go_simp
        refine wpM_take (fun w => But.refl [] w) (fun x y z h k => h.trans k) (i := 1) (v := .string s) rfl (by kernel_rfl) (by kernel_rfl) (by kernel_rfl) (fun _ _ _ h => h) (YieldsR.read (fun w => But.refl [] w) ?_ fun w hS => ?_) ?_
        · go_simp
        · go_simp
        refine wpM_take (fun w => But.refl [] w) (fun x y z h k => h.trans k) (i := 2) (v := .int .i64 (k : Int)) rfl (by kernel_rfl) (by kernel_rfl) (by kernel_rfl) (fun _ _ _ h => h) (YieldsR.read (fun w => But.refl [] w) ?_ fun w hS => ?_) ?_
        · go_simp
        · go_simp
        refine wpM_take (fun w => But.refl [] w) (fun x y z h k => h.trans k) (i := 3) (v := .int .u8 (b : Int)) rfl (by kernel_rfl) (by kernel_rfl) (by kernel_rfl) (fun _ _ _ h => h) (YieldsR.read (fun w => But.refl [] w) ?_ fun w hS => ?_) ?_
        · go_simp
        · go_simp
        refine wpM_take (fun w => But.refl [] w) (fun x y z h k => h.trans k) (i := 4) (v := .int .i64 (b : Int)) rfl (by kernel_rfl) (by kernel_rfl) (by kernel_rfl) (fun _ _ _ h => h) (YieldsR.read (fun w => But.refl [] w) ?_ fun w hS => ?_) ?_
        · go_simp
        · go_simp
        refine wpM_take (fun w => But.refl [] w) (fun x y z h k => h.trans k) (i := 5) (v := .int .i64 kind) rfl (by kernel_rfl) (by kernel_rfl) (by kernel_rfl) (fun _ _ _ h => h) (YieldsR.read (fun w => But.refl [] w) ?_ fun w hS => ?_) ?_
        · go_simp
        · go_simp
        refine wpM_take (fun w => But.refl [] w) (fun x y z h k => h.trans k) (i := 6) (v := .string s) rfl (by kernel_rfl) (by kernel_rfl) (by kernel_rfl) (fun _ _ _ h => h) (YieldsR.read (fun w => But.refl [] w) ?_ fun w hS => ?_) ?_
        · go_simp
        · go_simp
        refine wpM_take (fun w => But.refl [] w) (fun x y z h k => h.trans k) (i := 7) (v := .int .i64 (k : Int)) rfl (by kernel_rfl) (by kernel_rfl) (by kernel_rfl) (fun _ _ _ h => h) (YieldsR.read (fun w => But.refl [] w) ?_ fun w hS => ?_) ?_
        · go_simp
        · go_simp
        refine wpM_take (fun w => But.refl [] w) (fun x y z h k => h.trans k) (i := 8) (v := .int .i64 (n : Int)) rfl (by kernel_rfl) (by kernel_rfl) (by kernel_rfl) (fun _ _ _ h => h) (YieldsR.read (fun w => But.refl [] w) ?_ fun w hS => ?_) ?_
        · go_simp
        · go_simp
        refine wpM_take (fun w => But.refl [] w) (fun x y z h k => h.trans k) (i := 9) (v := .int .i64 ((k : Int) - (n : Int))) rfl (by kernel_rfl) (by kernel_rfl) (by kernel_rfl) (fun _ _ _ h => h) (YieldsR.read (fun w => But.refl [] w) ?_ fun w hS => ?_) ?_
        · go_simp
        · go_simp
        refine wpM_take (fun w => But.refl [] w) (fun x y z h k => h.trans k) (i := 10) (v := .int .i64 (qa : Int)) rfl (by kernel_rfl) (by kernel_rfl) (by kernel_rfl) (fun _ _ _ h => h) (.inl ⟨?_, fun w hS => .inr ⟨_, _, ?_, (HA.out w).mono ?_⟩⟩) ?_
        · go_simp
        · go_simp
        · rintro e wy ⟨rfl, rfl⟩; exact ⟨rfl, hS, But.refl [] _⟩
        refine wpM_take (fun w => But.refl [] w) (fun x y z h k => h.trans k) (i := 11) (v := .string t) rfl (by kernel_rfl) (by kernel_rfl) (by kernel_rfl) (fun _ _ _ h => h) (YieldsR.read (fun w => But.refl [] w) ?_ fun w hS => ?_) ?_
        · go_simp
        · go_simp
        refine wpM_take (fun w => But.refl [] w) (fun x y z h k => h.trans k) (i := 12) (v := .int .i64 (k : Int)) rfl (by kernel_rfl) (by kernel_rfl) (by kernel_rfl) (fun _ _ _ h => h) (YieldsR.read (fun w => But.refl [] w) ?_ fun w hS => ?_) ?_
        · go_simp
        · go_simp
        refine wpM_take (fun w => But.refl [] w) (fun x y z h k => h.trans k) (i := 13) (v := .int .i64 (qb : Int)) rfl (by kernel_rfl) (by kernel_rfl) (by kernel_rfl) (fun _ _ _ h => h) (.inl ⟨?_, fun w hS => .inr ⟨_, _, ?_, (HQB.out w).mono ?_⟩⟩) ?_
        · go_simp
        · go_simp
        · rintro e wy ⟨rfl, rfl⟩; exact ⟨rfl, hS, But.refl [] _⟩
        refine wpM_take (fun w => But.refl [] w) (fun x y z h k => h.trans k) (i := 14) (v := .int .i64 (qc : Int)) rfl (by kernel_rfl) (by kernel_rfl) (by kernel_rfl) (fun _ _ _ h => h) (YieldsR.read (fun w => But.refl [] w) ?_ fun w hS => ?_) ?_
        · go_simp
        · go_simp
        refine wpM_take (fun w => But.refl [] w) (fun x y z h k => h.trans k) (i := 15) (v := .int .i64 (p : Int)) rfl (by kernel_rfl) (by kernel_rfl) (by kernel_rfl) (fun _ _ _ h => h) (.inl ⟨?_, fun w hS => .inr ⟨_, _, ?_, (HP.out w).mono ?_⟩⟩) ?_
        · go_simp
        · go_simp
        · rintro e wy ⟨rfl, rfl⟩; exact ⟨rfl, hS, But.refl [] _⟩
        refine wpM_take (fun w => But.refl [] w) (fun x y z h k => h.trans k) (i := 16) (v := .int .i64 ((b : Int) - (p : Int))) rfl (by kernel_rfl) (by kernel_rfl) (by kernel_rfl) (fun _ _ _ h => h) (YieldsR.read (fun w => But.refl [] w) ?_ fun w hS => ?_) ?_
        · go_simp
        · go_simp
        refine wpM_take (fun w => But.refl [] w) (fun x y z h k => h.trans k) (i := 17) (v := .int .u8 ((y.toNat : Nat) : Int)) rfl (by kernel_rfl) (by kernel_rfl) (by kernel_rfl) (fun _ _ _ h => h) (YieldsR.read (fun w => But.refl [] w) ?_ fun w hS => ?_) ?_
        · go_simp
        · go_simp
        refine wpM_one (i := 18) rfl (by kernel_rfl) fun w1 hR1 hS1 K' hK => ?_
        go_simp
        refine hK _ _ ⟨hS1.alloc _, ?_⟩
        clear hK K'
        have hI1 := Is.fresh w1 5 #[.int .u8 ((y.toNat : Nat) : Int)]
        have hO1 := HO.out.but (((But.refl [] wr).drew.trans hR1).alloc (.cells #[.int .u8 ((y.toNat : Nat) : Int)] 5))
        refine wpM_one (i := 19) rfl (by kernel_rfl) fun w2 hR2 hS2 K' hK => ?_
        refine step_append_f (w0 := w) w2 rfl _ _ rfl hi0 hz0 hz1 hz2 (.slice A L.length c) L (by rw [HLL.out]; rfl) (hO1.but hR2) hS2 y (by rfl) (hI1.but hR2 (by simp)) (by rw [HLL.out]; omega) ?_
        intro A2 c2 w3 M hM hO3 hB3
        refine hK _ _ ⟨hB3, ?_⟩
        clear hK K'
        refine wpM_take (fun w => But.refl [] w) (fun x y z h k => h.trans k) (i := 20) (v := .slice A2 M.length c2) rfl (by kernel_rfl) (by kernel_rfl) (by kernel_rfl) (fun _ _ _ h => h) (YieldsR.read (fun w => But.refl [] w) ?_ fun w hS => ?_) ?_
        · go_simp
        · go_simp
        refine ⟨by kernel_rfl, fun w4 hR4 hS4 => ?_⟩
        have HO4 := Lib.hid (hO3.but hR4)
        have HB4 := Lib.hid hS4
        have HM : Hid (M = R.take (k + 1)) := Lib.hid (by rw [hM]; exact HN.out)
        clear hR4 hS4 hO3 hB3 hM hI1 hO1 hR1 hS1 hR2 hS2
        go_simp
        go_wp2
        go_roundw
        case rel => exact ⟨k + 1, M, by omega, by go_num, HM, HO4, HB4⟩
        case measure => simp [intOf]; omega
    · have HE : Hid (L = R) := Lib.hid (by rw [HL.out, List.take_of_length_le]; rw [HRl.out]; omega)
      have hct := HO.out.text
      rw [HE.out] at hct
      go_wp2
      go_ret2
      exact ⟨rfl, HB.out⟩
end Go.Proofs.YtfiedoejdikcgaaDoor
