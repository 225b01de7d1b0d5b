/- The document's row of samples. -/
import Derived.Test.YtfibffcmbnlomaaSbC
import Derived.Test.YtfibffcmbnlomaaSbM
import Derived.Deep.RegionWith
import Derived.BigRegion
set_option maxRecDepth 100000
set_option linter.unusedVariables false
namespace Go.Proofs.Ytfibffcmbnlomaa
set_option maxRecDepth 100000
open Go Go.RowKit
/-- A slice reads as these numbers, which may be below nought. -/
def Zs (w : World) (A : Option Addr) (n : Nat) (l : List Int) : Prop :=
  l.length = n ∧ (0 < n → ∃ g o, A = some ⟨g, o, none⟩ ∧ g < w.heap.size ∧ ∀ (i : Nat) (h : i < l.length), w.cell? ⟨g, o + i, none⟩ = some (.int .i64 l[i]))
theorem Zs.but {w w' : World} {A : Option Addr} {n : Nat} {l : List Int} (h : Zs w A n l) (hw : But [] w w') : Zs w' A n l :=
  ⟨h.1, fun hn => by
    obtain ⟨g, o, e, hg, hc⟩ := h.2 hn
    exact ⟨g, o, e, Nat.lt_of_lt_of_le hg hw.size, fun i hi => hw.cell (hc i hi) (by simp)⟩⟩
theorem Zs.at {w : World} {A : Option Addr} {n : Nat} {l : List Int} (h : Zs w A n l) {i : Nat} (hi : i < n) : ∃ g o x, A = some ⟨g, o, none⟩ ∧ g < w.heap.size ∧ l[i]? = some x ∧ w.cell? ⟨g, o + i, none⟩ = some (.int .i64 x) := by
  obtain ⟨g, o, e, hg, hc⟩ := h.2 (by omega)
  have hl : i < l.length := by have := h.1; omega
  exact ⟨g, o, l[i], e, hg, List.getElem?_eq_getElem hl, hc i hl⟩
/-- The numbers fit. -/
def ZFit (l : List Int) : Prop := ∀ x, x ∈ l → -9223372036854775808 ≤ x ∧ x ≤ 9223372036854775807
/-- A row of samples, of whatever arguments. -/
def packA (d : Int) (l : List Int) : List UInt8 × Int := if depB d = false then ([], 1) else (packT d.toNat (l.map lowN), 0)
/-- A row of the call's own. -/
def OneS (w v : World) (g : Nat) (l : List UInt8) : Prop := RowF v g l ∧ w.heap.size ≤ g ∧ But [] w v
theorem OneS.but {w v v' : World} {g : Nat} {l : List UInt8} (h : OneS w v g l) (k : But [] v v') : OneS w v' g l := ⟨h.1.but k, h.2.1, h.2.2.trans k⟩
theorem OneS.put {w v : World} {g : Nat} {l : List UInt8} (h : OneS w v g l) {i : Nat} (x : UInt8) (hi : i < l.length) : OneS w (v.setCell ⟨g, i, none⟩ (.int .u8 (x.toNat : Nat))) g (l.set i x) :=
  ⟨h.1.put i x hi, h.2.1, h.2.2.setCell (p := ⟨g, i, none⟩) (.inr h.2.1) _⟩
theorem wrapI_in {q : Nat} (h : q < 1000000000000000) : IntKind.i64.wrap (q : Int) = (q : Int) := by rw [IntKind.wrap_i64]; omega
theorem wrapD_in {D : Nat} (h1 : 1 ≤ D) (h2 : D ≤ 16) : IntKind.i64.wrap ((D : Int) - 1) = (D : Int) - 1 := by rw [IntKind.wrap_i64]; omega
theorem wrapY_in {z : Nat} (h : z < 256) : IntKind.u8.wrap (z : Int) = (z : Int) := by rw [IntKind.wrap_u8]; omega
set_option maxHeartbeats 2000000 in
theorem epack_any (w : World) {A : Option Addr} {n c : Nat} {l : List Int} {d : Int} (hZ : Zs w A n l) (hF : ZFit l) (hn : n ≤ 17592186043904) :
    Calls Try.prog 16 #[.int .i64 d, .slice A n c] w fun e w' => e = .returned (.tuple #[.string (strL (packA d l).1), .int .i64 (packA d l).2]) ∧ But [] w w' := by
  have HD := Lib.hid fun W => edepth_any W d
  cases hd : depB d with
  | false =>
    have HR : Hid (packA d l = ([], 1)) := Lib.hid (by unfold packA; rw [if_pos hd])
    rw [HR.out]
    rw [hd] at HD
    clear hd hZ hF
    go_enter Try.func16, Try.ntmps16
    go_wp2_with fail
    refine (HD.out _).mono ?_
    rintro e w1 ⟨rfl, rfl⟩
    go_wp2
    go_ret2
    exact ⟨rfl, But.refl [] _⟩
  | true =>
    rw [hd] at HD
    obtain ⟨D, rfl, hdep, hD1, hD16⟩ := depB_nat hd
    obtain ⟨L, hL⟩ : ∃ L, L = l.map lowN := ⟨_, rfl⟩
    have hLl : L.length = n := by rw [hL, List.length_map]; exact hZ.1
    have HR : Hid (packA (D : Int) l = (packT D L, 0)) := Lib.hid (by unfold packA; rw [if_neg (by rw [hd]; decide), hL]; rfl)
    rw [HR.out]
    obtain ⟨t, ht⟩ : ∃ t, t = n * D := ⟨_, rfl⟩
    have e0 : (n : Int) * (D : Int) = (t : Int) := by rw [ht, Int.natCast_mul]
    have ht2 : t ≤ 281474976702464 := by rw [ht]; show _ ≤ 17592186043904 * 16; exact Nat.mul_le_mul hn hD16
    obtain ⟨T, hT⟩ : ∃ T, T = (t + 7) / 8 := ⟨_, rfl⟩
    have g1 : ((t : Int) + 7).tdiv 8 = (T : Int) := by rw [Int.tdiv_eq_ediv_of_nonneg (by omega)]; omega
    have g2 : ((t : Int) + 7) / 8 = (T : Int) := by omega
    have hpt : ∀ k, (partT D L k).length = T := fun k => by rw [partT_length, hLl, ← ht, hT]
    have km := run_noughts w (n := T) (by omega)
    have hno := noughtsF_row w T
    have hnb := noughtsF_but w T
    obtain ⟨w5, hw5⟩ : ∃ x, x = noughtsF w T := ⟨_, rfl⟩
    rw [← hw5] at km hno hnb
    obtain ⟨g, hg⟩ : ∃ g, g = w.heap.size := ⟨_, rfl⟩
    have HO0 : Hid (OneS w w5 g (partT D L 0)) := Lib.hid ⟨by rw [partT_zero, hLl, ← ht, ← hT, hg]; exact hno, by rw [hg]; exact Nat.le_refl _, hnb⟩
    rw [← hg] at km
    have HZ := Lib.hid hZ
    have HF := Lib.hid hF
    have HL := Lib.hid hL
    have HLL := Lib.hid hLl
    have HT := Lib.hid ht
    have HT2 := Lib.hid hT
    have HPT := Lib.hid hpt
    clear hd hdep hZ hF hL hLl ht hT hpt hno hnb hw5 hg
    go_enter Try.func16, Try.ntmps16
    go_wp2_with fail
    refine (HD.out _).mono ?_
    rintro e wz ⟨rfl, rfl⟩
    go_wp2_with fail
    go_loopw [7] (fun iv wr => ∃ i : Nat, i ≤ n ∧ iv = .int .i64 i ∧ Hid (OneS w wr g (partT D L (i * D)))) (fun iv _ => n - (intOf iv).toNat)
    case atStart => exact ⟨0, Nat.zero_le _, rfl, Lib.hid (by rw [Nat.zero_mul]; exact HO0.out)⟩
    case round =>
      clear HO0 km
      obtain ⟨i, hi, rfl, HO⟩ := hrel
      by_cases hlt : i < n
      · obtain ⟨q, hq⟩ : ∃ q, q = i * D := ⟨_, rfl⟩
        have e1 : (i : Int) * (D : Int) = (q : Int) := by rw [hq, Int.natCast_mul]
        have hqn : (i + 1) * D = q + D := by rw [hq, Nat.add_mul, Nat.one_mul]
        have hqt : q + D ≤ t := by rw [← hqn, HT.out]; exact Nat.mul_le_mul_right D hlt
        rw [← hq] at HO
        have HQ := Lib.hid hq
        have HQN := Lib.hid hqn
        clear hq hqn
        go_wp2_with fail
        go_loopw [8] (fun bv wx => ∃ b : Nat, b ≤ D ∧ bv = .int .i64 b ∧ Hid (OneS w wx g (partT D L (q + b)))) (fun bv _ => D - (intOf bv).toNat)
        case atStart => exact ⟨0, Nat.zero_le _, rfl, HO⟩
        case round =>
          clear HO
          obtain ⟨b, hb, rfl, HO⟩ := hrel
          by_cases hbl : b < D
          · obtain ⟨k, hk⟩ : ∃ k, k = q + b := ⟨_, rfl⟩
            have ek : (q : Int) + (b : Int) = (k : Int) := by omega
            rw [← hk] at HO
            obtain ⟨x, hx⟩ : ∃ x, l[i]? = some x := ⟨_, List.getElem?_eq_getElem (by rw [HZ.out.1]; exact hlt)⟩
            have hxf := HF.out x (List.mem_of_getElem? hx)
            obtain ⟨x1, x2⟩ := hxf
            obtain ⟨kq, hkq⟩ : ∃ x, x = k / 8 := ⟨_, rfl⟩
            obtain ⟨km, hkm⟩ : ∃ x, x = k % 8 := ⟨_, rfl⟩
            obtain ⟨sh, hsh⟩ : ∃ x, x = 7 - km := ⟨_, rfl⟩
            obtain ⟨ex, hex⟩ : ∃ x, x = D - 1 - b := ⟨_, rfl⟩
            obtain ⟨y, hy⟩ : ∃ y, y = x / 2 ^ ex := ⟨_, rfl⟩
            obtain ⟨z, hz⟩ : ∃ z, z = packBit D L k := ⟨_, rfl⟩
            have hz2 : z < 2 := by rw [hz]; exact packBit_lt _ _ _
            have hyz : y % 2 = (z : Int) := by
              have hg : L.getD i 0 = lowN x := by rw [HL.out, List.getD_eq_getElem?_getD, List.getElem?_map, hx]; rfl
              rw [hy, lowN_bit x (by omega), hz, hk, HQ.out, packBit_of (by rw [HLL.out]; exact hlt) hbl, hg, hex]
            obtain ⟨old, hold⟩ : ∃ o, o = partB D L k kq := ⟨_, rfl⟩
            obtain ⟨new, hnew⟩ : ∃ o, o = partB D L (k + 1) kq := ⟨_, rfl⟩
            have ho256 : old < 256 := by rw [hold]; exact partB_lt _ _ _ _
            have hn256 : new < 256 := by rw [hnew]; exact partB_lt _ _ _ _
            obtain ⟨pe, hpe⟩ : ∃ p, p = z * 2 ^ sh := ⟨_, rfl⟩
            have hor : old ||| pe = new := by rw [hold, hpe, hz, hnew, hsh, hkm, hkq]; exact partB_or D L k
            have hpe256 : pe < 256 := by
              have h1 : pe ≤ new := by rw [← hor]; exact Nat.right_le_or
              omega
            have f1 : (k : Int).tdiv 8 = (kq : Int) := by rw [Int.tdiv_eq_ediv_of_nonneg (by omega)]; omega
            have f2 : (k : Int) / 8 = (kq : Int) := by omega
            have f3 : (k : Int).tmod 8 = (km : Int) := by rw [Int.tmod_eq_emod_of_nonneg (by omega)]; omega
            have f4 : (k : Int) % 8 = (km : Int) := by omega
            have f5 : (7 : Int) - (km : Int) = (sh : Int) := by omega
            have f6 : (D : Int) - 1 - (b : Int) = (ex : Int) := by omega
            have f7 : x / 2 ^ ex = y := hy.symm
            have f8 : bits .and .i64 y 1 = (z : Int) := by rw [← hyz]; exact i64_mask y 1 (by decide)
            have f9 : (z : Int) * 2 ^ sh = (pe : Int) := by rw [hpe]; simp
            have f10 : bits .or .u8 (old : Int) (pe : Int) = (new : Int) := by rw [u8_or_nat old pe ho256 hpe256, hor]
            have hkl : kq < T := by have := HT2.out; omega
            have i0 : (0 : Int) ≤ (i : Int) := by omega
            have i1 : (i : Int) < (n : Int) := by omega
            have j0 : (0 : Int) ≤ (kq : Int) := by omega
            have j1 : (kq : Int) < (T : Int) := by omega
            have hsh7 : sh ≤ 7 := by omega
            have hex15 : ex ≤ 15 := by omega
            have HO1 := Lib.hid (HO.out.but ((But.refl [] wr).drew))
            have hpl := HPT.out k
            have hcl : wr.drew.cell? ⟨g, kq, none⟩ = some (.int .u8 (old : Nat)) := by
              rw [HO1.out.1.cell (by rw [hpl]; exact hkl), partT_at _ _ _ (by rw [HLL.out, ← HT.out, ← HT2.out]; exact hkl), ← hold, UInt8.toNat_ofNat', Nat.mod_eq_of_lt ho256]
            have hfr : wr.drew.frozen? ⟨g, kq, none⟩ = false := HO1.out.1.free (by rw [hpl]; exact hkl)
            obtain ⟨ga, o, x', rfl, hga, hx', hca⟩ := (HZ.out.but HO1.out.2.2).at hlt
            have ex' : x' = x := by rw [hx] at hx'; exact (Option.some.inj hx').symm
            subst ex'
            have HO2 : Hid (OneS w (wr.drew.setCell ⟨g, kq, none⟩ (.int .u8 (new : Nat))) g (partT D L (q + (b + 1)))) := Lib.hid (by
              have h := HO1.out.put (i := kq) (UInt8.ofNat new) (by rw [hpl]; exact hkl)
              rw [UInt8.toNat_ofNat', Nat.mod_eq_of_lt hn256, hnew, hkq, partT_next (by rw [HLL.out, ← HT.out]; omega)] at h
              rw [show q + (b + 1) = k + 1 by omega, hnew, hkq]
              exact h)
            clear hk hx hx' hkq hkm hsh hex hy hz hyz hold hnew hpe hor hpl HO HO1
            have v1 := wrapI_in (show kq < 1000000000000000 by omega)
            have v2 := wrapI_in (show km < 1000000000000000 by omega)
            have v3 := wrapI_in (show sh < 1000000000000000 by omega)
            have v4 := wrapI_in (show ex < 1000000000000000 by omega)
            have v5 := wrapD_in hD1 hD16
            have v6 := wrapY_in (z := z) (by omega)
            have v7 := wrapY_in (z := pe) (by omega)
            have v8 := wrapI_in (show z < 1000000000000000 by omega)
            go_upto_region 11 with (fail)
            go_region_with fail
            all_goals go_wp2
            all_goals exact ⟨⟨b + 1, by omega, by go_num, HO2⟩, by simp [intOf] <;> omega⟩
          · obtain rfl : b = D := by omega
            have HO9 : Hid (OneS w wr g (partT b L ((i + 1) * b))) := Lib.hid (by rw [HQN.out]; exact HO.out)
            go_wp2
            go_roundw
            case rel => exact ⟨i + 1, by omega, by go_num, HO9⟩
            case measure => simp [intOf] <;> omega
      · obtain rfl : i = n := by omega
        have hpa : partT D L (i * D) = packT D L := by rw [← HLL.out]; exact partT_all D L
        have hct := HO.out.1.text T
        rw [HPT.out, hpa] at hct
        go_wp2
        go_ret2
        exact ⟨rfl, HO.out.2.2⟩
end Go.Proofs.Ytfibffcmbnlomaa
