/- Several texts in one: SbN, SbU, SbV, SbR (what PixelImages, PixelRows, PixelSame reach of them). -/
import Derived.Test.YtfiedoejdikcgaaDoorQ01
import Derived.Test.YtfiedoejdikcgaaDoorQ02
import Derived.Test.YtfiedoejdikcgaaDoorQ03
import Derived.Test.YtfiedoejdikcgaaDoorQ04
import Derived.Test.YtfiedoejdikcgaaDoorQ05
import Derived.Test.YtfiedoejdikcgaaDoorQ06
import Derived.Test.YtfiedoejdikcgaaDoorQ07
import Derived.Test.YtfiedoejdikcgaaDoorQ08
import Derived.Test.YtfiedoejdikcgaaDoorQ09
import Derived.Test.YtfiedoejdikcgaaDoorQ12
import Derived.Below
import Derived.BigQuiet
import Derived.BigRegion
import Derived.Deep.AppendLies
import Derived.Deep.CutBlock
import Derived.Deep.CutRange
import Derived.Deep.DeepCutAuto
import Derived.Deep.Draws
import Derived.Deep.QuietTactic
import Derived.Deep.RegionLaw
import Derived.Deep.RegionWith
import Derived.Handy
import Derived.Laws.BitsAllLaws
import Derived.Laws.BitsLemmas
import Derived.Laws.BytesArg
import Derived.Laws.IdiomStrings
import Derived.Laws.MakeOwn
import Derived.Laws.OwnMore
import Derived.Laws.Rows
import Derived.Lib.Hide
import Derived.Maps.AppendAt
import Derived.OrdersHeld
import Derived.OrdersIn
import Derived.Outline
import Derived.OwnWalk
import Derived.OwnWalkIn
import Derived.RangeFuncCalls
import Derived.RegionTactic
import Derived.TacticsInMore
import Derived.Test.YtfiedoejdikcgaaDoorChecked
import Derived.WalkKit
set_option maxRecDepth 100000
set_option linter.unusedVariables false
set_option maxRecDepth 100000
set_option linter.unusedVariables false
namespace Go.Proofs.YtfiedoejdikcgaaDoor
set_option maxRecDepth 100000
open Go Go.RowKit
/-- The bits that are laid, and those that are not in the row yet. -/
def PkS (D : Nat) (L : List Nat) (k : Nat) (B : Int) (c j : Nat) : Prop := 8 * j + c = k ∧ B % 16777216 = ((bitsX D L k % 16777216 : Nat) : Int)
theorem PkS.zero (D : Nat) (L : List Nat) : PkS D L (0 * D) 0 0 0 := by unfold PkS; rw [Nat.zero_mul]; exact ⟨rfl, rfl⟩
theorem OwnX.zero (D : Nat) (L : List Nat) (w : World) : OwnF w w.heap.size (.slice none 0 0) (rowX D L 0) := OwnF.nil _ _
attribute [local irreducible] bitsX byteX rowX packT packBit
set_option maxHeartbeats 4000000 in
theorem ppack_any (w : World) {A : Option Addr} {n cp : Nat} {l : List Int} {d : Int} (hZ : Zs w A n l) (hn : n ≤ 17592186043904) :
    Calls Tryd.prog 81 #[.int .i64 d, .slice A n cp] w fun e w' => e = .returned (.tuple #[.string (strL (packA d l).1), .int .i64 (packA d l).2]) ∧ But [] w w' := by
  have HD := Lib.hid fun W => pisdepth_any W d
  cases hd : depB d with
  | false =>
    have HR : Hid (packA d l = ([], 1)) := Lib.hid (by unfold packA; rw [if_pos hd])
    rw [HR.out]
    rw [hd] at HD
    clear hd hZ
    go_enter Tryd.func81, Tryd.ntmps81
    go_wp2_with fail
    refine (HD.out _).mono ?_
    rintro e w1 ⟨rfl, rfl⟩
    go_wp2
    go_ret2
    exact ⟨rfl, But.refl [] _⟩
  | true =>
    rw [hd] at HD
    obtain ⟨D, rfl, hdep, hD1, hD16⟩ := depB_nat hd
    obtain ⟨L, hL⟩ : ∃ L, L = l.map lowN := ⟨_, rfl⟩
    have hLl : L.length = n := by rw [hL, List.length_map]; exact hZ.1
    have HR : Hid (packA (D : Int) l = (packT D L, 0)) := Lib.hid (by unfold packA; rw [if_neg (by rw [hd]; decide), hL]; rfl)
    rw [HR.out]
    obtain ⟨t, ht⟩ : ∃ t, t = n * D := ⟨_, rfl⟩
    have ht2 : t ≤ 281474976702464 := by rw [ht]; show _ ≤ 17592186043904 * 16; exact Nat.mul_le_mul hn hD16
    have hdep2 : D = 1 ∨ D = 2 ∨ D = 4 ∨ D = 8 ∨ D = 16 := hdep
    have HDP := Lib.hid hdep2
    have HZ := Lib.hid hZ
    have HL := Lib.hid hL
    have HLL := Lib.hid hLl
    have HT := Lib.hid ht
    have HAll : Hid (rowX D L ((t + 7) / 8) = packT D L) := Lib.hid (by rw [ht, ← hLl]; exact rowX_all D L)
    have HS0 : Hid (PkS D L (0 * D) 0 0 0) := Lib.hid (PkS.zero D L)
    have HO0 : Hid (OwnF w w.heap.size (.slice none 0 0) (rowX D L 0)) := Lib.hid (OwnX.zero D L w)
    clear hd hdep hdep2 hZ hL hLl ht
    go_enter Tryd.func81, Tryd.ntmps81
    go_wp2_with fail
    refine (HD.out _).mono ?_
    rintro e wz ⟨rfl, rfl⟩
    go_wp2_with fail
    go_loopw [6, 7, 8, 16] (fun rv bv cv iv wr => ∃ (i : Nat) (B : Int) (c j : Nat), i ≤ n ∧ iv = .int .i64 i ∧ bv = .int .i64 B ∧ cv = .int .i64 c ∧ c < 8 ∧ Hid (PkS D L (i * D) B c j) ∧ Hid (OwnF wr w.heap.size rv (rowX D L j)) ∧ Hid (But [] w wr)) (fun _ _ _ iv _ => n - (intOf iv).toNat)
    case atStart => exact ⟨0, 0, 0, 0, Nat.zero_le _, rfl, rfl, rfl, by decide, HS0, HO0, Lib.hid (But.refl [] _)⟩
    case round =>
      clear HO0 HS0
      obtain ⟨i, B, c, j, hi, rfl, rfl, rfl, hc8, HS, HO, HB⟩ := hrel
      by_cases hlt : i < n
      · obtain ⟨k, hk⟩ : ∃ k, k = (i + 1) * D := ⟨_, rfl⟩
        have hkn : k = i * D + D := by rw [hk, Nat.succ_mul]
        have hkt : k ≤ t := by rw [hk, HT.out]; exact Nat.mul_le_mul_right D hlt
        have HK := Lib.hid hk
        obtain ⟨g, o, x, rfl, hg, hx, k0⟩ := (HZ.out.but HB.out).at hlt
        obtain ⟨m, hm⟩ : ∃ m, m = lowN x % 2 ^ D := ⟨_, rfl⟩
        have hxm : x % 2 ^ D = (m : Int) := by rw [hm]; exact lowN_low HDP.out
        have hml : m < 2 ^ D := by rw [hm]; exact Nat.mod_lt _ (Nat.pow_pos (by decide))
        have HLq : Hid (∀ W, Calls Tryd.prog 79 #[.int .i64 x, .int .i64 D] W fun e w' => e = .returned (.int .i64 (m : Nat)) ∧ w' = W) := Lib.hid fun W => by
          have h := plow_any W x (D := D) hD16
          rw [hxm] at h
          exact h.mono fun _ _ ⟨h1, h2⟩ => ⟨h1, h2.symm⟩
        obtain ⟨S, hS⟩ : ∃ S, S = B * 2 ^ D := ⟨_, rfl⟩
        obtain ⟨P, hP⟩ : ∃ P, P = IntKind.i64.wrap S := ⟨_, rfl⟩
        obtain ⟨Q, hQ⟩ : ∃ Q, Q = bits .or .i64 P (m : Int) := ⟨_, rfl⟩
        have hLx : L.getD i 0 = lowN x := by rw [HL.out, List.getD_eq_getElem?_getD, List.getElem?_map, hx]; rfl
        have hSk : Hid (8 * j + (c + D) = k) := Lib.hid (by have := HS.out.1; omega)
        have hQk : Hid (Q % 16777216 = ((bitsX D L k % 16777216 : Nat) : Int)) := Lib.hid (by
          have h := bits_next HDP.out HS.out.2 hml
          rw [← hS, ← hP, ← hQ] at h
          rw [h, hk, bitsX_next (by rw [HLL.out]; exact hlt), hLx, ← hm])
        have f1 : B * 2 ^ D = S := hS.symm
        have f2 : IntKind.i64.wrap S = P := hP.symm
        have f3 : bits .or .i64 P (m : Int) = Q := hQ.symm
        have i0 : (0 : Int) ≤ (i : Int) := by omega
        have i1 : (i : Int) < (n : Int) := by omega
        have v1 := wrapI_in (show D < 1000000000000000 by omega)
        have c23 : c + D ≤ 23 := by omega
        have HBd : Hid (∀ N, But [] w (wr.drewN N)) := Lib.hid fun N => HB.out.drewN N
        have HOd : Hid (∀ N, OwnF (wr.drewN N) w.heap.size u6 (rowX D L j)) := Lib.hid fun N => HO.out.but ((But.refl [] wr).drewN N)
        clear hk hkn hx hm hxm hml hS hP hQ hLx HS HO HB
        go_upto_region 8 with (fail)
        go_quiet ((go_at_call 79; exact Calls.quiet_of_same (HLq.out _)))
        have HB1 := Lib.hid (HBd.out nq)
        have HO1 := Lib.hid (HOd.out nq)
        clear f1 f2 f3 HBd HOd k0 hg HLq
        obtain ⟨W1, hW1⟩ : ∃ X, X = wr.drewN nq := ⟨_, rfl⟩
        rw [← hW1] at HB1 HO1 ⊢
        clear hW1
        obtain ⟨c1, hc1⟩ : ∃ z, z = c + D := ⟨_, rfl⟩
        have ec1 : (c : Int) + (D : Int) = (c1 : Int) := by omega
        rw [← hc1] at hSk c23
        have HSk := hSk
        clear hSk hc1
        go_wp2_with fail
        go_loopw [6, 8] (fun rv cv wx => ∃ (c j : Nat), cv = .int .i64 c ∧ c ≤ 23 ∧ Hid (8 * j + c = k) ∧ Hid (OwnF wx w.heap.size rv (rowX D L j)) ∧ Hid (But [] w wx)) (fun _ cv _ => (intOf cv).toNat)
        case atStart => exact ⟨c1, j, rfl, c23, HSk, HO1, HB1⟩
        case round =>
          clear HO1 HB1 HSk ec1 c23 v1 hc8
          obtain ⟨c2, j2, rfl, hc2, HS2, HO2, HB2⟩ := hrel
          by_cases h8 : 8 ≤ c2
          · obtain ⟨e, he⟩ : ∃ e, e = c2 - 8 := ⟨_, rfl⟩
            have ee : (c2 : Int) - 8 = (e : Int) := by omega
            have hel : e ≤ 15 := by omega
            have hj2 : 8 * j2 + 8 + e = k := by have := HS2.out; omega
            obtain ⟨y, hy⟩ : ∃ y, y = Q / 2 ^ e := ⟨_, rfl⟩
            obtain ⟨b, hb⟩ : ∃ b, b = byteX D L j2 := ⟨_, rfl⟩
            have hb2 : b < 256 := by rw [hb]; exact byteX_lt _ _ _
            have hyb : IntKind.u8.wrap y = ((UInt8.ofNat b).toNat : Int) := by
              rw [hy, bits_byte hQk.out hel, bitsX_at hj2, ← hb, UInt8.toNat_ofNat', Nat.mod_eq_of_lt hb2]
            obtain ⟨bb, hbb⟩ : ∃ bb, bb = UInt8.ofNat b := ⟨_, rfl⟩
            rw [← hbb] at hyb
            have HRN : Hid (rowX D L j2 ++ [bb] = rowX D L (j2 + 1)) := Lib.hid (by rw [rowX_next, hbb, hb])
            have HLEN := Lib.hid (rowX_length D L j2)
            have q1 : Q / 2 ^ e = y := hy.symm
            have v1 := wrapI_in (show e < 1000000000000000 by omega)
            have HS3 : Hid (8 * (j2 + 1) + e = k) := Lib.hid (by omega)
            have HJ : Hid ((rowX D L j2).length < 140737488355328) := Lib.hid (by rw [HLEN.out]; omega)
            have hec : e < c2 := by omega
            clear hy hb hbb hj2 he HS2
            go_wp2_with (at_builtin; refine wpList_append_b (w0 := w) _ rfl _ _ rfl _ (rowX D L j2) rfl (HO2.out.but ((But.refl [] _).alloc _)) (HB2.out.alloc _) bb rfl (Is.fresh _ _ _) HJ.out ?_)
            intro A9 c9 w9 HO9 HB9
            have HO8 : Hid (OwnF w9 w.heap.size (.slice A9 ((rowX D L j2).length + 1) c9) (rowX D L (j2 + 1))) := Lib.hid (by rw [← HRN.out]; exact HO9.out)
            clear HO9 HO2 HB2
            go_wp2
            go_roundw
            case rel => exact ⟨e, j2 + 1, rfl, by omega, HS3, HO8, HB9⟩
            case measure => simp [intOf] <;> omega
          · have HSK : Hid (PkS D L ((i + 1) * D) Q c2 j2) := Lib.hid (by
              refine ⟨by rw [← HK.out]; exact HS2.out, ?_⟩
              rw [← HK.out]
              exact hQk.out)
            go_wp2
            go_roundw
            case rel => exact ⟨i + 1, Q, c2, j2, by omega, by go_num, rfl, rfl, by omega, HSK, HO2, HB2⟩
            case measure => simp [intOf] <;> omega
      · obtain rfl : i = n := by omega
        have hkt : 8 * j + c = t := by rw [HS.out.1, HT.out]
        by_cases hc0 : c = 0
        · subst hc0
          have hct := HO.out.text
          rw [show j = (t + 7) / 8 by omega, HAll.out] at hct
          go_wp2
          go_ret2
          exact ⟨rfl, HB.out⟩
        · obtain ⟨e, he⟩ : ∃ e, e = 8 - c := ⟨_, rfl⟩
          have ee : (8 : Int) - (c : Int) = (e : Int) := by omega
          obtain ⟨S, hS⟩ : ∃ S, S = B * 2 ^ e := ⟨_, rfl⟩
          obtain ⟨P, hP⟩ : ∃ P, P = IntKind.i64.wrap S := ⟨_, rfl⟩
          obtain ⟨b, hb⟩ : ∃ b, b = byteX D L j := ⟨_, rfl⟩
          have hb2 : b < 256 := by rw [hb]; exact byteX_lt _ _ _
          have hyb : IntKind.u8.wrap P = ((UInt8.ofNat b).toNat : Int) := by
            rw [hP, hS, bits_last HS.out.2 (by omega), bitsX_end HS.out.1 (by rw [HLL.out]) (by omega), ← hb, UInt8.toNat_ofNat', Nat.mod_eq_of_lt hb2]
          obtain ⟨bb, hbb⟩ : ∃ bb, bb = UInt8.ofNat b := ⟨_, rfl⟩
          rw [← hbb] at hyb
          have HRN : Hid (rowX D L j ++ [bb] = packT D L) := Lib.hid (by rw [← HAll.out, show (t + 7) / 8 = j + 1 by omega, rowX_next, hbb, hb])
          have HLEN := Lib.hid (rowX_length D L j)
          have HJ : Hid ((rowX D L j).length < 140737488355328) := Lib.hid (by rw [HLEN.out]; omega)
          have q1 : B * 2 ^ e = S := hS.symm
          have q2 : IntKind.i64.wrap S = P := hP.symm
          have v1 := wrapI_in (show e < 1000000000000000 by omega)
          have p0 : 0 < c := by omega
          clear hS hP hb hbb he hkt HS
          go_wp2_with (at_builtin; refine wpList_append_b (w0 := w) _ rfl _ _ rfl _ (rowX D L j) rfl (HO.out.but ((But.refl [] _).alloc _)) (HB.out.alloc _) bb rfl (Is.fresh _ _ _) HJ.out ?_)
          intro A9 c9 w9 HO9 HB9
          have hct := HO9.out.text
          rw [HRN.out] at hct
          clear HO9
          go_wp2
          go_ret2
          exact ⟨rfl, HB9.out⟩
end Go.Proofs.YtfiedoejdikcgaaDoor
set_option maxRecDepth 100000
set_option linter.unusedVariables false
namespace Go.Proofs.YtfiedoejdikcgaaDoor
set_option maxRecDepth 100000
open Go Go.RowKit
theorem low_in {D : Nat} {x : Int} (h : x = x % 2 ^ D) : 0 ≤ x ∧ x < ((2 ^ D : Nat) : Int) := by
  have e : ((2 ^ D : Nat) : Int) = (2 : Int) ^ D := by simp
  have hp : 0 < 2 ^ D := Nat.pow_pos (by decide)
  rw [h, ← e]
  exact ⟨Int.emod_nonneg _ (by omega), Int.emod_lt_of_pos _ (by omega)⟩
theorem in_low {D : Nat} {x : Int} (h : 0 ≤ x ∧ x < ((2 ^ D : Nat) : Int)) : x % 2 ^ D = x := by
  have e : ((2 ^ D : Nat) : Int) = (2 : Int) ^ D := by simp
  rw [← e]
  exact Int.emod_eq_of_lt h.1 h.2
set_option maxHeartbeats 1000000 in
theorem pwithin_any (w : World) {A : Option Addr} {n cp D : Nat} {l : List Int} (hZ : Zs w A n l) (hn : n ≤ 1000) (hD : D ≤ 16) :
    Calls Tryd.prog 73 #[.int .i64 D, .slice A n cp] w fun e w' => e = .returned (.bool (inR D l)) ∧ w' = w := by
  have HZ := Lib.hid hZ
  have HLq : Hid (∀ W x, Calls Tryd.prog 79 #[.int .i64 x, .int .i64 D] W fun e w' => e = .returned (.int .i64 (x % 2 ^ D)) ∧ W = w') := Lib.hid fun W x => plow_any W x hD
  have HNO : Hid (∀ (i : Nat) (x : Int), l[i]? = some x → ¬ x = x % 2 ^ D → inR D l = false) := Lib.hid fun i x hx hne => inR_no hx (by
    rcases Classical.em (x < 0) with h | h
    · exact .inl h
    · refine .inr (Int.not_lt.1 fun h2 => hne ?_)
      exact (in_low ⟨by omega, h2⟩).symm)
  have HYES : Hid ((∀ (i : Nat) (x : Int), i < n → l[i]? = some x → x = x % 2 ^ D) → inR D l = true) := Lib.hid fun h => inR_yes fun i x hx => low_in (h i x (by have := (List.getElem?_eq_some_iff.1 hx).1; have := HZ.out.1; omega) hx)
  obtain ⟨r, hr⟩ : ∃ r, r = inR D l := ⟨_, rfl⟩
  rw [← hr] at HNO HYES ⊢
  obtain ⟨F, hF⟩ : ∃ F : Int → Int, F = fun x => x % 2 ^ D := ⟨_, rfl⟩
  have HLf : Hid (∀ W x, Calls Tryd.prog 79 #[.int .i64 x, .int .i64 D] W fun e w' => e = .returned (.int .i64 (F x)) ∧ W = w') := Lib.hid fun W x => by rw [hF]; exact HLq.out W x
  have HNF : Hid (∀ (i : Nat) (x : Int), l[i]? = some x → ¬ x = F x → r = false) := Lib.hid fun i x hx h => HNO.out i x hx (by rw [hF] at h; exact h)
  have HYF : Hid ((∀ (i : Nat) (x : Int), i < n → l[i]? = some x → x = F x) → r = true) := Lib.hid fun h => HYES.out fun i x hi hx => by have := h i x hi hx; rw [hF] at this; exact this
  clear hr hF hZ HLq HNO HYES
  go_enter Tryd.func73, Tryd.ntmps73
  go_wp2_with fail
  go_loopw [9] (fun iv wr => ∃ i : Nat, i ≤ n ∧ iv = .int .i64 i ∧ wr = w ∧ Hid (∀ (j : Nat) (x : Int), j < i → l[j]? = some x → x = F x)) (fun iv _ => n - (intOf iv).toNat)
  case atStart => exact ⟨0, Nat.zero_le _, rfl, rfl, Lib.hid (fun j x h => absurd h (by omega))⟩
  case round =>
    obtain ⟨i, hi, rfl, hw, HJ⟩ := hrel
    obtain rfl : w = wr := hw.symm
    by_cases hlt : i < n
    · obtain ⟨g, o, x, rfl, hg, hx, k0⟩ := HZ.out.at hlt
      have i0 : (0 : Int) ≤ (i : Int) := by omega
      have i1 : (i : Int) < (n : Int) := by omega
      obtain ⟨y, hy⟩ : ∃ y, y = F x := ⟨_, rfl⟩
      have HLx : Hid (∀ W, Calls Tryd.prog 79 #[.int .i64 x, .int .i64 D] W fun e w' => e = .returned (.int .i64 y) ∧ W = w') := Lib.hid fun W => by rw [hy]; exact HLf.out W x
      by_cases hxy : x = y
      · have HJ2 : Hid (∀ (j : Nat) (x : Int), j < i + 1 → l[j]? = some x → x = F x) := Lib.hid fun j z hj hz => by
          by_cases e : j = i
          · rw [e, hx] at hz
            cases hz
            rw [← hy]; exact hxy
          · exact HJ.out j z (by omega) hz
        subst hxy
        clear hx hy
        go_wp2_with fail
        refine (HLx.out _).mono ?_
        rintro e w2 ⟨rfl, rfl⟩
        go_wp2
        go_roundw
        case rel => exact ⟨i + 1, by omega, by go_num, by first | rfl | trivial, HJ2⟩
        case measure => simp [intOf] <;> omega
      · have HR := Lib.hid (HNF.out i x hx (by rw [← hy]; exact hxy))
        have hb : (x != y) = true := by simpa using hxy
        clear hx hy
        go_wp2_with fail
        refine (HLx.out _).mono ?_
        rintro e w2 ⟨rfl, rfl⟩
        go_wp2
        go_ret
        exact ⟨by rw [HR.out]; rfl, rfl⟩
    · obtain rfl : i = n := by omega
      have HR := Lib.hid (HYF.out HJ.out)
      go_wp2
      go_ret
      exact ⟨by rw [HR.out]; rfl, rfl⟩
end Go.Proofs.YtfiedoejdikcgaaDoor
set_option maxRecDepth 100000
set_option linter.unusedVariables false
namespace Go.Proofs.YtfiedoejdikcgaaDoor
set_option maxRecDepth 100000
open Go Go.RowKit
theorem Zs.is {w : World} {g : Nat} {l : List Int} (h : Is w g 3 (l.map fun x => Value.int .i64 x).toArray) : Zs w (some ⟨g, 0, none⟩) l.length l :=
  ⟨rfl, fun _ => ⟨g, 0, rfl, h.lt, fun i hi => by
    rw [h.cell, Nat.zero_add, List.getElem?_toArray, List.getElem?_map, List.getElem?_eq_getElem hi]
    rfl⟩⟩
set_option maxHeartbeats 1000000 in
theorem pchannel_any (w : World) {bc bd : Nat} {A : Option Addr} {m cp : Nat} {l : List Int} {d : Int} {i : Nat} (hIc : Is w bc 37 #[.slice A m cp]) (hId : Is w bd 3 #[.int .i64 d]) (hZ : Zs w A m l) (hm : 0 < m) (hm2 : m ≤ 1000) (hi : i ≤ 2) :
    Calls Tryd.prog 80 #[.int .i64 i, .pointer (some ⟨bc, 0, none⟩), .pointer (some ⟨bd, 0, none⟩)] w fun e w' => e = .returned (.int .i64 (wideA (l.getD (i % m) 0) d : Nat)) ∧ But [] w w' := by
  obtain ⟨j, hj⟩ : ∃ j, j = i % m := ⟨_, rfl⟩
  have hjm : j < m := by rw [hj]; exact Nat.mod_lt _ hm
  rw [← hj]
  obtain ⟨g, o, x, rfl, hg, hx, k0⟩ := hZ.at hjm
  obtain ⟨W0, hW0⟩ : ∃ z, z = wideA x d := ⟨_, rfl⟩
  have HW : Hid (∀ W, Calls Tryd.prog 76 #[.int .i64 x, .int .i64 d] W fun e w' => e = .returned (.int .i64 (W0 : Nat)) ∧ w' = W) := Lib.hid fun W => by
    rw [hW0]
    exact (swide_any W x d).mono fun _ _ ⟨h1, h2⟩ => ⟨h1, h2.symm⟩
  have HR : Hid (wideA (l.getD j 0) d = W0) := Lib.hid (by rw [getD_of hx, hW0])
  rw [HR.out]
  have f1 : (i : Int).tmod (m : Int) = (j : Int) := by rw [Int.tmod_eq_emod_of_nonneg (by omega), hj]; simp
  have f2 : (i : Int) % (m : Int) = (j : Int) := by rw [hj]; simp
  have t1 := wrapI_in (show j < 1000000000000000 by omega)
  have n0 : ((m : Int) == 0) = false := by simp; omega
  have n1 : ¬ (m : Int) = 0 := by omega
  have n2 : ¬ m = 0 := by omega
  have cc := hIc.cell 0
  have cd := hId.cell 0
  have lc := hIc.lt
  have ld := hId.lt
  clear hj hx hW0 hIc hId hZ
  go_enter Tryd.func80, Tryd.ntmps80
  go_upto_region 1 with (fail)
  go_quiet ((go_at_call 76; exact Calls.quiet_of_same (HW.out _)))
  go_wp2
  go_ret
  exact ⟨rfl, (But.refl [] _).drewN _⟩
theorem packA_four {a b c e : Nat} (ha : a < 65536) (hb : b < 65536) (hc : c < 65536) (he : e < 65536) : packA 16 [(a : Int), (b : Int), (c : Int), (e : Int)] = (twoB a ++ twoB b ++ twoB c ++ twoB e, 0) := by
  have h := pack16_px ha hb hc he
  unfold px4 at h
  have h2 := congrArg (fun s : ByteArray => s.data.toList) h
  simp only [strL_list] at h2
  have ln : ∀ x : Nat, x < 65536 → lowN (x : Int) = x := fun x hx => by unfold lowN; omega
  unfold packA
  rw [if_neg (by decide)]
  show (packT 16 [lowN a, lowN b, lowN c, lowN e], (0 : Int)) = _
  rw [ln a ha, ln b hb, ln c hc, ln e he, h2]
set_option maxHeartbeats 2000000 in
theorem pcoloured_any (w : World) {A : Option Addr} {m cp al : Nat} {l : List Int} {d : Int} (hZ : Zs w A m l) (hm : 0 < m) (hm2 : m ≤ 1000) (hal : al < 65536) :
    Calls Tryd.prog 75 #[.int .i64 d, .slice A m cp, .int .i64 al] w fun e w' => e = .returned (.tuple #[.string (px4 (wideA (l.getD (0 % m) 0) d) (wideA (l.getD (1 % m) 0) d) (wideA (l.getD (2 % m) 0) d) al), .int .i64 0]) ∧ But [] w w' := by
  have hB1 := (But.refl [] w).alloc (.cells #[.int .i64 d] 3)
  have hI1 := Is.fresh w 3 #[.int .i64 d]
  obtain ⟨wa, hwa⟩ : ∃ X, X = w.alloc (.cells #[.int .i64 d] 3) := ⟨_, rfl⟩
  rw [← hwa] at hB1 hI1
  have hB2 := hB1.alloc (.cells #[.slice A m cp] 37)
  have hI2 := Is.fresh wa 37 #[.slice A m cp]
  have hI3 := hI1.alloc (.cells #[.slice A m cp] 37)
  obtain ⟨wb, hwb⟩ : ∃ X, X = wa.alloc (.cells #[.slice A m cp] 37) := ⟨_, rfl⟩
  rw [← hwb] at hB2 hI2 hI3
  obtain ⟨bd, hbd⟩ : ∃ g, g = w.heap.size := ⟨_, rfl⟩
  obtain ⟨bc, hbc⟩ : ∃ g, g = wa.heap.size := ⟨_, rfl⟩
  have hbc2 : bc = w.heap.size + 1 := by rw [hbc, hwa]; simp
  rw [← hbd] at hI3
  rw [← hbc] at hI2
  have hZ2 := hZ.but hB2
  obtain ⟨W0, hW0⟩ : ∃ z, z = wideA (l.getD (0 % m) 0) d := ⟨_, rfl⟩
  obtain ⟨W1, hW1⟩ : ∃ z, z = wideA (l.getD (1 % m) 0) d := ⟨_, rfl⟩
  obtain ⟨W2, hW2⟩ : ∃ z, z = wideA (l.getD (2 % m) 0) d := ⟨_, rfl⟩
  have l0 : W0 < 65536 := by rw [hW0]; exact wideA_lt _ _
  have l1 : W1 < 65536 := by rw [hW1]; exact wideA_lt _ _
  have l2 : W2 < 65536 := by rw [hW2]; exact wideA_lt _ _
  have H0 : Hid (∀ v, But [] wb v → Calls Tryd.prog 80 #[.int .i64 0, .pointer (some ⟨bc, 0, none⟩), .pointer (some ⟨bd, 0, none⟩)] v fun e w' => e = .returned (.int .i64 (W0 : Nat)) ∧ But [] v w') := Lib.hid fun v hv => by
    rw [hW0]; exact pchannel_any v (i := 0) (hI2.but hv (by simp)) (hI3.but hv (by simp)) (hZ2.but hv) hm hm2 (by omega)
  have H1 : Hid (∀ v, But [] wb v → Calls Tryd.prog 80 #[.int .i64 1, .pointer (some ⟨bc, 0, none⟩), .pointer (some ⟨bd, 0, none⟩)] v fun e w' => e = .returned (.int .i64 (W1 : Nat)) ∧ But [] v w') := Lib.hid fun v hv => by
    rw [hW1]; exact pchannel_any v (i := 1) (hI2.but hv (by simp)) (hI3.but hv (by simp)) (hZ2.but hv) hm hm2 (by omega)
  have H2 : Hid (∀ v, But [] wb v → Calls Tryd.prog 80 #[.int .i64 2, .pointer (some ⟨bc, 0, none⟩), .pointer (some ⟨bd, 0, none⟩)] v fun e w' => e = .returned (.int .i64 (W2 : Nat)) ∧ But [] v w') := Lib.hid fun v hv => by
    rw [hW2]; exact pchannel_any v (i := 2) (hI2.but hv (by simp)) (hI3.but hv (by simp)) (hZ2.but hv) hm hm2 (by omega)
  have HB2 := Lib.hid hB2
  have HPK : Hid (∀ (v : World) (g : Nat), Is v g 3 #[.int .i64 (W0 : Nat), .int .i64 (W1 : Nat), .int .i64 (W2 : Nat), .int .i64 (al : Nat)] → Calls Tryd.prog 81 #[.int .i64 16, .slice (some ⟨g, 0, none⟩) 4 4] v fun e w' => e = .returned (.tuple #[.string (px4 W0 W1 W2 al), .int .i64 0]) ∧ But [] v w') := Lib.hid fun v g hg => by
    have h := ppack_any v (d := 16) (cp := 4) (n := 4) (l := [(W0 : Int), (W1 : Int), (W2 : Int), (al : Int)]) (Zs.is (l := [(W0 : Int), (W1 : Int), (W2 : Int), (al : Int)]) hg) (by decide)
    rw [packA_four l0 l1 l2 hal] at h
    exact h
  obtain ⟨R, hR⟩ : ∃ z, z = px4 W0 W1 W2 al := ⟨_, rfl⟩
  rw [← hW0, ← hW1, ← hW2]
  rw [← hR] at HPK ⊢
  clear hZ hB1 hI1 hB2 hI2 hI3 hZ2 hW0 hW1 hW2 hR
  go_enter Tryd.func75, Tryd.ntmps75
  go_upto_region 2 with (fail)
  rw [← hwa, ← hwb, ← hbc2, ← hbd]
  clear hwa hwb hbc hbc2 hbd
  go_wp2_with fail
  refine (H0.out _ (But.refl [] _)).mono ?_
  rintro e w1 ⟨rfl, hB1⟩
  have HB1 := Lib.hid hB1
  clear hB1
  go_wp2_with fail
  refine (H1.out _ HB1.out).mono ?_
  rintro e w2 ⟨rfl, hB2⟩
  have HB3 := Lib.hid (HB1.out.trans hB2)
  clear hB2 HB1
  go_wp2_with fail
  refine (H2.out _ HB3.out).mono ?_
  rintro e w3 ⟨rfl, hB3⟩
  have HB4 := Lib.hid (HB2.out.trans (HB3.out.trans hB3))
  clear hB3 HB3
  go_wp2_with fail
  refine (HPK.out _ _ (Is.fresh _ _ _)).mono ?_
  rintro e w4 ⟨rfl, hB4⟩
  have HB5 := Lib.hid ((HB4.out.alloc _).trans hB4)
  clear hB4 HB4
  go_wp2
  go_ret2
  exact ⟨rfl, HB5.out⟩
end Go.Proofs.YtfiedoejdikcgaaDoor
set_option maxRecDepth 100000
set_option linter.unusedVariables false
namespace Go.Proofs.YtfiedoejdikcgaaDoor
set_option maxRecDepth 100000
open Go Go.RowKit
theorem unpackA_16 {tr : ByteArray} {n : Nat} (hn : n ≤ 4096) (h : tr.size = 2 * n) : unpackA tr 16 n = (unpackT tr.data.toList 16 n, 0) := by
  unfold unpackA
  rw [if_neg (by rintro (h | h | h); exact absurd h (by decide); omega; omega), if_neg (by omega)]
  rfl
theorem sameAt_16 {D n i : Nat} {tr : ByteArray} {l : List Int} (hD : D ≤ 16) {x y : Int} {v : Nat} (hi : i < n) (hv : (unpackT tr.data.toList 16 n)[i]? = some v) (hx : l[i]? = some x) (hy : ((v : Nat) : Int) % 2 ^ D = y) : sameAt D tr l i = decide (y = x) := by
  have e : v = sampleN tr.data.toList 16 i := by
    unfold unpackT at hv
    rw [List.getElem?_map, List.getElem?_range hi] at hv
    exact (Option.some.inj hv).symm
  unfold sameAt
  rw [← sample_two, ← e, getD_of hx, ← hy]
  congr 1
set_option maxHeartbeats 2000000 in
theorem pclear_any (w : World) {a b c e0 : Int} {D : Nat} {pal tr : ByteArray} {has : Bool} {A : Option Addr} {n cp : Nat} {l : List Int} (hD16 : D ≤ 16) (hZ : Zs w A n l) (hn : n ≤ 1000) (ht : tr.size ≤ 140737488351232) :
    Calls Tryd.prog 77 #[.agg #[.int .i64 a, .int .i64 b, .int .i64 D, .int .i64 c, .int .i64 e0, .string pal, .string tr, .bool has], .slice A n cp] w fun r w' => r = .returned (.bool (sameS D tr has l)) ∧ But [] w w' := by
  have hln := hZ.1
  have hA := (But.refl [] w).alloc (.cells #[.int .i64 a, .int .i64 b, .int .i64 D, .int .i64 c, .int .i64 e0, .string pal, .string tr, .bool has] 31)
  obtain ⟨b0, hb0⟩ : ∃ g, g = w.heap.size := ⟨_, rfl⟩
  obtain ⟨w1, hw1⟩ : ∃ X, X = w.alloc (.cells #[.int .i64 a, .int .i64 b, .int .i64 D, .int .i64 c, .int .i64 e0, .string pal, .string tr, .bool has] 31) := ⟨_, rfl⟩
  have hI : Is w1 b0 31 #[.int .i64 a, .int .i64 b, .int .i64 D, .int .i64 c, .int .i64 e0, .string pal, .string tr, .bool has] := by rw [hw1, hb0]; exact Is.fresh _ _ _
  rw [← hw1] at hA
  have HA := Lib.hid hA
  have HC : Hid (∀ v, But [] w1 v → v.cell? ⟨b0, 0, none⟩ = some (.int .i64 a) ∧ v.cell? ⟨b0, 1, none⟩ = some (.int .i64 b) ∧ v.cell? ⟨b0, 2, none⟩ = some (.int .i64 D) ∧ v.cell? ⟨b0, 3, none⟩ = some (.int .i64 c) ∧ v.cell? ⟨b0, 4, none⟩ = some (.int .i64 e0) ∧ v.cell? ⟨b0, 5, none⟩ = some (.string pal) ∧ v.cell? ⟨b0, 6, none⟩ = some (.string tr) ∧ v.cell? ⟨b0, 7, none⟩ = some (.bool has) ∧ b0 < v.heap.size) := Lib.hid fun v hv => by
    have hh := hI.but hv (by simp)
    exact ⟨hh.cell 0, hh.cell 1, hh.cell 2, hh.cell 3, hh.cell 4, hh.cell 5, hh.cell 6, hh.cell 7, hh.lt⟩
  have HZ : Hid (∀ v, But [] w1 v → Zs v A n l) := Lib.hid fun v hv => hZ.but (hA.trans hv)
  have HLq : Hid (∀ W (x : Int), Calls Tryd.prog 79 #[.int .i64 x, .int .i64 D] W fun e w' => e = .returned (.int .i64 (x % 2 ^ D)) ∧ w' = W) := Lib.hid fun W x => (plow_any W x hD16).mono fun _ _ ⟨h1, h2⟩ => ⟨h1, h2.symm⟩
  cases has with
  | false =>
    have HR := Lib.hid (sameS_no (D := D) (tr := tr) (l := l) (.inl (rfl : false = false)))
    rw [HR.out]
    clear hln hZ
    have c0 := hI.cell 0
    have c6 := hI.cell 6
    have c7 := hI.cell 7
    clear hA hI
    go_enter Tryd.func77, Tryd.ntmps77
    go_upto_region 1 with (fail)
    rw [← hw1, ← hb0]
    clear c0 c6 c7 hw1 hb0
    obtain ⟨c0, c1, c2, c3, c4, c5, c6, c7, hgl⟩ := HC.out w1 (But.refl [] _)
    go_wp2
    go_ret
    exact ⟨rfl, HA.out⟩
  | true =>
    by_cases hsz : tr.size = 2 * n
    · have HSZ := Lib.hid hsz
      have HLN := Lib.hid hln
      have b1 : ((tr.size : Int) != 2 * (n : Int)) = false := by simp; omega
      have b2 : (tr.size : Int) = 2 * (n : Int) := by omega
      have HR : Hid ((∀ i, i < n → sameAt D tr l i = true) → sameS D tr true l = true) := Lib.hid fun h => by
        unfold sameS
        rw [decide_eq_true (by rw [HLN.out]; exact hsz), Bool.true_and, Bool.true_and, List.all_eq_true]
        intro i hi
        exact h i (by rw [← HLN.out]; exact List.mem_range.1 hi)
      have HRF : Hid (∀ i, i < n → sameAt D tr l i = false → sameS D tr true l = false) := Lib.hid fun i hi h => by
        unfold sameS
        rw [Bool.and_eq_false_iff]
        right
        rw [List.all_eq_false]
        exact ⟨i, List.mem_range.2 (by rw [HLN.out]; exact hi), by rw [h]; decide⟩
      obtain ⟨R, hR⟩ : ∃ R, R = sameS D tr true l := ⟨_, rfl⟩
      rw [← hR] at HR HRF ⊢
      obtain ⟨L, hL⟩ : ∃ L, L = unpackT tr.data.toList 16 n := ⟨_, rfl⟩
      have hLn : L.length = n := by rw [hL]; exact unpackT_length _ _ _
      have HUN : Hid (∀ v, Calls Tryd.prog 64 #[.string tr, .int .i64 16, .int .i64 (n : Nat)] v fun e w' => ∃ A cap, e = .returned (.tuple #[.slice A n cap, .int .i64 0]) ∧ Nums w' A n L ∧ n ≤ cap ∧ But [] v w') := Lib.hid fun v => by
        have h := punpack_any v (s := tr) (d := 16) (n := (n : Int)) ht
        rw [unpackA_16 (by omega) hsz, ← hL] at h
        unfold GotN at h
        rw [hLn] at h
        exact h
      have HSA : Hid (∀ (i : Nat) (x y : Int) (v : Nat), i < n → L[i]? = some v → l[i]? = some x → ((v : Nat) : Int) % 2 ^ D = y → sameAt D tr l i = decide (y = x)) := Lib.hid fun i x y v hi hv hx hy => sameAt_16 hD16 hi (by rw [← hL]; exact hv) hx hy
      clear hln hZ hsz hR hL hLn
      have c0 := hI.cell 0
      have c6 := hI.cell 6
      have c7 := hI.cell 7
      clear hA hI
      go_enter Tryd.func77, Tryd.ntmps77
      go_upto_region 1 with (fail)
      rw [← hw1, ← hb0]
      clear c0 c6 c7 hw1 hb0
      obtain ⟨c0, c1, c2, c3, c4, c5, c6, c7, hgl⟩ := HC.out w1 (But.refl [] _)
      go_wp2_with fail
      refine (HUN.out _).mono ?_
      rintro e w2 ⟨A2, cap2, rfl, hN2, hcap2, hB2⟩
      have HN2 := Lib.hid hN2
      have HB2 := Lib.hid hB2
      clear hN2 hB2 c0 c1 c2 c3 c4 c5 c6 c7 hgl b1 b2
      go_wp2_with fail
      go_loopw [31] (fun iv wr => ∃ i : Nat, i ≤ n ∧ iv = .int .i64 i ∧ Hid (∀ j, j < i → sameAt D tr l j = true) ∧ Hid (But [] w2 wr)) (fun iv _ => n - (intOf iv).toNat)
      case atStart => exact ⟨0, Nat.zero_le _, rfl, Lib.hid (fun j h => absurd h (by omega)), Lib.hid (But.refl [] _)⟩
      case round =>
        obtain ⟨i, hi, rfl, HJ, HB⟩ := hrel
        by_cases hlt : i < n
        · obtain ⟨g, o, x, hAx, hg, hx, k0⟩ := (HZ.out _ (HB2.out.trans HB.out)).at hlt
          subst hAx
          obtain ⟨g2, o2, v, hAv, hg2, hv, k2⟩ := (HN2.out.but HB.out).at hlt
          subst hAv
          obtain ⟨y, hy⟩ : ∃ y, y = (v : Int) % 2 ^ D := ⟨_, rfl⟩
          have HLx : Hid (∀ W, Calls Tryd.prog 79 #[.int .i64 (v : Nat), .int .i64 D] W fun e w' => e = .returned (.int .i64 y) ∧ w' = W) := Lib.hid fun W => by rw [hy]; exact HLq.out W (v : Int)
          have HS := Lib.hid (HSA.out i x y v hlt hv hx hy.symm)
          obtain ⟨c0, c1, c2, c3, c4, c5, c6, c7, hgl⟩ := HC.out _ (HB2.out.trans HB.out)
          have i0 : (0 : Int) ≤ (i : Int) := by omega
          have i1 : (i : Int) < (n : Int) := by omega
          have HBd : Hid (∀ N, But [] w2 (wr.drewN N)) := Lib.hid fun N => HB.out.drewN N
          clear hy hx hv
          by_cases hxy : y = x
          · subst hxy
            have HJ2 : Hid (∀ j, j < i + 1 → sameAt D tr l j = true) := Lib.hid fun j hj => by
              by_cases e : j = i
              · rw [e, HS.out]; exact decide_eq_true rfl
              · exact HJ.out j (by omega)
            clear HJ HB HS
            go_upto_region 7 with (fail)
            go_quiet ((go_at_call 79; exact Calls.quiet_of_same (HLx.out _)))
            go_wp2
            go_roundw
            case rel => exact ⟨i + 1, by omega, by go_num, HJ2, HBd.out _⟩
            case measure => simp [intOf] <;> omega
          · have HE := Lib.hid (HRF.out i hlt (by rw [HS.out]; exact decide_eq_false hxy))
            have q1 : (y != x) = true := by simpa using hxy
            clear HJ HB HS
            go_upto_region 7 with (fail)
            go_quiet ((go_at_call 79; exact Calls.quiet_of_same (HLx.out _)))
            go_wp2
            go_ret
            exact ⟨by rw [HE.out]; rfl, HA.out.trans (HB2.out.trans (HBd.out _))⟩
        · obtain rfl : n = i := by omega
          have HE := Lib.hid (HR.out HJ.out)
          go_wp2
          go_ret
          exact ⟨by rw [HE.out]; rfl, HA.out.trans (HB2.out.trans HB.out)⟩
    · have HR := Lib.hid (sameS_no (D := D) (tr := tr) (has := true) (l := l) (.inr (by rw [hln]; exact hsz)))
      rw [HR.out]
      have b1 : ((tr.size : Int) != 2 * (n : Int)) = true := by simp; omega
      have b2 : ¬ (tr.size : Int) = 2 * (n : Int) := by omega
      clear hln hZ
      have c0 := hI.cell 0
      have c6 := hI.cell 6
      have c7 := hI.cell 7
      clear hA hI
      go_enter Tryd.func77, Tryd.ntmps77
      go_upto_region 1 with (fail)
      rw [← hw1, ← hb0]
      clear c0 c6 c7 hw1 hb0
      obtain ⟨c0, c1, c2, c3, c4, c5, c6, c7, hgl⟩ := HC.out w1 (But.refl [] _)
      go_wp2
      go_ret
      exact ⟨rfl, HA.out⟩
end Go.Proofs.YtfiedoejdikcgaaDoor
