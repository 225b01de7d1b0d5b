/- The program's row of samples. -/
import Derived.Test.YtfibffcmbnlomaaSbL
set_option maxRecDepth 100000
set_option linter.unusedVariables false
namespace Go.Proofs.Ytfibffcmbnlomaa
set_option maxRecDepth 100000
open Go Go.RowKit
/-- The bits that are laid, and those that are not in the row yet. -/
def PkS (D : Nat) (L : List Nat) (k : Nat) (B : Int) (c j : Nat) : Prop := 8 * j + c = k ∧ B % 16777216 = ((bitsX D L k % 16777216 : Nat) : Int)
theorem PkS.zero (D : Nat) (L : List Nat) : PkS D L (0 * D) 0 0 0 := by unfold PkS; rw [Nat.zero_mul]; exact ⟨rfl, rfl⟩
theorem OwnX.zero (D : Nat) (L : List Nat) (w : World) : OwnF w w.heap.size (.slice none 0 0) (rowX D L 0) := OwnF.nil _ _
attribute [local irreducible] bitsX byteX rowX packT packBit
set_option maxHeartbeats 4000000 in
theorem ppack_any (w : World) {A : Option Addr} {n cp : Nat} {l : List Int} {d : Int} (hZ : Zs w A n l) (hn : n ≤ 17592186043904) :
    Calls Try.prog 15 #[.int .i64 d, .slice A n cp] w fun e w' => e = .returned (.tuple #[.string (strL (packA d l).1), .int .i64 (packA d l).2]) ∧ But [] w w' := by
  have HD := Lib.hid fun W => pisdepth_any W d
  cases hd : depB d with
  | false =>
    have HR : Hid (packA d l = ([], 1)) := Lib.hid (by unfold packA; rw [if_pos hd])
    rw [HR.out]
    rw [hd] at HD
    clear hd hZ
    go_enter Try.func15, Try.ntmps15
    go_wp2_with fail
    refine (HD.out _).mono ?_
    rintro e w1 ⟨rfl, rfl⟩
    go_wp2
    go_ret2
    exact ⟨rfl, But.refl [] _⟩
  | true =>
    rw [hd] at HD
    obtain ⟨D, rfl, hdep, hD1, hD16⟩ := depB_nat hd
    obtain ⟨L, hL⟩ : ∃ L, L = l.map lowN := ⟨_, rfl⟩
    have hLl : L.length = n := by rw [hL, List.length_map]; exact hZ.1
    have HR : Hid (packA (D : Int) l = (packT D L, 0)) := Lib.hid (by unfold packA; rw [if_neg (by rw [hd]; decide), hL]; rfl)
    rw [HR.out]
    obtain ⟨t, ht⟩ : ∃ t, t = n * D := ⟨_, rfl⟩
    have ht2 : t ≤ 281474976702464 := by rw [ht]; show _ ≤ 17592186043904 * 16; exact Nat.mul_le_mul hn hD16
    have hdep2 : D = 1 ∨ D = 2 ∨ D = 4 ∨ D = 8 ∨ D = 16 := hdep
    have HDP := Lib.hid hdep2
    have HZ := Lib.hid hZ
    have HL := Lib.hid hL
    have HLL := Lib.hid hLl
    have HT := Lib.hid ht
    have HAll : Hid (rowX D L ((t + 7) / 8) = packT D L) := Lib.hid (by rw [ht, ← hLl]; exact rowX_all D L)
    have HS0 : Hid (PkS D L (0 * D) 0 0 0) := Lib.hid (PkS.zero D L)
    have HO0 : Hid (OwnF w w.heap.size (.slice none 0 0) (rowX D L 0)) := Lib.hid (OwnX.zero D L w)
    clear hd hdep hdep2 hZ hL hLl ht
    go_enter Try.func15, Try.ntmps15
    go_wp2_with fail
    refine (HD.out _).mono ?_
    rintro e wz ⟨rfl, rfl⟩
    go_wp2_with fail
    go_loopw [6, 7, 8, 16] (fun rv bv cv iv wr => ∃ (i : Nat) (B : Int) (c j : Nat), i ≤ n ∧ iv = .int .i64 i ∧ bv = .int .i64 B ∧ cv = .int .i64 c ∧ c < 8 ∧ Hid (PkS D L (i * D) B c j) ∧ Hid (OwnF wr w.heap.size rv (rowX D L j)) ∧ Hid (But [] w wr)) (fun _ _ _ iv _ => n - (intOf iv).toNat)
    case atStart => exact ⟨0, 0, 0, 0, Nat.zero_le _, rfl, rfl, rfl, by decide, HS0, HO0, Lib.hid (But.refl [] _)⟩
    case round =>
      clear HO0 HS0
      obtain ⟨i, B, c, j, hi, rfl, rfl, rfl, hc8, HS, HO, HB⟩ := hrel
      by_cases hlt : i < n
      · obtain ⟨k, hk⟩ : ∃ k, k = (i + 1) * D := ⟨_, rfl⟩
        have hkn : k = i * D + D := by rw [hk, Nat.succ_mul]
        have hkt : k ≤ t := by rw [hk, HT.out]; exact Nat.mul_le_mul_right D hlt
        have HK := Lib.hid hk
        obtain ⟨g, o, x, rfl, hg, hx, k0⟩ := (HZ.out.but HB.out).at hlt
        obtain ⟨m, hm⟩ : ∃ m, m = lowN x % 2 ^ D := ⟨_, rfl⟩
        have hxm : x % 2 ^ D = (m : Int) := by rw [hm]; exact lowN_low HDP.out
        have hml : m < 2 ^ D := by rw [hm]; exact Nat.mod_lt _ (Nat.pow_pos (by decide))
        have HLq : Hid (∀ W, Calls Try.prog 24 #[.int .i64 x, .int .i64 D] W fun e w' => e = .returned (.int .i64 (m : Nat)) ∧ w' = W) := Lib.hid fun W => by
          have h := plow_any W x (D := D) hD16
          rw [hxm] at h
          exact h.mono fun _ _ ⟨h1, h2⟩ => ⟨h1, h2.symm⟩
        obtain ⟨S, hS⟩ : ∃ S, S = B * 2 ^ D := ⟨_, rfl⟩
        obtain ⟨P, hP⟩ : ∃ P, P = IntKind.i64.wrap S := ⟨_, rfl⟩
        obtain ⟨Q, hQ⟩ : ∃ Q, Q = bits .or .i64 P (m : Int) := ⟨_, rfl⟩
        have hLx : L.getD i 0 = lowN x := by rw [HL.out, List.getD_eq_getElem?_getD, List.getElem?_map, hx]; rfl
        have hSk : Hid (8 * j + (c + D) = k) := Lib.hid (by have := HS.out.1; omega)
        have hQk : Hid (Q % 16777216 = ((bitsX D L k % 16777216 : Nat) : Int)) := Lib.hid (by
          have h := bits_next HDP.out HS.out.2 hml
          rw [← hS, ← hP, ← hQ] at h
          rw [h, hk, bitsX_next (by rw [HLL.out]; exact hlt), hLx, ← hm])
        have f1 : B * 2 ^ D = S := hS.symm
        have f2 : IntKind.i64.wrap S = P := hP.symm
        have f3 : bits .or .i64 P (m : Int) = Q := hQ.symm
        have i0 : (0 : Int) ≤ (i : Int) := by omega
        have i1 : (i : Int) < (n : Int) := by omega
        have v1 := wrapI_in (show D < 1000000000000000 by omega)
        have c23 : c + D ≤ 23 := by omega
        have HBd : Hid (∀ N, But [] w (wr.drewN N)) := Lib.hid fun N => HB.out.drewN N
        have HOd : Hid (∀ N, OwnF (wr.drewN N) w.heap.size u6 (rowX D L j)) := Lib.hid fun N => HO.out.but ((But.refl [] wr).drewN N)
        clear hk hkn hx hm hxm hml hS hP hQ hLx HS HO HB
        go_upto_region 8 with (fail)
        go_quiet ((go_at_call 24; exact Calls.quiet_of_same (HLq.out _)))
        have HB1 := Lib.hid (HBd.out nq)
        have HO1 := Lib.hid (HOd.out nq)
        clear f1 f2 f3 HBd HOd k0 hg HLq
        obtain ⟨W1, hW1⟩ : ∃ X, X = wr.drewN nq := ⟨_, rfl⟩
        rw [← hW1] at HB1 HO1 ⊢
        clear hW1
        obtain ⟨c1, hc1⟩ : ∃ z, z = c + D := ⟨_, rfl⟩
        have ec1 : (c : Int) + (D : Int) = (c1 : Int) := by omega
        rw [← hc1] at hSk c23
        have HSk := hSk
        clear hSk hc1
        go_wp2_with fail
        go_loopw [6, 8] (fun rv cv wx => ∃ (c j : Nat), cv = .int .i64 c ∧ c ≤ 23 ∧ Hid (8 * j + c = k) ∧ Hid (OwnF wx w.heap.size rv (rowX D L j)) ∧ Hid (But [] w wx)) (fun _ cv _ => (intOf cv).toNat)
        case atStart => exact ⟨c1, j, rfl, c23, HSk, HO1, HB1⟩
        case round =>
          clear HO1 HB1 HSk ec1 c23 v1 hc8
          obtain ⟨c2, j2, rfl, hc2, HS2, HO2, HB2⟩ := hrel
          by_cases h8 : 8 ≤ c2
          · obtain ⟨e, he⟩ : ∃ e, e = c2 - 8 := ⟨_, rfl⟩
            have ee : (c2 : Int) - 8 = (e : Int) := by omega
            have hel : e ≤ 15 := by omega
            have hj2 : 8 * j2 + 8 + e = k := by have := HS2.out; omega
            obtain ⟨y, hy⟩ : ∃ y, y = Q / 2 ^ e := ⟨_, rfl⟩
            obtain ⟨b, hb⟩ : ∃ b, b = byteX D L j2 := ⟨_, rfl⟩
            have hb2 : b < 256 := by rw [hb]; exact byteX_lt _ _ _
            have hyb : IntKind.u8.wrap y = ((UInt8.ofNat b).toNat : Int) := by
              rw [hy, bits_byte hQk.out hel, bitsX_at hj2, ← hb, UInt8.toNat_ofNat', Nat.mod_eq_of_lt hb2]
            obtain ⟨bb, hbb⟩ : ∃ bb, bb = UInt8.ofNat b := ⟨_, rfl⟩
            rw [← hbb] at hyb
            have HRN : Hid (rowX D L j2 ++ [bb] = rowX D L (j2 + 1)) := Lib.hid (by rw [rowX_next, hbb, hb])
            have HLEN := Lib.hid (rowX_length D L j2)
            have q1 : Q / 2 ^ e = y := hy.symm
            have v1 := wrapI_in (show e < 1000000000000000 by omega)
            have HS3 : Hid (8 * (j2 + 1) + e = k) := Lib.hid (by omega)
            have HJ : Hid ((rowX D L j2).length < 140737488355328) := Lib.hid (by rw [HLEN.out]; omega)
            have hec : e < c2 := by omega
            clear hy hb hbb hj2 he HS2
            go_wp2_with (at_builtin; refine wpList_append_b (w0 := w) _ rfl _ _ rfl _ (rowX D L j2) rfl (HO2.out.but ((But.refl [] _).alloc _)) (HB2.out.alloc _) bb rfl (Is.fresh _ _ _) HJ.out ?_)
            intro A9 c9 w9 HO9 HB9
            have HO8 : Hid (OwnF w9 w.heap.size (.slice A9 ((rowX D L j2).length + 1) c9) (rowX D L (j2 + 1))) := Lib.hid (by rw [← HRN.out]; exact HO9.out)
            clear HO9 HO2 HB2
            go_wp2
            go_roundw
            case rel => exact ⟨e, j2 + 1, rfl, by omega, HS3, HO8, HB9⟩
            case measure => simp [intOf] <;> omega
          · have HSK : Hid (PkS D L ((i + 1) * D) Q c2 j2) := Lib.hid (by
              refine ⟨by rw [← HK.out]; exact HS2.out, ?_⟩
              rw [← HK.out]
              exact hQk.out)
            go_wp2
            go_roundw
            case rel => exact ⟨i + 1, Q, c2, j2, by omega, by go_num, rfl, rfl, by omega, HSK, HO2, HB2⟩
            case measure => simp [intOf] <;> omega
      · obtain rfl : i = n := by omega
        have hkt : 8 * j + c = t := by rw [HS.out.1, HT.out]
        by_cases hc0 : c = 0
        · subst hc0
          have hct := HO.out.text
          rw [show j = (t + 7) / 8 by omega, HAll.out] at hct
          go_wp2
          go_ret2
          exact ⟨rfl, HB.out⟩
        · obtain ⟨e, he⟩ : ∃ e, e = 8 - c := ⟨_, rfl⟩
          have ee : (8 : Int) - (c : Int) = (e : Int) := by omega
          obtain ⟨S, hS⟩ : ∃ S, S = B * 2 ^ e := ⟨_, rfl⟩
          obtain ⟨P, hP⟩ : ∃ P, P = IntKind.i64.wrap S := ⟨_, rfl⟩
          obtain ⟨b, hb⟩ : ∃ b, b = byteX D L j := ⟨_, rfl⟩
          have hb2 : b < 256 := by rw [hb]; exact byteX_lt _ _ _
          have hyb : IntKind.u8.wrap P = ((UInt8.ofNat b).toNat : Int) := by
            rw [hP, hS, bits_last HS.out.2 (by omega), bitsX_end HS.out.1 (by rw [HLL.out]) (by omega), ← hb, UInt8.toNat_ofNat', Nat.mod_eq_of_lt hb2]
          obtain ⟨bb, hbb⟩ : ∃ bb, bb = UInt8.ofNat b := ⟨_, rfl⟩
          rw [← hbb] at hyb
          have HRN : Hid (rowX D L j ++ [bb] = packT D L) := Lib.hid (by rw [← HAll.out, show (t + 7) / 8 = j + 1 by omega, rowX_next, hbb, hb])
          have HLEN := Lib.hid (rowX_length D L j)
          have HJ : Hid ((rowX D L j).length < 140737488355328) := Lib.hid (by rw [HLEN.out]; omega)
          have q1 : B * 2 ^ e = S := hS.symm
          have q2 : IntKind.i64.wrap S = P := hP.symm
          have v1 := wrapI_in (show e < 1000000000000000 by omega)
          have p0 : 0 < c := by omega
          clear hS hP hb hbb he hkt HS
          go_wp2_with (at_builtin; refine wpList_append_b (w0 := w) _ rfl _ _ rfl _ (rowX D L j) rfl (HO.out.but ((But.refl [] _).alloc _)) (HB.out.alloc _) bb rfl (Is.fresh _ _ _) HJ.out ?_)
          intro A9 c9 w9 HO9 HB9
          have hct := HO9.out.text
          rw [HRN.out] at hct
          clear HO9
          go_wp2
          go_ret2
          exact ⟨rfl, HB9.out⟩
end Go.Proofs.Ytfibffcmbnlomaa
