/- The walks of the statements on what is seen of a pixel, and on the bytes of a row. -/
import Derived.Test.YtfibffcmbnlomaaSbX
import Derived.BigQuiet
import Derived.Deep.RegionWith
import Derived.Test.YtfibffcmbnlomaaRegZ
set_option maxRecDepth 100000
set_option linter.unusedVariables false
namespace Go.Proofs.Ytfibffcmbnlomaa
set_option maxRecDepth 100000
open Go Go.RowKit
set_option maxHeartbeats 2000000 in
theorem samplesRow_walk (haw : Awk11) {d : Int} {A : Option Addr} {len cap : Nat} {l : List Int} (hd : (Lit.int .i64 d).wf = true) {w : World} (hl : Zs w A len l) (hb : len * 8 ≤ 140737488351232) (hcap : len ≤ cap) (hnil : A = none → cap = 0) (hf : ZFit l) :
    Calls Try.prog 10 #[.int .i64 d, .slice A len cap] w fun e w' => e = .returned (.bool true) ∧ Below w.heap.size w w' := by
  have HA := Lib.hid haw
  have hlen := hl.1
  have hp0 := ppack_any w (cp := cap) (d := d) hl (by omega)
  clear haw hd hnil hf
  cases hd : depB d with
  | false =>
    have hpk : packA d l = ([], 1) := by unfold packA; rw [if_pos hd]
    have HP : Hid (Calls Try.prog 15 #[.int .i64 d, .slice A len cap] w fun e w' => e = .returned (.tuple #[.string ⟨#[]⟩, .int .i64 1]) ∧ But [] w w') := Lib.hid (by rw [hpk] at hp0; exact hp0)
    clear hl hlen hd hpk hp0
    go_enter Try.func10, Try.ntmps10
    go_wp2_with fail
    refine HP.out.mono ?_
    rintro e w2 ⟨rfl, hB2⟩
    have HB2 := Lib.hid hB2
    clear hB2
    go_wp2_with fail
    refine (HA.out.use _).mono ?_
    rintro e w4 ⟨rfl, hB4⟩
    have HB4 := Lib.hid (HB2.out.trans hB4)
    clear hB4
    go_wp2
    go_ret
    exact ⟨rfl, HB4.out.belowS⟩
  | true =>
    obtain ⟨D, rfl, hdep, hD1, hD16⟩ := depB_nat hd
    obtain ⟨L, hL⟩ : ∃ L, L = l.map lowN := ⟨_, rfl⟩
    have hLl : L.length = len := by rw [hL, List.length_map]; exact hlen
    obtain ⟨R, hR⟩ : ∃ R, R = strL (packT D L) := ⟨_, rfl⟩
    have hpk : packA (D : Int) l = (packT D L, 0) := by unfold packA; rw [if_neg (by rw [hd]; decide), hL]; rfl
    have HP : Hid (Calls Try.prog 15 #[.int .i64 D, .slice A len cap] w fun e w' => e = .returned (.tuple #[.string R, .int .i64 0]) ∧ But [] w w') := Lib.hid (by rw [hpk] at hp0; rw [hR]; exact hp0)
    by_cases hbig : 4000 < len
    · clear hl hlen hd hdep hpk hp0 hL hLl hR
      go_enter Try.func10, Try.ntmps10
      go_wp2_with fail
      refine HP.out.mono ?_
      rintro e w2 ⟨rfl, hB2⟩
      have HB2 := Lib.hid hB2
      clear hB2
      go_wp2_with fail
      refine (HA.out.use _).mono ?_
      rintro e w4 ⟨rfl, hB4⟩
      have HB4 := Lib.hid (HB2.out.trans hB4)
      clear hB4
      go_wp2
      go_ret
      exact ⟨rfl, HB4.out.belowS⟩
    obtain ⟨t, ht⟩ : ∃ t, t = len * D := ⟨_, rfl⟩
    have e0 : (len : Int) * (D : Int) = (t : Int) := by rw [ht, Int.natCast_mul]
    have ht2 : t ≤ 64000 := by rw [ht]; show _ ≤ 4000 * 16; exact Nat.mul_le_mul (by omega) hD16
    obtain ⟨T, hT⟩ : ∃ T, T = (t + 7) / 8 := ⟨_, rfl⟩
    have hRs : R.size = T := by rw [hR, strL_size, packT_length, hLl, ← ht, hT]
    have g1 : ((t : Int) + 7).tdiv 8 = (T : Int) := by rw [Int.tdiv_eq_ediv_of_nonneg (by omega)]; omega
    have g2 : ((t : Int) + 7) / 8 = (T : Int) := by omega
    have vt := wrapI_in (show t < 1000000000000000 by omega)
    have vT := wrapI_in (show T < 1000000000000000 by omega)
    obtain ⟨m, hm⟩ : ∃ m, m = t % 8 := ⟨_, rfl⟩
    have g3 : (t : Int).tmod 8 = (m : Int) := by rw [Int.tmod_eq_emod_of_nonneg (by omega)]; omega
    have g4 : (t : Int) % 8 = (m : Int) := by omega
    have vm := wrapI_in (show m < 1000000000000000 by omega)
    by_cases hm0 : m = 0
    · subst hm0
      clear hl hlen hd hdep hpk hp0 hL hLl hR ht hT hm
      go_enter Try.func10, Try.ntmps10
      go_wp2_with fail
      refine HP.out.mono ?_
      rintro e w2 ⟨rfl, hB2⟩
      have HB2 := Lib.hid hB2
      clear hB2
      go_upto_region 7 with (fail)
      refine wp_region_m (S := fun v => But [] w2 v) (R := fun v v' => But [] v v') (fun w => But.refl [] w) (by kernel_rfl) ((But.refl [] w2).drew) ?_
      refine wpM_take (fun w => But.refl [] w) (fun x y z h k => h.trans k) (i := 0) (v := .int .i64 (t : Nat)) rfl (by kernel_rfl) (by kernel_rfl) (by kernel_rfl) (fun _ _ _ h => h) (YieldsR.read (fun w => But.refl [] w) ?_ fun w hS => ?_) ?_
      · go_simp
      · go_simp
      refine wpM_take (fun w => But.refl [] w) (fun x y z h k => h.trans k) (i := 1) (v := .int .i64 0) rfl (by kernel_rfl) (by kernel_rfl) (by kernel_rfl) (fun _ _ _ h => h) (YieldsR.read (fun w => But.refl [] w) ?_ fun w hS => ?_) ?_
      · go_simp
      · go_simp
      refine wpM_take (fun w => But.refl [] w) (fun x y z h k => h.trans k) (i := 2) (v := .bool true) rfl (by kernel_rfl) (by kernel_rfl) (by kernel_rfl) (fun _ _ _ h => h) (YieldsR.read (fun w => But.refl [] w) ?_ fun w hS => ?_) ?_
      · go_simp
      · go_simp
      refine wpM_take (fun w => But.refl [] w) (fun x y z h k => h.trans k) (i := 3) (v := .bool true) rfl (by kernel_rfl) (by kernel_rfl) (by kernel_rfl) (fun _ _ _ h => h) (YieldsR.read (fun w => But.refl [] w) ?_ fun w hS => ?_) ?_
      · go_simp
      · go_simp
      refine wpM_take (fun w => But.refl [] w) (fun x y z h k => h.trans k) (i := 4) (v := undef) rfl (by kernel_rfl) (by kernel_rfl) (by kernel_rfl) (fun _ _ _ h => h) (.inr ⟨by kernel_rfl, rfl⟩) ?_
      refine wpM_take (fun w => But.refl [] w) (fun x y z h k => h.trans k) (i := 5) (v := undef) rfl (by kernel_rfl) (by kernel_rfl) (by kernel_rfl) (fun _ _ _ h => h) (.inr ⟨by kernel_rfl, rfl⟩) ?_
      refine wpM_take (fun w => But.refl [] w) (fun x y z h k => h.trans k) (i := 6) (v := undef) rfl (by kernel_rfl) (by kernel_rfl) (by kernel_rfl) (fun _ _ _ h => h) (.inr ⟨by kernel_rfl, rfl⟩) ?_
      refine wpM_take (fun w => But.refl [] w) (fun x y z h k => h.trans k) (i := 7) (v := undef) rfl (by kernel_rfl) (by kernel_rfl) (by kernel_rfl) (fun _ _ _ h => h) (.inr ⟨by kernel_rfl, rfl⟩) ?_
      refine wpM_take (fun w => But.refl [] w) (fun x y z h k => h.trans k) (i := 8) (v := undef) rfl (by kernel_rfl) (by kernel_rfl) (by kernel_rfl) (fun _ _ _ h => h) (.inr ⟨by kernel_rfl, rfl⟩) ?_
      refine wpM_take (fun w => But.refl [] w) (fun x y z h k => h.trans k) (i := 9) (v := undef) rfl (by kernel_rfl) (by kernel_rfl) (by kernel_rfl) (fun _ _ _ h => h) (.inr ⟨by kernel_rfl, rfl⟩) ?_
      refine wpM_take (fun w => But.refl [] w) (fun x y z h k => h.trans k) (i := 10) (v := undef) rfl (by kernel_rfl) (by kernel_rfl) (by kernel_rfl) (fun _ _ _ h => h) (.inr ⟨by kernel_rfl, rfl⟩) ?_
      refine wpM_take (fun w => But.refl [] w) (fun x y z h k => h.trans k) (i := 11) (v := undef) rfl (by kernel_rfl) (by kernel_rfl) (by kernel_rfl) (fun _ _ _ h => h) (.inr ⟨by kernel_rfl, rfl⟩) ?_
      refine wpM_take (fun w => But.refl [] w) (fun x y z h k => h.trans k) (i := 12) (v := undef) rfl (by kernel_rfl) (by kernel_rfl) (by kernel_rfl) (fun _ _ _ h => h) (.inr ⟨by kernel_rfl, rfl⟩) ?_
      refine wpM_take (fun w => But.refl [] w) (fun x y z h k => h.trans k) (i := 13) (v := undef) rfl (by kernel_rfl) (by kernel_rfl) (by kernel_rfl) (fun _ _ _ h => h) (.inr ⟨by kernel_rfl, rfl⟩) ?_
      refine wpM_take (fun w => But.refl [] w) (fun x y z h k => h.trans k) (i := 14) (v := undef) rfl (by kernel_rfl) (by kernel_rfl) (by kernel_rfl) (fun _ _ _ h => h) (.inr ⟨by kernel_rfl, rfl⟩) ?_
      refine wpM_take (fun w => But.refl [] w) (fun x y z h k => h.trans k) (i := 15) (v := undef) rfl (by kernel_rfl) (by kernel_rfl) (by kernel_rfl) (fun _ _ _ h => h) (.inr ⟨by kernel_rfl, rfl⟩) ?_
      refine wpM_take (fun w => But.refl [] w) (fun x y z h k => h.trans k) (i := 16) (v := .bool true) rfl (by kernel_rfl) (by kernel_rfl) (by kernel_rfl) (fun _ _ _ h => h) (YieldsR.read (fun w => But.refl [] w) ?_ fun w hS => ?_) ?_
      · go_simp
      · go_simp
      refine wpM_take (fun w => But.refl [] w) (fun x y z h k => h.trans k) (i := 17) (v := .bool true) rfl (by kernel_rfl) (by kernel_rfl) (by kernel_rfl) (fun _ _ _ h => h) (YieldsR.read (fun w => But.refl [] w) ?_ fun w hS => ?_) ?_
      · go_simp
      · go_simp
      refine wpM_take (fun w => But.refl [] w) (fun x y z h k => h.trans k) (i := 18) (v := .bool true) rfl (by kernel_rfl) (by kernel_rfl) (by kernel_rfl) (fun _ _ _ h => h) (.inl ⟨?_, fun w hS => .inr ⟨_, _, ?_, (HA.out.use w).mono ?_⟩⟩) ?_
      · go_simp
      · go_simp
      · rintro e wy ⟨rfl, hB⟩; exact ⟨rfl, hS.trans hB, hB⟩
      refine wpM_take (fun w => But.refl [] w) (fun x y z h k => h.trans k) (i := 19) (v := .bool true) rfl (by kernel_rfl) (by kernel_rfl) (by kernel_rfl) (fun _ _ _ h => h) (YieldsR.read (fun w => But.refl [] w) ?_ fun w hS => ?_) ?_
      · go_simp
      · go_simp
      refine wpM_take (fun w => But.refl [] w) (fun x y z h k => h.trans k) (i := 20) (v := .bool true) rfl (by kernel_rfl) (by kernel_rfl) (by kernel_rfl) (fun _ _ _ h => h) (YieldsR.read (fun w => But.refl [] w) ?_ fun w hS => ?_) ?_
      · go_simp
      · go_simp
      refine ⟨by kernel_rfl, fun w9 hR9 hS9 => ?_⟩
      have HB9 := Lib.hid (HB2.out.trans hS9)
      clear hR9 hS9
      go_simp
      go_wp2
      go_ret
      exact ⟨rfl, HB9.out.belowS⟩
    · have hT1 : 1 ≤ T := by omega
      obtain ⟨k, hk⟩ : ∃ k, k = T - 1 := ⟨_, rfl⟩
      have ek : (T : Int) - 1 = (k : Int) := by omega
      have vk := wrapI_in (show k < 1000000000000000 by omega)
      have hkR : k < R.size := by omega
      obtain ⟨b, hb0⟩ : ∃ b, b = R[k].toNat := ⟨_, rfl⟩
      have hb1 : b < 256 := by rw [hb0]; exact R[k].toNat_lt
      have kx : ∀ w, (Instr.index 9 (.string R) (.int .i64 (k : Int))).run Try.prog w = .ok (.int .u8 (b : Int)) w := fun w => by rw [hb0]; exact byteR_run hkR w
      obtain ⟨e, he⟩ : ∃ e, e = 8 - m := ⟨_, rfl⟩
      have ee : (8 : Int) - (m : Int) = (e : Int) := by omega
      have ve := wrapI_in (show e < 1000000000000000 by omega)
      have he7 : e ≤ 7 := by omega
      obtain ⟨q, hq⟩ : ∃ q, q = 2 ^ e := ⟨_, rfl⟩
      have hq1 : 1 ≤ q := by rw [hq]; exact Nat.pow_pos (by decide)
      have hq2 : q ≤ 128 := by rw [hq]; exact Nat.pow_le_pow_right (n := 2) (by decide) he7
      have p1 : (2 : Int) ^ e = (q : Int) := by rw [hq]; simp
      have vq := wrapY_in (show q < 256 by omega)
      obtain ⟨q1, hq3⟩ : ∃ z, z = q - 1 := ⟨_, rfl⟩
      have eq1 : (q : Int) - 1 = (q1 : Int) := by omega
      have vq1 := wrapY_in (show q1 < 256 by omega)
      have hz : bits .and .u8 (b : Int) (q1 : Int) = 0 := by
        have hr := pack_rest (depth := D) L (by rw [hLl, ← ht]; omega)
        have hbb : ((packT D L).getD ((packT D L).length - 1) 0).toNat = b := by
          rw [packT_length, hLl, ← ht, ← hT, ← hk, hb0, ← getD_byte R hkR, hR, strL_list]
        rw [hbb, hLl, ← ht, ← hm, ← he] at hr
        rw [u8_and_nat b q1 hb1 (by omega), hq3, hq, Nat.and_two_pow_sub_one_eq_mod, hr]
        rfl
      have n0 : ((m : Int) == 0) = false := by simp; omega
      have n1 : ¬ (m : Int) = 0 := by omega
      clear hl hlen hd hdep hpk hp0 hL hLl hR ht hT hm hk hb0 he hq hq3
      go_enter Try.func10, Try.ntmps10
      go_wp2_with fail
      refine HP.out.mono ?_
      rintro e w2 ⟨rfl, hB2⟩
      have HB2 := Lib.hid hB2
      clear hB2
      go_upto_region 7 with (fail)
      refine wp_region_m (S := fun v => But [] w2 v) (R := fun v v' => But [] v v') (fun w => But.refl [] w) (by kernel_rfl) ((But.refl [] w2).drew) ?_
      refine wpM_take (fun w => But.refl [] w) (fun x y z h k => h.trans k) (i := 0) (v := .int .i64 (t : Nat)) rfl (by kernel_rfl) (by kernel_rfl) (by kernel_rfl) (fun _ _ _ h => h) (YieldsR.read (fun w => But.refl [] w) ?_ fun w hS => ?_) ?_
      · go_simp
      · go_simp
      refine wpM_take (fun w => But.refl [] w) (fun x y z h k => h.trans k) (i := 1) (v := .int .i64 (m : Nat)) rfl (by kernel_rfl) (by kernel_rfl) (by kernel_rfl) (fun _ _ _ h => h) (YieldsR.read (fun w => But.refl [] w) ?_ fun w hS => ?_) ?_
      · go_simp
      · go_simp
      refine wpM_take (fun w => But.refl [] w) (fun x y z h k => h.trans k) (i := 2) (v := .bool false) rfl (by kernel_rfl) (by kernel_rfl) (by kernel_rfl) (fun _ _ _ h => h) (YieldsR.read (fun w => But.refl [] w) ?_ fun w hS => ?_) ?_
      · go_simp
      · go_simp
      refine wpM_take (fun w => But.refl [] w) (fun x y z h k => h.trans k) (i := 3) (v := .bool false) rfl (by kernel_rfl) (by kernel_rfl) (by kernel_rfl) (fun _ _ _ h => h) (YieldsR.read (fun w => But.refl [] w) ?_ fun w hS => ?_) ?_
      · go_simp
      · go_simp
      refine wpM_take (fun w => But.refl [] w) (fun x y z h k => h.trans k) (i := 4) (v := .string R) rfl (by kernel_rfl) (by kernel_rfl) (by kernel_rfl) (fun _ _ _ h => h) (YieldsR.read (fun w => But.refl [] w) ?_ fun w hS => ?_) ?_
      · go_simp
      · go_simp
      refine wpM_take (fun w => But.refl [] w) (fun x y z h k => h.trans k) (i := 5) (v := .string R) rfl (by kernel_rfl) (by kernel_rfl) (by kernel_rfl) (fun _ _ _ h => h) (YieldsR.read (fun w => But.refl [] w) ?_ fun w hS => ?_) ?_
      · go_simp
      · go_simp
      refine wpM_take (fun w => But.refl [] w) (fun x y z h k => h.trans k) (i := 6) (v := .int .i64 (T : Nat)) rfl (by kernel_rfl) (by kernel_rfl) (by kernel_rfl) (fun _ _ _ h => h) (YieldsR.read (fun w => But.refl [] w) ?_ fun w hS => ?_) ?_
      · go_simp
      · go_simp
      refine wpM_take (fun w => But.refl [] w) (fun x y z h k => h.trans k) (i := 7) (v := .int .i64 (k : Nat)) rfl (by kernel_rfl) (by kernel_rfl) (by kernel_rfl) (fun _ _ _ h => h) (YieldsR.read (fun w => But.refl [] w) ?_ fun w hS => ?_) ?_
      · go_simp
      · go_simp
      refine wpM_take (fun w => But.refl [] w) (fun x y z h k => h.trans k) (i := 8) (v := .int .u8 (b : Nat)) rfl (by kernel_rfl) (by kernel_rfl) (by kernel_rfl) (fun _ _ _ h => h) (YieldsR.read (fun w => But.refl [] w) ?_ fun w hS => ?_) ?_
      · go_simp
      · go_simp
      refine wpM_take (fun w => But.refl [] w) (fun x y z h k => h.trans k) (i := 9) (v := .int .i64 (t : Nat)) rfl (by kernel_rfl) (by kernel_rfl) (by kernel_rfl) (fun _ _ _ h => h) (YieldsR.read (fun w => But.refl [] w) ?_ fun w hS => ?_) ?_
      · go_simp
      · go_simp
      refine wpM_take (fun w => But.refl [] w) (fun x y z h k => h.trans k) (i := 10) (v := .int .i64 (m : Nat)) rfl (by kernel_rfl) (by kernel_rfl) (by kernel_rfl) (fun _ _ _ h => h) (YieldsR.read (fun w => But.refl [] w) ?_ fun w hS => ?_) ?_
      · go_simp
      · go_simp
      refine wpM_take (fun w => But.refl [] w) (fun x y z h k => h.trans k) (i := 11) (v := .int .i64 (e : Nat)) rfl (by kernel_rfl) (by kernel_rfl) (by kernel_rfl) (fun _ _ _ h => h) (YieldsR.read (fun w => But.refl [] w) ?_ fun w hS => ?_) ?_
      · go_simp
      · go_simp
      refine wpM_take (fun w => But.refl [] w) (fun x y z h k => h.trans k) (i := 12) (v := .int .u8 (q : Nat)) rfl (by kernel_rfl) (by kernel_rfl) (by kernel_rfl) (fun _ _ _ h => h) (YieldsR.read (fun w => But.refl [] w) ?_ fun w hS => ?_) ?_
      · go_simp
      · go_simp
      refine wpM_take (fun w => But.refl [] w) (fun x y z h k => h.trans k) (i := 13) (v := .int .u8 (q1 : Nat)) rfl (by kernel_rfl) (by kernel_rfl) (by kernel_rfl) (fun _ _ _ h => h) (YieldsR.read (fun w => But.refl [] w) ?_ fun w hS => ?_) ?_
      · go_simp
      · go_simp
      refine wpM_take (fun w => But.refl [] w) (fun x y z h k => h.trans k) (i := 14) (v := .int .u8 0) rfl (by kernel_rfl) (by kernel_rfl) (by kernel_rfl) (fun _ _ _ h => h) (YieldsR.read (fun w => But.refl [] w) ?_ fun w hS => ?_) ?_
      · go_simp
      · go_simp
      refine wpM_take (fun w => But.refl [] w) (fun x y z h k => h.trans k) (i := 15) (v := .bool true) rfl (by kernel_rfl) (by kernel_rfl) (by kernel_rfl) (fun _ _ _ h => h) (YieldsR.read (fun w => But.refl [] w) ?_ fun w hS => ?_) ?_
      · go_simp
      · go_simp
      refine wpM_take (fun w => But.refl [] w) (fun x y z h k => h.trans k) (i := 16) (v := .bool true) rfl (by kernel_rfl) (by kernel_rfl) (by kernel_rfl) (fun _ _ _ h => h) (YieldsR.read (fun w => But.refl [] w) ?_ fun w hS => ?_) ?_
      · go_simp
      · go_simp
      refine wpM_take (fun w => But.refl [] w) (fun x y z h k => h.trans k) (i := 17) (v := .bool true) rfl (by kernel_rfl) (by kernel_rfl) (by kernel_rfl) (fun _ _ _ h => h) (YieldsR.read (fun w => But.refl [] w) ?_ fun w hS => ?_) ?_
      · go_simp
      · go_simp
      refine wpM_take (fun w => But.refl [] w) (fun x y z h k => h.trans k) (i := 18) (v := .bool true) rfl (by kernel_rfl) (by kernel_rfl) (by kernel_rfl) (fun _ _ _ h => h) (.inl ⟨?_, fun w hS => .inr ⟨_, _, ?_, (HA.out.use w).mono ?_⟩⟩) ?_
      · go_simp
      · go_simp
      · rintro e wy ⟨rfl, hB⟩; exact ⟨rfl, hS.trans hB, hB⟩
      refine wpM_take (fun w => But.refl [] w) (fun x y z h k => h.trans k) (i := 19) (v := .bool true) rfl (by kernel_rfl) (by kernel_rfl) (by kernel_rfl) (fun _ _ _ h => h) (YieldsR.read (fun w => But.refl [] w) ?_ fun w hS => ?_) ?_
      · go_simp
      · go_simp
      refine wpM_take (fun w => But.refl [] w) (fun x y z h k => h.trans k) (i := 20) (v := .bool true) rfl (by kernel_rfl) (by kernel_rfl) (by kernel_rfl) (fun _ _ _ h => h) (YieldsR.read (fun w => But.refl [] w) ?_ fun w hS => ?_) ?_
      · go_simp
      · go_simp
      refine ⟨by kernel_rfl, fun w9 hR9 hS9 => ?_⟩
      have HB9 := Lib.hid (HB2.out.trans hS9)
      clear hR9 hS9
      go_simp
      go_wp2
      go_ret
      exact ⟨rfl, HB9.out.belowS⟩
end Go.Proofs.Ytfibffcmbnlomaa
