/- The laws of layer 14: the walk of a byte's words. -/
import Derived.Test.YtgemmidkfeebfaaDoorHaS
set_option maxRecDepth 100000
set_option linter.unusedVariables false
namespace Go.Proofs.YtgemmidkfeebfaaDoor
set_option maxRecDepth 100000
open Go Go.RowKit
theorem digit_cases {d c : Nat} (hd : d < 16) (hc : c = (digitB d).toNat) : (d < 10 ∧ c = 48 + d) ∨ (10 ≤ d ∧ c = 87 + d) := by
  rw [hc, digitB_lt16 hd]
  by_cases h : d < 10
  · rw [if_pos h]; exact .inl ⟨h, rfl⟩
  · rw [if_neg h]; exact .inr ⟨by omega, rfl⟩
attribute [local irreducible] digitB
set_option maxHeartbeats 1000000 in
theorem shaWords_walk {x : Int} {w : World} (hx : (Lit.int .u8 x).wf = true) (hG : GK w) : Calls Tryd.prog 6 #[.int .u8 x] w fun e w' => e = .returned (.bool true) ∧ Below w.heap.size w w' := by
  obtain ⟨x, rfl, hx256⟩ : ∃ n : Nat, x = (n : Int) ∧ n < 256 := by
    have h : 0 ≤ x ∧ x ≤ 255 := by simpa [Lit.wf, IntKind.min, IntKind.max, IntKind.bits, IntKind.signed] using hx
    exact ⟨x.toNat, by omega, by omega⟩
  clear hx
  have HG := Lib.hid hG
  have HA := Lib.hid fun W hG => awake14_any W hG
  obtain ⟨b, hb⟩ : ∃ b, b = UInt8.ofNat x := ⟨_, rfl⟩
  have hbx : b.toNat = x := by rw [hb, UInt8.toNat_ofNat']; omega
  have hcv : (convert 26 9 (.slice (some ⟨w.heap.size, 0, none⟩) 1 1)).run Tryd.prog (w.alloc (.cells #[.int .u8 (x : Int)] 5)) = .ok (.string (strL [b])) (w.alloc (.cells #[.int .u8 (x : Int)] 5)) := by
    refine conv_atF (L := [b]) (cap := 1) fun j hj => ?_
    have hj0 : j = 0 := by simpa using hj
    subst hj0
    have := (Is.fresh w 5 #[.int .u8 (x : Int)]).cell 0
    rw [this]
    show some (Value.int .u8 (x : Int)) = some (.int .u8 (b.toNat : Int))
    rw [hbx]
  have HHx := Lib.hid fun W => phex_list W [b] (by show 1 ≤ 1000000000; decide)
  obtain ⟨h, hh⟩ : ∃ h, h = x / 16 := ⟨_, rfl⟩
  obtain ⟨l, hl⟩ : ∃ h, h = x % 16 := ⟨_, rfl⟩
  have hhx : hexL [b] = [digitB h, digitB l] := by show [digitB (b.toNat / 16), digitB (b.toNat % 16)] = _; rw [hbx, hh, hl]
  rw [hhx] at HHx
  obtain ⟨S, hS⟩ : ∃ S, S = strL [digitB h, digitB l] := ⟨_, rfl⟩
  rw [← hS] at HHx
  have hSs : S.size = 2 := by rw [hS, strL_size]; rfl
  have HK : Hid (∀ (k d : Nat), k < 2 → d = (if k = 0 then h else l) → ∀ W, (Instr.index 9 (.string S) (.int .i64 (k : Int))).run Tryd.prog W = .ok (.int .u8 ((digitB d).toNat : Nat)) W) := Lib.hid fun k d hk hd W => by
    have e := byteR_run (s := S) (k := k) (by omega) W
    rw [e]
    congr 3
    subst hS
    rw [hd]
    clear e hd
    rcases (show k = 0 ∨ k = 1 by omega) with rfl | rfl
    · rfl
    · rfl
  have HBA := Lib.hid ((But.refl [] w).alloc (.cells #[.int .u8 (x : Int)] 5))
  have HX := Lib.hid (show 16 * h + l = x by omega)
  have h16 : h < 16 := by omega
  have l16 : l < 16 := by omega
  have HV : Hid (IntKind.i64.wrap (x : Int) = (x : Int)) := Lib.hid (wrapI_in (by omega))
  obtain ⟨T, hT⟩ : ∃ T, T = strL [b] := ⟨_, rfl⟩
  rw [← hT] at hcv HHx
  clear hb hbx hhx hh hl hS hT hG
  go_enter Tryd.func6, Tryd.ntmps6
  go_wp2_with fail
  refine (HHx.out _).mono ?_
  rintro e w1 ⟨rfl, hB1⟩
  have HB1 := Lib.hid (HBA.out.trans hB1)
  clear hB1 HBA hcv
  go_wp2_with fail
  go_loopw [4, 5] (fun nv kv wx => ∃ (k n : Nat), k ≤ 2 ∧ kv = .int .i64 k ∧ nv = .int .i64 n ∧ Hid (n = if k = 0 then 0 else if k = 1 then h else x) ∧ n < 256 ∧ Hid (But [] w wx)) (fun _ kv _ => 2 - (intOf kv).toNat)
  case atStart => exact ⟨0, 0, Nat.zero_le _, rfl, rfl, Lib.hid rfl, by decide, HB1⟩
  case round =>
    clear HB1
    obtain ⟨k, n, hk, rfl, rfl, HN, hn, HB⟩ := hrel
    by_cases hlt : k < 2
    · obtain ⟨d, hd⟩ : ∃ d, d = (if k = 0 then h else l) := ⟨_, rfl⟩
      have hd16 : d < 16 := by rw [hd]; split <;> omega
      have kx := HK.out k d hlt hd
      obtain ⟨c, hc⟩ : ∃ c, c = (digitB d).toNat := ⟨_, rfl⟩
      simp only [← hc] at kx
      obtain ⟨n16, hn16⟩ : ∃ z, z = 16 * n := ⟨_, rfl⟩
      have e16 : (16 : Int) * (n : Int) = (n16 : Int) := by omega
      have v16 := wrapI_in (show n16 < 1000000000000000 by omega)
      obtain ⟨m, hm⟩ : ∃ z, z = n16 + d := ⟨_, rfl⟩
      have HM : Hid (m = if k + 1 = 0 then 0 else if k + 1 = 1 then h else x) := Lib.hid (by
        rw [hm, hn16, HN.out, hd]
        have hX := HX.out
        match k, hlt with
        | 0, _ => simp
        | 1, _ => simp; omega)
      have hm256 : m < 256 := by
        rw [HM.out]
        split
        · omega
        · split <;> omega
      have vm := wrapI_in (show m < 1000000000000000 by omega)
      have vc := wrapI_in (show c < 1000000000000000 by rcases digit_cases hd16 hc with h | h <;> omega)
      obtain ⟨nc, hnc⟩ : ∃ z, z = n16 + c := ⟨_, rfl⟩
      have enc : (n16 : Int) + (c : Int) = (nc : Int) := by omega
      have vnc := wrapI_in (show nc < 1000000000000000 by rcases digit_cases hd16 hc with h | h <;> omega)
      rcases digit_cases hd16 hc with ⟨h10, hce⟩ | ⟨h10, hce⟩
      · have c1 : (48 : Int) ≤ (c : Int) := by omega
        have c2 : (c : Int) ≤ 57 := by omega
        have es : (nc : Int) - 48 = (m : Int) := by omega
        clear hd hc hn16 hm hnc hce
        go_wp2
        go_roundw
        case rel => exact ⟨k + 1, m, by omega, by go_num, rfl, HM, hm256, HB⟩
        case measure => simp [intOf] <;> omega
      · have c1 : (48 : Int) ≤ (c : Int) := by omega
        have c2 : ¬ (c : Int) ≤ 57 := by omega
        have c3 : (97 : Int) ≤ (c : Int) := by omega
        have c4 : (c : Int) ≤ 102 := by omega
        obtain ⟨t, ht⟩ : ∃ t : Int, t = (nc : Int) - 97 := ⟨_, rfl⟩
        have es : (nc : Int) - 97 = t := ht.symm
        have et : t + 10 = (m : Int) := by omega
        have vt : IntKind.i64.wrap t = t := by rw [IntKind.wrap_i64]; omega
        clear hd hc hn16 hm hnc hce ht
        go_wp2
        go_roundw
        case rel => exact ⟨k + 1, m, by omega, by go_num, rfl, HM, hm256, HB⟩
        case measure => simp [intOf] <;> omega
    · have hk2 : k = 2 := by omega
      have hnx : n = x := by rw [HN.out, hk2]; rfl
      subst hnx
      have vx := HV.out
      clear HN hk2
      go_wp2_with fail
      refine (HA.out _ (HG.out.but HB.out)).mono ?_
      rintro e w2 ⟨rfl, hB2⟩
      have HB2 := Lib.hid (HB.out.trans hB2)
      clear hB2
      go_wp2
      go_ret
      exact ⟨rfl, but_belowH HB2.out⟩
end Go.Proofs.YtgemmidkfeebfaaDoor
