/- The program's steps of a match. -/
import Derived.Test.YtobmghjpfkdooaaDoorInfX
import Derived.Deep.DeepCutAuto
namespace Go.Proofs.YtobmghjpfkdooaaDoor
set_option maxRecDepth 100000
open Go Go.RowKit

section
variable {w w' : World} {b rb db : Nat} {og : Option Nat} {s : ByteArray} {p : Nat} {M : Int} {L : List UInt8} {fs fd : Option Nat}
theorem SS.bitsI (h : SS w b rb db og s p M L fs fd) {i : Int} (n : Nat) (hi : i = n) :
    Calls Tryd.prog 27 #[.pointer (some ⟨rb, 0, none⟩), .int .i64 i] w (GotN w b rb db og s M L fs fd (rBits n s p)) := by
  subst hi; exact h.bits n
theorem SS.inCell (h : SS w b rb db og s p M L fs fd) : w.cell? ⟨b, 0, none⟩ = some (.pointer (some ⟨rb, 0, none⟩)) := by
  obtain ⟨ov, h1, _⟩ := h.cells
  exact h1.cell 0
theorem GotN.of {r : Except Int (Nat × Nat)} {v q : Nat} {er : Int} {e : Ending} (he : e = .returned (.tuple #[.int .i64 v, .int .i64 er])) (hM : Mv b rb w w' og og) (h1 : er ≠ 0 → r = .error er)
    (h2 : er = 0 → r = .ok (v, q) ∧ SS w' b rb db og s q M L fs fd) : GotN w b rb db og s M L fs fd r e w' := ⟨v, er, q, he, hM, h1, h2⟩

theorem ret_num {a b x : Int} (h : a = b) : Ending.returned (.tuple #[.int .i64 a, .int .i64 x]) = .returned (.tuple #[.int .i64 b, .int .i64 x]) := by rw [h]
theorem val_join {m n v : Nat} (hm : m ≤ 8) (hn : n ≤ 13) (hv : v < 2 ^ n) : wrap64 (wrap64 ((m : Int) * 2 ^ n) + (v : Int)) = ((m * 2 ^ n + v : Nat) : Int) := by
  have h1 : 2 ^ n ≤ 2 ^ 13 := Nat.pow_le_pow_right (by decide) hn
  have h2 : m * 2 ^ n ≤ 8 * 2 ^ 13 := Nat.mul_le_mul hm h1
  rw [int_pow]
  generalize m * 2 ^ n = z at *
  have e1 : wrap64 ((z : Nat) : Int) = (z : Int) := IntWalk.wrap64_in _ ⟨by omega, by omega⟩
  rw [e1]
  have e2 : wrap64 ((z : Int) + (v : Int)) = (z : Int) + (v : Int) := IntWalk.wrap64_in _ ⟨by omega, by omega⟩
  rw [e2]; omega
theorem ext2 (h : SS w b rb db og s p M L fs fd) (k : Nat) (hk : k < 30) :
    Calls Tryd.prog 53 #[.pointer (some ⟨b, 0, none⟩), .int .i64 k, .int .i64 2] w (GotN w b rb db og s M L fs fd (rExt k 2 s p)) := by
  have h0 := h.inCell
  by_cases hlo : k < 4
  · have d : decide ((k : Int) < 4) = true := by simp; omega
    have hr : rExt k 2 s p = .ok (k, p) := by
      unfold rExt extBits extVal
      rw [if_pos (by omega), bind_val bits_zero, if_pos (by omega)]; rfl
    have H := Lib.hid h
    have HR := Lib.hid hr
    clear h hr
    go_enter Tryd.func53, Tryd.ntmps53
    go_wp2
    go_ret2
    exact GotN.of rfl (Mv.refl _ _ _ _) (fun e => absurd rfl e) (fun _ => ⟨HR.out, H.out⟩)
  · have d : decide ((k : Int) < 4) = false := by simp; omega
    obtain ⟨n, hn⟩ : ∃ n, n = k / 2 - 1 := ⟨_, rfl⟩
    obtain ⟨m, hm⟩ : ∃ m, m = 2 + k % 2 := ⟨_, rfl⟩
    have hn14 : n ≤ 13 := by omega
    have hr : rExt k 2 s p = rBind (rBits n) (fun x => rPure (m * 2 ^ n + x)) s p := by
      unfold rExt extBits extVal
      rw [if_neg (by omega), ← hn, ← hm]
      simp only [if_neg (show ¬ k < 2 * 2 by omega)]
    have hb := h.bitsI (i := (k : Int) / 2 - 1) n (by omega)
    have H := Lib.hid h
    have HR := Lib.hid hr
    have HB := Lib.hid hb
    clear h hr hb
    go_enter Tryd.func53, Tryd.ntmps53
    go_wp2_with fail
    refine HB.out.mono ?_
    rintro e w1 ⟨v, er, q, rfl, hMv, he1, he2⟩
    have HM := Lib.hid hMv
    have HE1 := Lib.hid he1
    have HE2 := Lib.hid he2
    clear hMv he1 he2
    by_cases her : er = 0
    · obtain ⟨hr, hS⟩ := HE2.out her
      have hv := rBits_lt hr
      have HRR := Lib.hid hr
      have HS := Lib.hid hS
      have HV := Lib.hid hv
      clear hr hS hv HE1 HE2
      subst her
      go_wp2
      go_ret2
      exact GotN.of (v := m * 2 ^ n + v) (ret_num (by rw [← val_join (by omega) hn14 HV.out, hm, hn]; rfl)) HM.out (fun e => absurd rfl e) (fun _ => ⟨by rw [HR.out, bind_val HRR.out]; rfl, HS.out⟩)
    · have d2 : (er != 0) = true := by simpa using her
      have HER := Lib.hid her
      clear her
      go_wp2
      go_ret2
      exact GotN.of (q := 0) rfl HM.out (fun _ => by rw [HR.out, bind_err (HE1.out HER.out)]) (fun e => absurd e HER.out)
theorem ext4 (h : SS w b rb db og s p M L fs fd) (k : Nat) (hk : k < 30) :
    Calls Tryd.prog 53 #[.pointer (some ⟨b, 0, none⟩), .int .i64 k, .int .i64 4] w (GotN w b rb db og s M L fs fd (rExt k 4 s p)) := by
  have h0 := h.inCell
  by_cases hlo : k < 8
  · have d : decide ((k : Int) < 8) = true := by simp; omega
    have hr : rExt k 4 s p = .ok (k, p) := by
      unfold rExt extBits extVal
      rw [if_pos (by omega), bind_val bits_zero, if_pos (by omega)]; rfl
    have H := Lib.hid h
    have HR := Lib.hid hr
    clear h hr
    go_enter Tryd.func53, Tryd.ntmps53
    go_wp2
    go_ret2
    exact GotN.of rfl (Mv.refl _ _ _ _) (fun e => absurd rfl e) (fun _ => ⟨HR.out, H.out⟩)
  · have d : decide ((k : Int) < 8) = false := by simp; omega
    obtain ⟨n, hn⟩ : ∃ n, n = k / 4 - 1 := ⟨_, rfl⟩
    obtain ⟨m, hm⟩ : ∃ m, m = 4 + k % 4 := ⟨_, rfl⟩
    have hn14 : n ≤ 13 := by omega
    have hr : rExt k 4 s p = rBind (rBits n) (fun x => rPure (m * 2 ^ n + x)) s p := by
      unfold rExt extBits extVal
      rw [if_neg (by omega), ← hn, ← hm]
      simp only [if_neg (show ¬ k < 2 * 4 by omega)]
    have hb := h.bitsI (i := (k : Int) / 4 - 1) n (by omega)
    have H := Lib.hid h
    have HR := Lib.hid hr
    have HB := Lib.hid hb
    clear h hr hb
    go_enter Tryd.func53, Tryd.ntmps53
    go_wp2_with fail
    refine HB.out.mono ?_
    rintro e w1 ⟨v, er, q, rfl, hMv, he1, he2⟩
    have HM := Lib.hid hMv
    have HE1 := Lib.hid he1
    have HE2 := Lib.hid he2
    clear hMv he1 he2
    by_cases her : er = 0
    · obtain ⟨hr, hS⟩ := HE2.out her
      have hv := rBits_lt hr
      have HRR := Lib.hid hr
      have HS := Lib.hid hS
      have HV := Lib.hid hv
      clear hr hS hv HE1 HE2
      subst her
      go_wp2
      go_ret2
      exact GotN.of (v := m * 2 ^ n + v) (ret_num (by rw [← val_join (by omega) hn14 HV.out, hm, hn]; rfl)) HM.out (fun e => absurd rfl e) (fun _ => ⟨by rw [HR.out, bind_val HRR.out]; rfl, HS.out⟩)
    · have d2 : (er != 0) = true := by simpa using her
      have HER := Lib.hid her
      clear her
      go_wp2
      go_ret2
      exact GotN.of (q := 0) rfl HM.out (fun _ => by rw [HR.out, bind_err (HE1.out HER.out)]) (fun e => absurd e HER.out)
end
end Go.Proofs.YtobmghjpfkdooaaDoor
