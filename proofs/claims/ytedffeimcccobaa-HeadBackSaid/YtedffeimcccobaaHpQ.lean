/- What a head of whole numbers is laid as; what is read behind it. -/
import Derived.Test.YtedffeimcccobaaHdB
set_option maxRecDepth 100000
set_option linter.unusedVariables false
namespace Go.Proofs.Ytedffeimcccobaa
set_option maxRecDepth 100000
open Go Go.RowKit
theorem byteI_nat (n : Nat) : byteI (n : Int) = UInt8.ofNat n := by
  unfold byteI
  apply UInt8.toNat_inj.1
  simp only [UInt8.toNat_ofNat']
  omega
theorem fourI_nat {n : Nat} (h : n < 4294967296) : fourI (n : Int) = fourL n := by
  unfold fourI
  rw [show ((n : Int) % 4294967296).toNat = n by omega]
theorem layI_nat {w h : Nat} (d c l : Nat) (hw : w < 4294967296) (hh : h < 4294967296) : layI w h d c l = layT w h d c l := by
  unfold layI layT
  rw [fourI_nat hw, fourI_nat hh, byteI_nat, byteI_nat, byteI_nat]
theorem hb_read {a b d c l : Int} (hr : rightH a b d c l = 0) (hc : c ≠ 3) {ps : List (List UInt8)} (hp : ps ≠ []) :
    readT (layI a b d c l :: (ps.map (fun p => (tIDAT, p)) ++ [(tIEND, [])])) = ([a, b, d, c, l], { hs0 with idat := true, D := ps.flatten }, 0) := by
  obtain ⟨h1, h2, h3, h4, _, h5, h6⟩ := rightH_zero hr
  obtain ⟨h7, h8, h9, h10⟩ := depthOk_small h5
  obtain ⟨a', rfl⟩ := Int.eq_ofNat_of_zero_le (show (0 : Int) ≤ a by omega)
  obtain ⟨b', rfl⟩ := Int.eq_ofNat_of_zero_le (show (0 : Int) ≤ b by omega)
  obtain ⟨d', rfl⟩ := Int.eq_ofNat_of_zero_le (show (0 : Int) ≤ d by omega)
  obtain ⟨c', rfl⟩ := Int.eq_ofNat_of_zero_le h9
  obtain ⟨l', rfl⟩ := Int.eq_ofNat_of_zero_le (show (0 : Int) ≤ l by omega)
  rw [layI_nat d' c' l' (by omega) (by omega)]
  exact read_back hr (by omega) hp
end Go.Proofs.Ytedffeimcccobaa
