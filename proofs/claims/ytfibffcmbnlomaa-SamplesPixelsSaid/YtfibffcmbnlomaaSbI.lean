/- The pixel of samples: what it is; four numbers of 16 bits as a row. -/
import Derived.Test.YtfibffcmbnlomaaSbH
import Derived.Test.YtfibffcmbnlomaaSbL
import Derived.Test.YtfibffcmbnlomaaRegZ
set_option maxRecDepth 100000
set_option linter.unusedVariables false
namespace Go.Proofs.Ytfibffcmbnlomaa
set_option maxRecDepth 100000
open Go Go.RowKit
/-- A pixel of four numbers. -/
def px4 (a b c d : Nat) : ByteArray := strL (twoB a ++ twoB b ++ twoB c ++ twoB d)
theorem px4_is (a b c d : Nat) : strL (twoB a) ++ strL (twoB b) ++ strL (twoB c) ++ strL (twoB d) = px4 a b c d := by
  unfold px4
  rw [strL_append, strL_append, strL_append]
theorem byte16 (l : List Nat) (i : Nat) (hi : i < l.length) (hx : l.getD i 0 < 65536) : byteX 16 l (2 * i) = l.getD i 0 / 256 ∧ byteX 16 l (2 * i + 1) = l.getD i 0 % 256 := by
  have h1 : byteX 16 l (2 * i) = l.getD i 0 / 2 ^ 8 % 2 ^ 8 := by
    rw [← valN_mid]
    unfold byteX
    refine valN_congr fun b hb => ?_
    rw [show 8 * (2 * i) + b = i * 16 + b by omega, packBit_of hi (by omega), show 16 - 1 - b = 8 + 8 - 1 - b by omega]
  have h2 : byteX 16 l (2 * i + 1) = l.getD i 0 / 2 ^ 0 % 2 ^ 8 := by
    rw [← valN_mid]
    unfold byteX
    refine valN_congr fun b hb => ?_
    rw [show 8 * (2 * i + 1) + b = i * 16 + (8 + b) by omega, packBit_of hi (by omega), show 16 - 1 - (8 + b) = 0 + 8 - 1 - b by omega]
  rw [h1, h2]
  omega
theorem pack16_px {a b c d : Nat} (ha : a < 65536) (hb : b < 65536) (hc : c < 65536) (hd : d < 65536) : strL (packT 16 [a, b, c, d]) = px4 a b c d := by
  unfold px4
  congr 1
  obtain ⟨a1, a2⟩ := byte16 [a, b, c, d] 0 (by simp) ha
  obtain ⟨b1, b2⟩ := byte16 [a, b, c, d] 1 (by simp) hb
  obtain ⟨c1, c2⟩ := byte16 [a, b, c, d] 2 (by simp) hc
  obtain ⟨d1, d2⟩ := byte16 [a, b, c, d] 3 (by simp) hd
  have e : packT 16 [a, b, c, d] = [UInt8.ofNat (byteX 16 [a, b, c, d] 0), UInt8.ofNat (byteX 16 [a, b, c, d] 1), UInt8.ofNat (byteX 16 [a, b, c, d] 2), UInt8.ofNat (byteX 16 [a, b, c, d] 3), UInt8.ofNat (byteX 16 [a, b, c, d] 4), UInt8.ofNat (byteX 16 [a, b, c, d] 5), UInt8.ofNat (byteX 16 [a, b, c, d] 6), UInt8.ofNat (byteX 16 [a, b, c, d] 7)] := by
    rw [← rowX_all, show ([a, b, c, d].length * 16 + 7) / 8 = 8 by simp]
    rfl
  have m : ∀ x : Nat, UInt8.ofNat (x % 256) = UInt8.ofNat x := fun x => by
    apply UInt8.toNat_inj.1
    rw [UInt8.toNat_ofNat', UInt8.toNat_ofNat']
    omega
  rw [e, show byteX 16 [a, b, c, d] 0 = a / 256 from a1, show byteX 16 [a, b, c, d] 1 = a % 256 from a2, show byteX 16 [a, b, c, d] 2 = b / 256 from b1, show byteX 16 [a, b, c, d] 3 = b % 256 from b2,
    show byteX 16 [a, b, c, d] 4 = c / 256 from c1, show byteX 16 [a, b, c, d] 5 = c % 256 from c2, show byteX 16 [a, b, c, d] 6 = d / 256 from d1, show byteX 16 [a, b, c, d] 7 = d % 256 from d2, m, m, m, m]
  rfl
theorem wideA_8 {v : Nat} (hv : v < 256) : wideA (v : Int) 8 = 257 * v := by
  have h := wideA_yes (v := (v : Int)) (D := 8) (by decide)
  rw [show ((8 : Nat) : Int) = 8 from rfl] at h
  rw [h]
  show ((v : Int) % 256).toNat * 65535 / 255 = 257 * v
  omega
/-- How much is seen of a colour. -/
def alphaA (D : Nat) (tr : ByteArray) (has : Bool) (l : List Int) : Nat := if sameS D tr has l = true then 0 else 65535
/-- How much is seen of a place of a palette. -/
def alphaP (tr : ByteArray) (has : Bool) (k : Nat) : Nat := if has = true ∧ k < tr.size then 257 * (tr.data.toList.getD k 0).toNat else 65535
/-- The pixel of samples that may be. -/
def pixA (D : Nat) (c : Int) (pal tr : ByteArray) (has : Bool) (l : List Int) : ByteArray × Int :=
  if c = 0 then (px4 (wideA (l.getD 0 0) D) (wideA (l.getD 0 0) D) (wideA (l.getD 0 0) D) (alphaA D tr has l), 0) else
  if c = 2 then (px4 (wideA (l.getD 0 0) D) (wideA (l.getD 1 0) D) (wideA (l.getD 2 0) D) (alphaA D tr has l), 0) else
  if c = 4 then (px4 (wideA (l.getD 0 0) D) (wideA (l.getD 0 0) D) (wideA (l.getD 0 0) D) (wideA (l.getD 1 0) D), 0) else
  if c = 6 then (px4 (wideA (l.getD 0 0) D) (wideA (l.getD 1 0) D) (wideA (l.getD 2 0) D) (wideA (l.getD 3 0) D), 0) else
  if pal.size < 3 * (l.getD 0 0).toNat + 3 then (⟨#[]⟩, 29) else
  (px4 (257 * (pal.data.toList.getD (3 * (l.getD 0 0).toNat) 0).toNat) (257 * (pal.data.toList.getD (3 * (l.getD 0 0).toNat + 1) 0).toNat) (257 * (pal.data.toList.getD (3 * (l.getD 0 0).toNat + 2) 0).toNat) (alphaP tr has (l.getD 0 0).toNat), 0)
/-- The pixel of samples, of whatever arguments. -/
def pixelA (d c : Int) (pal tr : ByteArray) (has : Bool) (l : List Int) : ByteArray × Int :=
  if samplesI c ≠ (l.length : Int) ∨ l.length = 0 ∨ depB d = false ∨ inR d.toNat l = false then (⟨#[]⟩, 1) else pixA d.toNat c pal tr has l
theorem pixelA_bad {d c : Int} {pal tr : ByteArray} {has : Bool} {l : List Int} (h : samplesI c ≠ (l.length : Int) ∨ l.length = 0 ∨ depB d = false ∨ inR d.toNat l = false) : pixelA d c pal tr has l = (⟨#[]⟩, 1) := by unfold pixelA; rw [if_pos h]
theorem pixelA_ok {D : Nat} {c : Int} {pal tr : ByteArray} {has : Bool} {l : List Int} {n : Nat} (hl : l.length = n) (h1 : samplesI c = (n : Int)) (h2 : 0 < n) (h3 : depB (D : Int) = true) (h4 : inR D l = true) : pixelA D c pal tr has l = pixA D c pal tr has l := by
  unfold pixelA
  rw [if_neg (by
    rintro (h | h | h | h)
    · exact h (by rw [hl]; exact h1)
    · omega
    · rw [h3] at h; cases h
    · rw [show (D : Int).toNat = D from rfl, h4] at h; cases h)]
  rfl
theorem inR_no {D : Nat} {l : List Int} {i : Nat} {x : Int} (h : l[i]? = some x) (hx : x < 0 ∨ ((2 ^ D : Nat) : Int) ≤ x) : inR D l = false := by
  unfold inR
  rw [List.all_eq_false]
  exact ⟨x, List.mem_of_getElem? h, by rw [decide_eq_false (by omega)]; decide⟩
theorem inR_yes {D : Nat} {l : List Int} (h : ∀ (i : Nat) (x : Int), l[i]? = some x → 0 ≤ x ∧ x < ((2 ^ D : Nat) : Int)) : inR D l = true := by
  unfold inR
  rw [List.all_eq_true]
  intro x hx
  obtain ⟨i, hi, e⟩ := List.mem_iff_getElem.1 hx
  exact decide_eq_true (h i x (by rw [List.getElem?_eq_getElem hi, e]))
theorem inR_at {D : Nat} {l : List Int} (h : inR D l = true) {i : Nat} {x : Int} (hx : l[i]? = some x) : 0 ≤ x ∧ x < ((2 ^ D : Nat) : Int) := by
  unfold inR at h
  rw [List.all_eq_true] at h
  exact of_decide_eq_true (h x (List.mem_of_getElem? hx))
theorem samplesI_cases {c : Int} {n : Nat} (h : samplesI c = (n : Int)) (h2 : 0 < n) : c = 0 ∧ n = 1 ∨ c = 2 ∧ n = 3 ∨ c = 3 ∧ n = 1 ∨ c = 4 ∧ n = 2 ∨ c = 6 ∧ n = 4 := by
  unfold samplesI at h
  split at h
  · omega
  split at h
  · omega
  split at h
  · omega
  split at h
  · omega
  · omega
theorem getD_of {l : List Int} {i : Nat} {x : Int} (h : l[i]? = some x) : l.getD i 0 = x := by rw [List.getD_eq_getElem?_getD, h]; rfl
end Go.Proofs.Ytfibffcmbnlomaa
