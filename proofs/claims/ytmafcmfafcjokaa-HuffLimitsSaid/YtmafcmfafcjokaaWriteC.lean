/- The contracts of the writer's Text, and of the document's writer. -/
import Derived.Test.YtmafcmfafcjokaaWriteB
namespace Go.Proofs.Ytmafcmfafcjokaa
open Go Go.RowKit

/-- The text of a writer. -/
def textOf (X N : Nat) : ByteArray := ⟨(bytesOf ((N + 7) / 8) X).toArray⟩
theorem textOf_size (X N : Nat) : (textOf X N).size = (N + 7) / 8 := by
  show (bytesOf ((N + 7) / 8) X).toArray.size = _
  simp [length_bytesOf]

theorem bytes_snoc (L : List UInt8) (y : UInt8) : (⟨L.toArray⟩ ++ ⟨#[y]⟩ : ByteArray) = ⟨(L ++ [y]).toArray⟩ := by
  apply ByteArray.ext; simp
set_option maxRecDepth 100000 in
theorem WS.text {w : World} {lo b : Nat} {og : Option Nat} {X N : Nat} (h : WS w lo b og X N) (hN : N ≤ 140737488355328) :
    Calls Try.prog 28 #[.pointer (some ⟨b, 0, none⟩)] w fun e w' => e = .returned (.string (textOf X N)) ∧ But [] w w' := by
  obtain ⟨x, L, part, hi, hown, hog, hlen, hnum, hpart⟩ := h
  have h0 : w.cell? ⟨b, 0, none⟩ = some x := hi.cell 0
  have h1 : w.cell? ⟨b, 1, none⟩ = some (.int .i64 part) := hi.cell 1
  have h2 : w.cell? ⟨b, 2, none⟩ = some (.int .i64 (N % 8 : Nat)) := hi.cell 2
  have hcv := own_text hown
  have hLb : L.length ≤ 17592186044416 := by omega
  have HL := Lib.hid hlen
  have HX := Lib.hid hnum
  clear hi hown hog hlen hnum
  by_cases hu : 0 < N % 8
  · have hp7 : 2 ^ (N % 8) ≤ 2 ^ 7 := Nat.pow_le_pow_right (by decide) (by omega)
    obtain ⟨y, rfl⟩ : ∃ y : UInt8, y.toNat = part := ⟨UInt8.ofNat part, by
      have h : (UInt8.ofNat part).toNat = part % 256 := UInt8.toNat_ofNat'
      omega⟩
    have hylt := y.toNat_lt
    have hcv2 := own_text (L := [y]) (World.ownsRow_lit (base := w.heap.size) (e := 5) (size := 1) w #[.int .u8 (y.toNat : Int)] 1 (Nat.le_refl _) (by unfold maxLen; omega) rfl)
    clear hp7 hpart
    go_enter Try.func28, Try.ntmps28
    go_wp2
    go_ret
    refine ⟨?_, ((But.refl [] w).alloc _)⟩
    have e : textOf X N = ⟨(L ++ [y]).toArray⟩ := by
      unfold textOf
      rw [← bytesOf_eq (l := L ++ [y]) (k := (N + 7) / 8) (x := X) (by rw [List.length_append, HL.out, List.length_singleton]; omega) (by rw [num_snoc]; exact HX.out)]
    rw [e, ← bytes_snoc]
    rfl
  · have hp0 : part = 0 := by have e : N % 8 = 0 := by omega
                              rw [e] at hpart; omega
    subst hp0
    go_enter Try.func28, Try.ntmps28
    go_wp2
    go_ret
    refine ⟨?_, But.refl _ _⟩
    have e : textOf X N = ⟨L.toArray⟩ := by
      unfold textOf
      rw [← bytesOf_eq (l := L) (k := (N + 7) / 8) (x := X) (by rw [HL.out]; omega) (by rw [← HX.out]; simp)]
    rw [e]
    rfl
end Go.Proofs.Ytmafcmfafcjokaa
