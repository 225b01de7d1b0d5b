/- The contract of the chapter's examples: they answer as the chapter says, and leave all memory that was there as it was. -/
import Derived.Test.YtafchckfanbkcaaText
namespace Go.Proofs.Ytafchckfanbkcaa
open Go Go.RowKit

theorem But.fresh {w w1 w2 : World} {S : List Nat} (h : But [] w w1) (k : But S w1 w2) (hS : ∀ i ∈ S, w.heap.size ≤ i) : But [] w w2 :=
  ⟨k.os.trans h.os, k.tape.trans h.tape, k.output.trans h.output, Nat.le_trans h.size k.size, fun i hi _ =>
    (k.block i (Nat.lt_of_lt_of_le hi h.size) (fun e => by have := hS i e; omega)).trans (h.block i hi (by simp))⟩
theorem But.belowNew {w w' : World} (h : But [] w w') : Below w.heap.size w w' := ⟨h.os, h.tape, h.output, h.size, fun k hk => h.block k hk (by simp)⟩
theorem RS.bits_at {w : World} {b d p : Nat} {s : ByteArray} (h : RS w b d s p) (hs : s.size ≤ 140737488355328) (n : Int) (x : Int) (er : Int) (q : Nat) (h1 : ((bitsVal s p n : Nat) : Int) = x) (h2 : bitsErr s p n = er) (h3 : bitsGo s p n = q) :
    Calls Try.prog 18 #[.pointer (some ⟨b, 0, none⟩), .int .i64 n] w fun e w' => e = .returned (.tuple #[.int .i64 x, .int .i64 er]) ∧ RS w' b d s q ∧ But [b] w w' := by
  subst h1 h2 h3; exact h.bits hs n
theorem RS.bytes_at {w : World} {b d p : Nat} {s : ByteArray} (h : RS w b d s p) (hs : s.size ≤ 140737488355328) (n : Int) (x : ByteArray) (er : Int) (q : Nat) (h1 : bytesVal s p n = x) (h2 : bytesErr s p n = er) (h3 : bytesGo s p n = q) :
    Calls Try.prog 16 #[.pointer (some ⟨b, 0, none⟩), .int .i64 n] w fun e w' => e = .returned (.tuple #[.string x, .int .i64 er]) ∧ RS w' b d s q ∧ But [b] w w' := by
  subst h1 h2 h3; exact h.bytes hs n
theorem crc_at (s : ByteArray) (w : World) (hs : s.size ≤ maxLen) (x : Int) (hx : ((crcSum s.data.toList : Nat) : Int) = x) :
    Calls Try.prog 10 #[.string s] w fun e w' => e = .returned (.int .i64 x) ∧ w = w' := by
  subst hx; exact bits_crc s w hs
theorem adler_at (s : ByteArray) (w : World) (hs : s.size ≤ maxLen) (x : Int) (hx : ((adSum s.data.toList : Nat) : Int) = x) :
    Calls Try.prog 13 #[.string s] w fun e w' => e = .returned (.int .i64 x) ∧ w = w' := by
  subst hx; exact bits_adler s w hs

theorem new_at (w : World) (lo H : Nat) (hH : w.heap.size = H) :
    Calls Try.prog 22 #[] w fun e w' => e = .returned (.pointer (some ⟨H, 0, none⟩)) ∧ WS w' lo H none 0 0 ∧ But [] w w' ∧ w'.heap.size = H + 1 := by
  subst hH
  refine (bits_new w).mono ?_
  rintro e w' ⟨rfl, rfl⟩
  exact ⟨rfl, ws_new w lo, (But.refl [] w).alloc _, by simp⟩
/-- A writer behind calls: its bytes lie above base. -/
def WSome (w : World) (base b X N : Nat) : Prop := ∃ og, WS w base b og X N ∧ (∀ g, og = some g → base ≤ g) ∧ base ≤ b ∧ base ≤ w.heap.size
theorem WSome.bits_at {w : World} {base b X N : Nat} (h : WSome w base b X N) (hN : N ≤ 140737488355328) (v n : Int) (X' N' : Nat) (hX : layX X N v n = X') (hN' : layN N n = N') :
    Calls Try.prog 26 #[.pointer (some ⟨b, 0, none⟩), .int .i64 v, .int .i64 n] w fun e w' => e = .returned (.tuple #[]) ∧ WSome w' base b X' N' ∧ ∃ S, But S w w' ∧ ∀ k ∈ S, base ≤ k := by
  subst hX hN'
  obtain ⟨og, hW, hg, hb, hs⟩ := h
  refine (hW.bits hs hN v n).mono ?_
  rintro e w' ⟨rfl, og', hW', hf, hB⟩
  refine ⟨rfl, ⟨og', hW', fun g e => ?_, hb, Nat.le_trans hs hB.size⟩, _, hB, fun k hk => ?_⟩
  · rcases hf g e with h | h
    · exact hg g h
    · omega
  · rcases List.mem_cons.1 hk with h | h
    · omega
    · exact hg k (by simpa using h)
theorem WSome.bytes_at {w : World} {base b X N : Nat} (h : WSome w base b X N) (hN : N ≤ 140737488355328) (s : ByteArray) (hs : s.size ≤ 70368744177664) (X' N' : Nat) (hX : bytesX X N s = X') (hN' : bytesN N s = N') :
    Calls Try.prog 23 #[.pointer (some ⟨b, 0, none⟩), .string s] w fun e w' => e = .returned (.tuple #[]) ∧ WSome w' base b X' N' ∧ ∃ S, But S w w' ∧ ∀ k ∈ S, base ≤ k := by
  subst hX hN'
  obtain ⟨og, hW, hg, hb, hs'⟩ := h
  refine (hW.bytes hs' hN s hs).mono ?_
  rintro e w' ⟨rfl, og', hW', hf, hB⟩
  refine ⟨rfl, ⟨og', hW', fun g e => ?_, hb, Nat.le_trans hs' hB.size⟩, _, hB, fun k hk => ?_⟩
  · rcases hf g e with h | h
    · exact hg g h
    · omega
  · rcases List.mem_cons.1 hk with h | h
    · omega
    · exact hg k (by simpa using h)
theorem WSome.text_at {w : World} {base b X N : Nat} (h : WSome w base b X N) (hN : N ≤ 140737488355328) (x : ByteArray) (hx : textOf X N = x) :
    Calls Try.prog 28 #[.pointer (some ⟨b, 0, none⟩)] w fun e w' => e = .returned (.string x) ∧ But [] w w' := by
  subst hx
  obtain ⟨og, hW, _⟩ := h
  exact hW.text hN

set_option maxRecDepth 100000 in
set_option maxHeartbeats 1000000 in
theorem awake_any (w : World) :
    Calls Try.prog 12 #[] w fun e w' => e = .returned (.bool true) ∧ But [] w w' := by
  go_enter Try.func12, Try.ntmps12
  go_wp2_with fail
  refine (bits_read _ _).mono ?_
  rintro e w1 ⟨rfl, hR, hB1, hs1⟩
  go_wp2_with fail
  refine (new_at _ (w.heap.size + 2) (w.heap.size + 2) hs1).mono ?_
  rintro e w2 ⟨rfl, hW2, hB2, hs2⟩
  have hR2 := hR.but hB2 (by simp) (by simp)
  have hB := hB1.trans hB2
  have hS2 : WSome w2 (w.heap.size + 2) (w.heap.size + 2) 0 0 := ⟨none, hW2, (fun g e => by cases e), Nat.le_refl _, by omega⟩
  clear hB1 hB2 hR hs1 hW2
  have hs2' : w.heap.size + 3 ≤ w2.heap.size := by omega
  clear hs2
  go_wp2_with fail
  refine (hR2.bits_at (by decide) 3 5 0 3 (by decide +kernel) (by decide +kernel) (by decide +kernel)).mono ?_
  rintro e w3 ⟨rfl, hR3, hB3⟩
  go_wp2_with fail
  refine (hR3.bits_at (by decide) 4 6 0 7 (by decide +kernel) (by decide +kernel) (by decide +kernel)).mono ?_
  rintro e w4 ⟨rfl, hR4, hB4⟩
  go_wp2_with fail
  refine (hR4.bits_at (by decide) 0 0 0 7 (by decide +kernel) (by decide +kernel) (by decide +kernel)).mono ?_
  rintro e w5 ⟨rfl, hR5, hB5⟩
  go_wp2_with fail
  refine (hR5.bytes_at (by decide) 1 ⟨#[1]⟩ 0 16 (by decide +kernel) (by decide +kernel) (by decide +kernel)).mono ?_
  rintro e w6 ⟨rfl, hR6, hB6⟩
  have hB36 := ((hB3.trans hB4).trans hB5).trans hB6
  have hB' := hB.fresh hB36 (by simp)
  obtain ⟨og0, hW0, hg0, _, hz0⟩ := hS2
  have hS6 : WSome w6 (w.heap.size + 2) (w.heap.size + 2) 0 0 := ⟨og0, hW0.but hB36 (by simp) (fun g e => by have := hg0 g e; simp; omega), hg0, Nat.le_refl _, Nat.le_trans hz0 hB36.size⟩
  clear hB3 hB4 hB5 hB6 hB36 hB hR2 hR3 hR4 hR5 hR6 hW0 hg0 hz0 hs2'
  go_wp2_with fail
  refine (hS6.bits_at (by decide) 5 3 5 3 (by decide +kernel) (by decide +kernel)).mono ?_
  rintro e w7 ⟨rfl, hS7, S7, hB7, hk7⟩
  have hB := hB'.fresh hB7 (fun k hk => by have := hk7 k hk; omega)
  clear hB' hB7 hk7 hS6
  go_wp2_with fail
  refine (hS7.bits_at (by decide) 6 4 53 7 (by decide +kernel) (by decide +kernel)).mono ?_
  rintro e w8 ⟨rfl, hS8, S8, hB8, hk8⟩
  have hB' := hB.fresh hB8 (fun k hk => by have := hk8 k hk; omega)
  clear hB hB8 hk8 hS7
  go_wp2_with fail
  refine (hS8.bytes_at (by decide) ⟨#[120]⟩ (by decide) 30773 16 (by decide +kernel) (by decide +kernel)).mono ?_
  rintro e w9 ⟨rfl, hS9, S9, hB9, hk9⟩
  have hB := hB'.fresh hB9 (fun k hk => by have := hk9 k hk; omega)
  clear hB' hB9 hk9 hS8
  go_wp2_with fail
  refine (crc_at _ _ (by decide) 3421780262 (by decide +kernel)).mono ?_
  rintro e w10 ⟨rfl, rfl⟩
  go_wp2_with fail
  refine (adler_at _ _ (by decide) 300286872 (by decide +kernel)).mono ?_
  rintro e w11 ⟨rfl, rfl⟩
  go_wp2_with fail
  refine (hS9.text_at (by decide) ⟨#[53, 120]⟩ (by decide +kernel)).mono ?_
  rintro e w12 ⟨rfl, hB12⟩
  go_wp2_with fail
  go_ret
  exact ⟨rfl, hB.fresh hB12 (by simp)⟩
end Go.Proofs.Ytafchckfanbkcaa
