/- The contract of the chapter's examples: they answer as the chapter says, and leave all memory that was there as it was. -/
import Derived.Test.YtmafcmfafcjokaaText
namespace Go.Proofs.Ytmafcmfafcjokaa
open Go Go.RowKit

theorem But.fresh {w w1 w2 : World} {S : List Nat} (h : But [] w w1) (k : But S w1 w2) (hS : ∀ i ∈ S, w.heap.size ≤ i) : But [] w w2 :=
  ⟨k.os.trans h.os, k.tape.trans h.tape, k.output.trans h.output, Nat.le_trans h.size k.size, fun i hi _ =>
    (k.block i (Nat.lt_of_lt_of_le hi h.size) (fun e => by have := hS i e; omega)).trans (h.block i hi (by simp))⟩
theorem But.belowNew {w w' : World} (h : But [] w w') : Below w.heap.size w w' := ⟨h.os, h.tape, h.output, h.size, fun k hk => h.block k hk (by simp)⟩
theorem RS.bits_at {w : World} {b d p : Nat} {s : ByteArray} (h : RS w b d s p) (hs : s.size ≤ 140737488355328) (n : Int) (x : Int) (er : Int) (q : Nat) (h1 : ((bitsVal s p n : Nat) : Int) = x) (h2 : bitsErr s p n = er) (h3 : bitsGo s p n = q) :
    Calls Try.prog 35 #[.pointer (some ⟨b, 0, none⟩), .int .i64 n] w fun e w' => e = .returned (.tuple #[.int .i64 x, .int .i64 er]) ∧ RS w' b d s q ∧ But [b] w w' := by
  subst h1 h2 h3; exact h.bits hs n
theorem new_at (w : World) (lo H : Nat) (hH : w.heap.size = H) :
    Calls Try.prog 25 #[] w fun e w' => e = .returned (.pointer (some ⟨H, 0, none⟩)) ∧ WS w' lo H none 0 0 ∧ But [] w w' ∧ w'.heap.size = H + 1 := by
  subst hH
  refine (bits_new w).mono ?_
  rintro e w' ⟨rfl, rfl⟩
  exact ⟨rfl, ws_new w lo, (But.refl [] w).alloc _, by simp⟩
/-- A writer behind calls: its bytes lie above base. -/
def WSome (w : World) (base b X N : Nat) : Prop := ∃ og, WS w base b og X N ∧ (∀ g, og = some g → base ≤ g) ∧ base ≤ b ∧ base ≤ w.heap.size
theorem WSome.bits_at {w : World} {base b X N : Nat} (h : WSome w base b X N) (hN : N ≤ 140737488355328) (v n : Int) (X' N' : Nat) (hX : layX X N v n = X') (hN' : layN N n = N') :
    Calls Try.prog 37 #[.pointer (some ⟨b, 0, none⟩), .int .i64 v, .int .i64 n] w fun e w' => e = .returned (.tuple #[]) ∧ WSome w' base b X' N' ∧ ∃ S, But S w w' ∧ ∀ k ∈ S, base ≤ k := by
  subst hX hN'
  obtain ⟨og, hW, hg, hb, hs⟩ := h
  refine (hW.bits hs hN v n).mono ?_
  rintro e w' ⟨rfl, og', hW', hf, hB⟩
  refine ⟨rfl, ⟨og', hW', fun g e => ?_, hb, Nat.le_trans hs hB.size⟩, _, hB, fun k hk => ?_⟩
  · rcases hf g e with h | h
    · exact hg g h
    · omega
  · rcases List.mem_cons.1 hk with h | h
    · omega
    · exact hg k (by simpa using h)
theorem WSome.text_at {w : World} {base b X N : Nat} (h : WSome w base b X N) (hN : N ≤ 140737488355328) (x : ByteArray) (hx : textOf X N = x) :
    Calls Try.prog 28 #[.pointer (some ⟨b, 0, none⟩)] w fun e w' => e = .returned (.string x) ∧ But [] w w' := by
  subst hx
  obtain ⟨og, hW, _⟩ := h
  exact hW.text hN

end Go.Proofs.Ytmafcmfafcjokaa
