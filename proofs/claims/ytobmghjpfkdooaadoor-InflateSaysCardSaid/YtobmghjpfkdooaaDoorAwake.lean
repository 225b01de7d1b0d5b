/- The contract of the chapter's examples: they answer as the chapter says, and leave all memory that was there as it was. -/
import Derived.Test.YtobmghjpfkdooaaDoorWriteB
import Derived.StillTailTactics
namespace Go.Proofs.YtobmghjpfkdooaaDoor
set_option maxRecDepth 100000
open Go Go.RowKit

theorem But.fresh {w w1 w2 : World} {S : List Nat} (h : But [] w w1) (k : But S w1 w2) (hS : ∀ i ∈ S, w.heap.size ≤ i) : But [] w w2 :=
  ⟨k.os.trans h.os, k.tape.trans h.tape, k.output.trans h.output, Nat.le_trans h.size k.size, fun i hi _ =>
    (k.block i (Nat.lt_of_lt_of_le hi h.size) (fun e => by have := hS i e; omega)).trans (h.block i hi (by simp))⟩
theorem But.belowNew {w w' : World} (h : But [] w w') : Below w.heap.size w w' := ⟨h.os, h.tape, h.output, h.size, fun k hk => h.block k hk (by simp)⟩
theorem RS.bits_at {w : World} {b d p : Nat} {s : ByteArray} (h : RS w b d s p) (hs : s.size ≤ 140737488355328) (n : Int) (x : Int) (er : Int) (q : Nat) (h1 : ((bitsVal s p n : Nat) : Int) = x) (h2 : bitsErr s p n = er) (h3 : bitsGo s p n = q) :
    Calls Tryd.prog 27 #[.pointer (some ⟨b, 0, none⟩), .int .i64 n] w fun e w' => e = .returned (.tuple #[.int .i64 x, .int .i64 er]) ∧ RS w' b d s q ∧ But [b] w w' := by
  subst h1 h2 h3; exact h.bits hs n
theorem RS.bytes_at {w : World} {b d p : Nat} {s : ByteArray} (h : RS w b d s p) (hs : s.size ≤ 140737488355328) (n : Int) (x : ByteArray) (er : Int) (q : Nat) (h1 : bytesVal s p n = x) (h2 : bytesErr s p n = er) (h3 : bytesGo s p n = q) :
    Calls Tryd.prog 39 #[.pointer (some ⟨b, 0, none⟩), .int .i64 n] w fun e w' => e = .returned (.tuple #[.string x, .int .i64 er]) ∧ RS w' b d s q ∧ But [b] w w' := by
  subst h1 h2 h3; exact h.bytes hs n
/-- A writer behind calls: its bytes lie above base. -/
def WSome (w : World) (base b X N : Nat) : Prop := ∃ og, WS w base b og X N ∧ (∀ g, og = some g → base ≤ g) ∧ base ≤ b ∧ base ≤ w.heap.size
end Go.Proofs.YtobmghjpfkdooaaDoor
