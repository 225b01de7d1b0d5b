/- The program's stream in memory; its smallest steps. -/
import Derived.Test.YtobmghjpfkdooaaDoorMc
import Derived.Test.YtobmghjpfkdooaaDoorTable
import Derived.Test.YtobmghjpfkdooaaDoorWriteB
import Derived.Deep.LoopGhost
namespace Go.Proofs.YtobmghjpfkdooaaDoor
set_option maxRecDepth 100000
open Go Go.RowKit

/-! What holds whatever is written within these blocks. -/
def Keep (F : List Nat) (w : World) (Q : World → Prop) : Prop := ∀ w', But F w w' → Q w'
theorem But.join {F F' : List Nat} {w w1 w2 : World} (h : But F w w1) (k : But F' w1 w2) (hF : ∀ i ∈ F', i ∈ F ∨ w.heap.size ≤ i) : But F w w2 :=
  ⟨k.os.trans h.os, k.tape.trans h.tape, k.output.trans h.output, Nat.le_trans h.size k.size, fun i hi hn =>
    (k.block i (Nat.lt_of_lt_of_le hi h.size) (fun e => by
      rcases hF i e with h1 | h1
      · exact hn h1
      · omega)).trans (h.block i hi hn)⟩
theorem Keep.now {F : List Nat} {w : World} {Q : World → Prop} (h : Keep F w Q) : Q w := h w (But.refl _ _)
theorem Keep.step {F F' : List Nat} {w w1 : World} {Q : World → Prop} (h : Keep F w Q) (hB : But F w w1) (hF : ∀ i ∈ F', i ∈ F ∨ w.heap.size ≤ i) : Keep F' w1 Q := fun w' hw => h w' (hB.join hw hF)
theorem NewT.keep {lo b : Nat} {w : World} {l : List Int} {F : List Nat} (h : NewT lo w b l) (hF : ∀ k ∈ F, k < lo) : Keep F w fun w' => TT w' b l := fun _ hw => (h.but hw hF).tt

/-- The blocks that a stream's steps write. -/
def Foot (b rb : Nat) (og : Option Nat) : List Nat := b :: rb :: og.toList
/-- From one world to the next: only a stream's blocks are written; its bytes lie where they lay or in new memory. -/
structure Mv (b rb : Nat) (w w' : World) (og og' : Option Nat) : Prop where
  but : But (Foot b rb og) w w'
  own : ∀ g, og' = some g → og = some g ∨ w.heap.size ≤ g
theorem Mv.foot {b rb : Nat} {w w' : World} {og og' : Option Nat} (h : Mv b rb w w' og og') : ∀ i ∈ Foot b rb og', i ∈ Foot b rb og ∨ w.heap.size ≤ i := fun i hi => by
  unfold Foot at hi ⊢
  rcases List.mem_cons.1 hi with h1 | hi
  · left; simp [h1]
  rcases List.mem_cons.1 hi with h1 | hi
  · left; simp [h1]
  rcases h.own i (by simpa using hi) with h1 | h1
  · left; simp [h1]
  · right; exact h1
theorem Mv.refl (b rb : Nat) (w : World) (og : Option Nat) : Mv b rb w w og og := ⟨But.refl _ _, fun _ h => .inl h⟩
theorem Mv.trans {b rb : Nat} {w w1 w2 : World} {og og1 og2 : Option Nat} (h : Mv b rb w w1 og og1) (k : Mv b rb w1 w2 og1 og2) : Mv b rb w w2 og og2 :=
  ⟨h.but.join k.but h.foot, fun g hg => by
    rcases k.own g hg with h1 | h1
    · exact h.own g h1
    · right; have := h.but.size; omega⟩
theorem Mv.keep {b rb : Nat} {w w1 : World} {og og1 : Option Nat} {Q : World → Prop} (h : Mv b rb w w1 og og1) (k : Keep (Foot b rb og) w Q) : Keep (Foot b rb og1) w1 Q := k.step h.but h.foot
theorem Mv.keepX {b rb : Nat} {w w1 : World} {og og1 : Option Nat} {Q : World → Prop} {X : List Nat} (h : Mv b rb w w1 og og1) (k : Keep (X ++ Foot b rb og) w Q) : Keep (X ++ Foot b rb og1) w1 Q :=
  k.step (h.but.more fun i hi => List.mem_append_right _ hi) fun i hi => by
    rcases List.mem_append.1 hi with h1 | h1
    · exact .inl (List.mem_append_left _ h1)
    · rcases h.foot i h1 with h2 | h2
      · exact .inl (List.mem_append_right _ h2)
      · exact .inr h2
/-- What writes nothing of the stream. -/
theorem Mv.of {b rb : Nat} {w w' : World} {og : Option Nat} {S : List Nat} (h : But S w w') (hS : ∀ k ∈ S, k ∈ Foot b rb og ∨ w.heap.size ≤ k) : Mv b rb w w' og og :=
  ⟨⟨h.os, h.tape, h.output, h.size, fun k hk hn => h.block k hk fun hs => by
    rcases hS k hs with h1 | h1
    · exact hn h1
    · omega⟩, fun _ h => .inl h⟩
theorem Mv.drewN {b rb : Nat} {w : World} {og : Option Nat} (n : Nat) : Mv b rb w (w.drewN n) og og := Mv.of ((But.refl [] w).drewN n) (by simp)

def ptr (o : Option Nat) : Value := .pointer (o.map fun k => ⟨k, 0, none⟩)
/-- The stream in block b, its reader in block rb over the bytes of block db: p bits are consumed, the bytes L are told, in block og. -/
structure SS (w : World) (b rb db : Nat) (og : Option Nat) (s : ByteArray) (p : Nat) (M : Int) (L : List UInt8) (fs fd : Option Nat) : Prop where
  rs : RS w rb db s p
  hd : db < b
  hr : rb < b
  hs : s.size ≤ 1099511627776
  hM : M ≤ 1099511627776
  hL : (L.length : Int) ≤ max M 0
  cells : ∃ ov, Is w b 38 #[.pointer (some ⟨rb, 0, none⟩), ov, .int .i64 M, ptr fs, ptr fd] ∧ w.ownsRow (b + 1) 5 1 ov L.length (cellsOf L) ∧ ov.ownBlock = og

section
variable {w w' : World} {b rb db : Nat} {og : Option Nat} {s : ByteArray} {p : Nat} {M : Int} {L : List UInt8} {fs fd : Option Nat}
theorem SS.at (h : SS w b rb db og s p M L fs fd) : ∃ A c, Is w b 38 #[.pointer (some ⟨rb, 0, none⟩), .slice A L.length c, .int .i64 M, ptr fs, ptr fd] ∧ w.ownsRow (b + 1) 5 1 (.slice A L.length c) L.length (cellsOf L) ∧ (Value.slice A L.length c).ownBlock = og := by
  obtain ⟨ov, h1, h2, h3⟩ := h.cells
  rcases h2.2 with ⟨rfl, e⟩ | ⟨g, cap, cur, rfl, _⟩
  · have : L = [] := by cases L with
      | nil => rfl
      | cons x l => simp at e
    subst this
    exact ⟨none, 0, h1, h2, h3⟩
  · exact ⟨_, _, h1, h2, h3⟩
theorem SS.out (h : SS w b rb db og s p M L fs fd) : ∀ g, og = some g → b < g ∧ g < w.heap.size := fun g hg => by
  obtain ⟨ov, h1, h2, h3⟩ := h.cells
  have := h2.lt g (by rw [h3]; exact hg)
  omega
theorem SS.lt (h : SS w b rb db og s p M L fs fd) : b < w.heap.size := by
  obtain ⟨ov, h1, h2, h3⟩ := h.cells
  exact h1.lt
/-- The stream when its reader alone has moved. -/
theorem SS.read {q : Nat} {S : List Nat} (h : SS w b rb db og s p M L fs fd) (hR : RS w' rb db s q) (hB : But S w w') (hS : ∀ k ∈ S, k = rb ∨ w.heap.size ≤ k) : SS w' b rb db og s q M L fs fd := by
  have hlt := h.lt
  have hout := h.out
  have hr := h.hr
  have hb : b ∉ S := fun hk => by rcases hS b hk with e | e <;> omega
  obtain ⟨ov, h1, h2, h3⟩ := h.cells
  refine ⟨hR, h.hd, h.hr, h.hs, h.hM, h.hL, ov, h1.but hB hb, ownsRow_but h2 hB fun g hg hk => ?_, h3⟩
  have := hout g (h3 ▸ hg)
  rcases hS g hk with e | e <;> omega
theorem SS.but {S : List Nat} (h : SS w b rb db og s p M L fs fd) (hB : But S w w') (hS : ∀ k ∈ S, w.heap.size ≤ k) : SS w' b rb db og s p M L fs fd := by
  have hlt := h.lt
  have h1 := h.hd
  have h2 := h.hr
  exact h.read (h.rs.but hB (fun hk => by have := hS _ hk; omega) (fun hk => by have := hS _ hk; omega)) hB fun k hk => .inr (hS k hk)
/-- The stream when only other memory is written. -/
theorem SS.away {S : List Nat} (h : SS w b rb db og s p M L fs fd) (hB : But S w w') (hS : ∀ k ∈ S, k ∉ Foot b rb og ∧ k ≠ db) : SS w' b rb db og s p M L fs fd := by
  obtain ⟨ov, h1, h2, h3⟩ := h.cells
  have f1 : b ∉ S := fun hk => (hS b hk).1 (by simp [Foot])
  have f2 : rb ∉ S := fun hk => (hS rb hk).1 (by simp [Foot])
  exact ⟨h.rs.but hB f2 (fun hk => (hS db hk).2 rfl), h.hd, h.hr, h.hs, h.hM, h.hL, ov, h1.but hB f1, ownsRow_but h2 hB fun g hg hk => (hS g hk).1 (by rw [← h3, hg]; simp [Foot]), h3⟩
theorem foot_lt (h : SS w b rb db og s p M L fs fd) : ∀ k ∈ Foot b rb og, k < w.heap.size := fun k hk => by
  have h1 := h.lt
  have h2 := h.hr
  unfold Foot at hk
  rcases List.mem_cons.1 hk with e | hk
  · omega
  rcases List.mem_cons.1 hk with e | hk
  · omega
  exact (h.out k (by simpa using hk)).2
theorem SS.drewN (h : SS w b rb db og s p M L fs fd) (n : Nat) : SS (w.drewN n) b rb db og s p M L fs fd := h.but ((But.refl [] w).drewN n) (by simp)

theorem SS.room (h : SS w b rb db og s p M L fs fd) (n : Nat) (hn : n ≤ 1000000) :
    Calls Tryd.prog 32 #[.pointer (some ⟨b, 0, none⟩), .int .i64 n] w fun e w' => e = .returned (.int .i64 (if M < (L.length : Int) + (n : Int) then 5 else 0)) ∧ ∃ nq, w' = w.drewN nq := by
  have hL := h.hL
  have hM := h.hM
  obtain ⟨A, c, hi, _, _⟩ := h.at
  have h1 : w.cell? ⟨b, 1, none⟩ = some (.slice A L.length c) := hi.cell 1
  have h2 : w.cell? ⟨b, 2, none⟩ = some (.int .i64 M) := hi.cell 2
  have hb : L.length ≤ 1099511627776 := by omega
  generalize L.length = k at *
  have e1 : IntKind.i64.wrap ((k : Int) + (n : Int)) = (k : Int) + (n : Int) := IntWalk.i64_in _ (by omega)
  clear h hi hL hM
  by_cases hm : M < (k : Int) + (n : Int)
  · rw [if_pos hm]
    have d : decide (M < (k : Int) + (n : Int)) = true := by simpa using hm
    clear hm
    go_enter Tryd.func32, Tryd.ntmps32
    go_wp2
    go_quiet (fail)
    go_wp2
    go_ret
    exact ⟨rfl, nq, rfl⟩
  · rw [if_neg hm]
    have d : decide (M < (k : Int) + (n : Int)) = false := by simpa using hm
    clear hm
    go_enter Tryd.func32, Tryd.ntmps32
    go_wp2
    go_quiet (fail)
    go_wp2
    go_ret
    exact ⟨rfl, nq, rfl⟩

/-- A step told a number, or an error. -/
def GotN (w : World) (b rb db : Nat) (og : Option Nat) (s : ByteArray) (M : Int) (L : List UInt8) (fs fd : Option Nat) (r : Except Int (Nat × Nat)) (e : Ending) (w' : World) : Prop :=
  ∃ (v : Nat) (er : Int) (q : Nat), e = .returned (.tuple #[.int .i64 v, .int .i64 er]) ∧ Mv b rb w w' og og ∧ (er ≠ 0 → r = .error er) ∧ (er = 0 → r = .ok (v, q) ∧ SS w' b rb db og s q M L fs fd)
theorem rb_foot : ∀ k ∈ [rb], k ∈ Foot b rb og ∨ w.heap.size ≤ k := fun k hk => .inl (by simp at hk; subst hk; simp [Foot])

theorem bits_of {n : Nat} : (rBits n s p = .error (bitsErr s p n) ∧ bitsErr s p n ≠ 0) ∨ (rBits n s p = .ok (bitsVal s p n, bitsGo s p n) ∧ bitsErr s p n = 0) := by
  by_cases h : bitsErr s p n = 0
  · exact .inr ⟨rBits_val h, h⟩
  · exact .inl ⟨rBits_err h, h⟩
/-- The reader's Bits, at a stream: what it tells, and the plain step. -/
theorem SS.bits (h : SS w b rb db og s p M L fs fd) (n : Nat) :
    Calls Tryd.prog 27 #[.pointer (some ⟨rb, 0, none⟩), .int .i64 n] w (GotN w b rb db og s M L fs fd (rBits n s p)) := by
  refine (h.rs.bits (by have := h.hs; omega) (n : Int)).mono ?_
  rintro e w' ⟨rfl, hR, hB⟩
  refine ⟨_, _, bitsGo s p n, rfl, Mv.of hB rb_foot, fun he => rBits_err he, fun he => ⟨rBits_val he, h.read hR hB fun k hk => .inl (by simpa using hk)⟩⟩
theorem SS.next {l : List Int} {bt : Nat} (h : SS w b rb db og s p M L fs fd) (hc : chk l = 0) (hT : Keep (Foot b rb og) w fun w' => TT w' bt l) :
    Calls Tryd.prog 18 #[.pointer (some ⟨bt, 0, none⟩), .pointer (some ⟨rb, 0, none⟩)] w (GotN w b rb db og s M L fs fd (rNext l s p)) := by
  refine (next_any (bt := bt) hc h.rs (by have := h.hs; omega) (fun w' hw => hT w' (hw.more (by simp [Foot])))).mono ?_
  rintro e w' ⟨⟨q1, q2, q3⟩, hq, rfl, hR, hB⟩
  refine ⟨_, _, q3, rfl, Mv.of hB rb_foot, fun he => rNext_err hq he, fun he => ?_⟩
  dsimp only at he
  subst he
  exact ⟨rNext_val hq, h.read hR hB fun k hk => .inl (by simpa using hk)⟩
theorem rBits_lt {n x q : Nat} (h : rBits n s p = .ok (x, q)) : x < 2 ^ n := by
  unfold rBits at h
  split at h
  · cases h
  · injection h with h; injection h with h _
    subst h
    exact bitsVal_lt s p n
end
end Go.Proofs.YtobmghjpfkdooaaDoor
