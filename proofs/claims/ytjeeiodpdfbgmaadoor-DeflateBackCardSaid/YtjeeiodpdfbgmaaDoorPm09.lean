/- Several texts in one: InfX, InfY, InfZ, InfSt, LzM, DefM, DefN, DefO, BestM, DefP (what Back, Best, Dynamic, Fixed, Least, Runs, Stored reach of them). -/
import Derived.Test.YtjeeiodpdfbgmaaDoorPm01
import Derived.Test.YtjeeiodpdfbgmaaDoorPm02
import Derived.Test.YtjeeiodpdfbgmaaDoorPm03
import Derived.Test.YtjeeiodpdfbgmaaDoorPm04
import Derived.Test.YtjeeiodpdfbgmaaDoorPm05
import Derived.Test.YtjeeiodpdfbgmaaDoorPm06
import Derived.Test.YtjeeiodpdfbgmaaDoorPm07
import Derived.Test.YtjeeiodpdfbgmaaDoorPm08
import Derived.Below
import Derived.BigQuiet
import Derived.BigRegion
import Derived.Deep.AppendLies
import Derived.Deep.CutRange
import Derived.Deep.DeepCutAuto
import Derived.Deep.Draws
import Derived.Deep.LoopGhost
import Derived.Deep.QuietTactic
import Derived.Deep.RegionLaw
import Derived.Deep.RegionWith
import Derived.Deep.Slices
import Derived.Laws.BitsAllLaws
import Derived.Laws.BitsLemmas
import Derived.Laws.IdiomStrings
import Derived.Laws.OwnMore
import Derived.Laws.Rows
import Derived.Lib.AppendStr
import Derived.Lib.Hide
import Derived.Lib.Strings
import Derived.LoopIn
import Derived.LoopNIn
import Derived.OneCell
import Derived.OpenShut
import Derived.Outline
import Derived.OwnWalk
import Derived.OwnWalkIn
import Derived.ProofKit
import Derived.RangeFuncBound
import Derived.RangeFuncCalls
import Derived.RangeFuncLeaves
import Derived.RangeFuncNested
import Derived.RegionTactic
import Derived.Shelf.Abstract
import Derived.Shelf.RegionOpen
import Derived.Shelf.SlSortCmp.QuietGrown
import Derived.StillTailTactics
import Derived.TacticsInMore
import Derived.Test.YtjeeiodpdfbgmaaDoorChecked
import Derived.WalkKit
import Derived.WalkLawsBesides
import Derived.WalkSpells
set_option maxRecDepth 100000
set_option linter.unusedVariables false
namespace Go.Proofs.YtjeeiodpdfbgmaaDoor
set_option maxRecDepth 100000
open Go Go.RowKit
def Keep (F : List Nat) (w : World) (Q : World → Prop) : Prop := ∀ w', But F w w' → Q w'
theorem But.join {F F' : List Nat} {w w1 w2 : World} (h : But F w w1) (k : But F' w1 w2) (hF : ∀ i ∈ F', i ∈ F ∨ w.heap.size ≤ i) : But F w w2 :=
  ⟨k.os.trans h.os, k.tape.trans h.tape, k.output.trans h.output, Nat.le_trans h.size k.size, fun i hi hn =>
    (k.block i (Nat.lt_of_lt_of_le hi h.size) (fun e => by
      rcases hF i e with h1 | h1
      · exact hn h1
      · omega)).trans (h.block i hi hn)⟩
theorem Keep.now {F : List Nat} {w : World} {Q : World → Prop} (h : Keep F w Q) : Q w := h w (But.refl _ _)
theorem Keep.step {F F' : List Nat} {w w1 : World} {Q : World → Prop} (h : Keep F w Q) (hB : But F w w1) (hF : ∀ i ∈ F', i ∈ F ∨ w.heap.size ≤ i) : Keep F' w1 Q := fun w' hw => h w' (hB.join hw hF)
theorem NewT.keep {lo b : Nat} {w : World} {l : List Int} {F : List Nat} (h : NewT lo w b l) (hF : ∀ k ∈ F, k < lo) : Keep F w fun w' => TT w' b l := fun _ hw => (h.but hw hF).tt

/-- The blocks that a stream's steps write. -/
def Foot (b rb : Nat) (og : Option Nat) : List Nat := b :: rb :: og.toList
/-- From one world to the next: only a stream's blocks are written; its bytes lie where they lay or in new memory. -/
structure Mv (b rb : Nat) (w w' : World) (og og' : Option Nat) : Prop where
  but : But (Foot b rb og) w w'
  own : ∀ g, og' = some g → og = some g ∨ w.heap.size ≤ g
theorem Mv.foot {b rb : Nat} {w w' : World} {og og' : Option Nat} (h : Mv b rb w w' og og') : ∀ i ∈ Foot b rb og', i ∈ Foot b rb og ∨ w.heap.size ≤ i := fun i hi => by
  unfold Foot at hi ⊢
  rcases List.mem_cons.1 hi with h1 | hi
  · left; simp [h1]
  rcases List.mem_cons.1 hi with h1 | hi
  · left; simp [h1]
  rcases h.own i (by simpa using hi) with h1 | h1
  · left; simp [h1]
  · right; exact h1
theorem Mv.refl (b rb : Nat) (w : World) (og : Option Nat) : Mv b rb w w og og := ⟨But.refl _ _, fun _ h => .inl h⟩
theorem Mv.trans {b rb : Nat} {w w1 w2 : World} {og og1 og2 : Option Nat} (h : Mv b rb w w1 og og1) (k : Mv b rb w1 w2 og1 og2) : Mv b rb w w2 og og2 :=
  ⟨h.but.join k.but h.foot, fun g hg => by
    rcases k.own g hg with h1 | h1
    · exact h.own g h1
    · right; have := h.but.size; omega⟩
theorem Mv.keep {b rb : Nat} {w w1 : World} {og og1 : Option Nat} {Q : World → Prop} (h : Mv b rb w w1 og og1) (k : Keep (Foot b rb og) w Q) : Keep (Foot b rb og1) w1 Q := k.step h.but h.foot
/-- What writes nothing of the stream. -/
theorem Mv.of {b rb : Nat} {w w' : World} {og : Option Nat} {S : List Nat} (h : But S w w') (hS : ∀ k ∈ S, k ∈ Foot b rb og ∨ w.heap.size ≤ k) : Mv b rb w w' og og :=
  ⟨⟨h.os, h.tape, h.output, h.size, fun k hk hn => h.block k hk fun hs => by
    rcases hS k hs with h1 | h1
    · exact hn h1
    · omega⟩, fun _ h => .inl h⟩
theorem Mv.drewN {b rb : Nat} {w : World} {og : Option Nat} (n : Nat) : Mv b rb w (w.drewN n) og og := Mv.of ((But.refl [] w).drewN n) (by simp)

def ptr (o : Option Nat) : Value := .pointer (o.map fun k => ⟨k, 0, none⟩)
/-- The stream in block b, its reader in block rb over the bytes of block db: p bits are consumed, the bytes L are told, in block og. -/
structure SS (w : World) (b rb db : Nat) (og : Option Nat) (s : ByteArray) (p : Nat) (M : Int) (L : List UInt8) (fs fd : Option Nat) : Prop where
  rs : RS w rb db s p
  hd : db < b
  hr : rb < b
  hs : s.size ≤ 140737489403904
  hM : M ≤ 1099511627776
  hL : (L.length : Int) ≤ max M 0
  cells : ∃ ov, Is w b 77 #[.pointer (some ⟨rb, 0, none⟩), ov, .int .i64 M, ptr fs, ptr fd] ∧ w.ownsRow (b + 1) 5 1 ov L.length (cellsOf L) ∧ ov.ownBlock = og

section
variable {w w' : World} {b rb db : Nat} {og : Option Nat} {s : ByteArray} {p : Nat} {M : Int} {L : List UInt8} {fs fd : Option Nat}
theorem SS.at (h : SS w b rb db og s p M L fs fd) : ∃ A c, Is w b 77 #[.pointer (some ⟨rb, 0, none⟩), .slice A L.length c, .int .i64 M, ptr fs, ptr fd] ∧ w.ownsRow (b + 1) 5 1 (.slice A L.length c) L.length (cellsOf L) ∧ (Value.slice A L.length c).ownBlock = og := by
  obtain ⟨ov, h1, h2, h3⟩ := h.cells
  rcases h2.2 with ⟨rfl, e⟩ | ⟨g, cap, cur, rfl, _⟩
  · have : L = [] := by cases L with
      | nil => rfl
      | cons x l => simp at e
    subst this
    exact ⟨none, 0, h1, h2, h3⟩
  · exact ⟨_, _, h1, h2, h3⟩
theorem SS.out (h : SS w b rb db og s p M L fs fd) : ∀ g, og = some g → b < g ∧ g < w.heap.size := fun g hg => by
  obtain ⟨ov, h1, h2, h3⟩ := h.cells
  have := h2.lt g (by rw [h3]; exact hg)
  omega
theorem SS.lt (h : SS w b rb db og s p M L fs fd) : b < w.heap.size := by
  obtain ⟨ov, h1, h2, h3⟩ := h.cells
  exact h1.lt
/-- The stream when its reader alone has moved. -/
theorem SS.read {q : Nat} {S : List Nat} (h : SS w b rb db og s p M L fs fd) (hR : RS w' rb db s q) (hB : But S w w') (hS : ∀ k ∈ S, k = rb ∨ w.heap.size ≤ k) : SS w' b rb db og s q M L fs fd := by
  have hlt := h.lt
  have hout := h.out
  have hr := h.hr
  have hb : b ∉ S := fun hk => by rcases hS b hk with e | e <;> omega
  obtain ⟨ov, h1, h2, h3⟩ := h.cells
  refine ⟨hR, h.hd, h.hr, h.hs, h.hM, h.hL, ov, h1.but hB hb, ownsRow_but h2 hB fun g hg hk => ?_, h3⟩
  have := hout g (h3 ▸ hg)
  rcases hS g hk with e | e <;> omega
theorem SS.but {S : List Nat} (h : SS w b rb db og s p M L fs fd) (hB : But S w w') (hS : ∀ k ∈ S, w.heap.size ≤ k) : SS w' b rb db og s p M L fs fd := by
  have hlt := h.lt
  have h1 := h.hd
  have h2 := h.hr
  exact h.read (h.rs.but hB (fun hk => by have := hS _ hk; omega) (fun hk => by have := hS _ hk; omega)) hB fun k hk => .inr (hS k hk)
theorem SS.drewN (h : SS w b rb db og s p M L fs fd) (n : Nat) : SS (w.drewN n) b rb db og s p M L fs fd := h.but ((But.refl [] w).drewN n) (by simp)

/-- A step told a number, or an error. -/
def GotN (w : World) (b rb db : Nat) (og : Option Nat) (s : ByteArray) (M : Int) (L : List UInt8) (fs fd : Option Nat) (r : Except Int (Nat × Nat)) (e : Ending) (w' : World) : Prop :=
  ∃ (v : Nat) (er : Int) (q : Nat), e = .returned (.tuple #[.int .i64 v, .int .i64 er]) ∧ Mv b rb w w' og og ∧ (er ≠ 0 → r = .error er) ∧ (er = 0 → r = .ok (v, q) ∧ SS w' b rb db og s q M L fs fd)
theorem rb_foot : ∀ k ∈ [rb], k ∈ Foot b rb og ∨ w.heap.size ≤ k := fun k hk => .inl (by simp at hk; subst hk; simp [Foot])

/-- The reader's Bits, at a stream: what it tells, and the plain step. -/
theorem SS.bits (h : SS w b rb db og s p M L fs fd) (n : Nat) :
    Calls Tryd.prog 80 #[.pointer (some ⟨rb, 0, none⟩), .int .i64 n] w (GotN w b rb db og s M L fs fd (rBits n s p)) := by
  refine (h.rs.bits_w (by have := h.hs; omega) (n : Int)).mono ?_
  rintro e w' ⟨rfl, hR, hB⟩
  refine ⟨_, _, bitsGo s p n, rfl, Mv.of hB rb_foot, fun he => rBits_err he, fun he => ⟨rBits_val he, h.read hR hB fun k hk => .inl (by simpa using hk)⟩⟩
theorem SS.next {l : List Int} {bt : Nat} (h : SS w b rb db og s p M L fs fd) (hc : chk l = 0) (hT : Keep (Foot b rb og) w fun w' => TT w' bt l) :
    Calls Tryd.prog 63 #[.pointer (some ⟨bt, 0, none⟩), .pointer (some ⟨rb, 0, none⟩)] w (GotN w b rb db og s M L fs fd (rNext l s p)) := by
  refine (next_w (bt := bt) hc h.rs (by have := h.hs; omega) (fun w' hw => hT w' (hw.more (by simp [Foot])))).mono ?_
  rintro e w' ⟨⟨q1, q2, q3⟩, hq, rfl, hR, hB⟩
  refine ⟨_, _, q3, rfl, Mv.of hB rb_foot, fun he => rNext_err hq he, fun he => ?_⟩
  dsimp only at he
  subst he
  exact ⟨rNext_val hq, h.read hR hB fun k hk => .inl (by simpa using hk)⟩
end
end Go.Proofs.YtjeeiodpdfbgmaaDoor
namespace Go.Proofs.YtjeeiodpdfbgmaaDoor
set_option maxRecDepth 100000
open Go Go.RowKit
section
variable {w w' : World} {b rb db : Nat} {og : Option Nat} {s : ByteArray} {p : Nat} {M : Int} {L : List UInt8} {fs fd : Option Nat}
theorem SS.bitsI (h : SS w b rb db og s p M L fs fd) {i : Int} (n : Nat) (hi : i = n) :
    Calls Tryd.prog 80 #[.pointer (some ⟨rb, 0, none⟩), .int .i64 i] w (GotN w b rb db og s M L fs fd (rBits n s p)) := by
  subst hi; exact h.bits n
theorem GotN.of {r : Except Int (Nat × Nat)} {v q : Nat} {er : Int} {e : Ending} (he : e = .returned (.tuple #[.int .i64 v, .int .i64 er])) (hM : Mv b rb w w' og og) (h1 : er ≠ 0 → r = .error er)
    (h2 : er = 0 → r = .ok (v, q) ∧ SS w' b rb db og s q M L fs fd) : GotN w b rb db og s M L fs fd r e w' := ⟨v, er, q, he, hM, h1, h2⟩

end
end Go.Proofs.YtjeeiodpdfbgmaaDoor
namespace Go.Proofs.YtjeeiodpdfbgmaaDoor
set_option maxRecDepth 100000
open Go Go.RowKit
section
variable {w w' : World} {b rb db : Nat} {og : Option Nat} {s : ByteArray} {p : Nat} {M : Int} {L : List UInt8} {fs fd : Option Nat}
theorem SS.alloc (h : SS w b rb db og s p M L fs fd) (o : Obj) : SS (w.alloc o) b rb db og s p M L fs fd := h.but ((But.refl [] w).alloc o) (by simp)
theorem SS.drew (h : SS w b rb db og s p M L fs fd) : SS w.drew b rb db og s p M L fs fd := h.but ((But.refl [] w).drew) (by simp)
theorem Mv.alloc {og : Option Nat} (o : Obj) : Mv b rb w (w.alloc o) og og := Mv.of ((But.refl [] w).alloc o) (by simp)
theorem Mv.drew {og : Option Nat} : Mv b rb w w.drew og og := Mv.of ((But.refl [] w).drew) (by simp)
end
end Go.Proofs.YtjeeiodpdfbgmaaDoor
namespace Go.Proofs.YtjeeiodpdfbgmaaDoor
set_option maxRecDepth 100000
open Go Go.RowKit
section
variable {w w' : World} {b rb db : Nat} {og : Option Nat} {s : ByteArray} {p : Nat} {M : Int} {L : List UInt8} {fs fd : Option Nat}
/-- A step told bytes, or an error. -/
def GotB (w : World) (b rb db : Nat) (og : Option Nat) (s : ByteArray) (M : Int) (L : List UInt8) (fs fd : Option Nat) (r : Except Int (ByteArray × Nat)) (e : Ending) (w' : World) : Prop :=
  ∃ (v : ByteArray) (er : Int) (q : Nat), e = .returned (.tuple #[.string v, .int .i64 er]) ∧ Mv b rb w w' og og ∧ (er ≠ 0 → r = .error er) ∧ (er = 0 → r = .ok (v, q) ∧ SS w' b rb db og s q M L fs fd)
theorem SS.bytes (h : SS w b rb db og s p M L fs fd) (n : Nat) :
    Calls Tryd.prog 95 #[.pointer (some ⟨rb, 0, none⟩), .int .i64 n] w (GotB w b rb db og s M L fs fd (rBytes n s p)) := by
  refine (h.rs.bytes_w (by have := h.hs; omega) (n : Int)).mono ?_
  rintro e w' ⟨rfl, hR, hB⟩
  refine ⟨_, _, bytesGo s p n, rfl, Mv.of hB rb_foot, fun he => rBytes_err he, fun he => ⟨rBytes_val he, h.read hR hB fun k hk => .inl (by simpa using hk)⟩⟩
/-- A step told an error, or the stream with its new bytes. -/
def GotE (w : World) (b rb db : Nat) (og : Option Nat) (s : ByteArray) (M : Int) (fs fd : Option Nat) (r : Except Int (List UInt8 × Nat)) (e : Ending) (w' : World) : Prop :=
  ∃ (er : Int) (L' : List UInt8) (q : Nat) (og' : Option Nat), e = .returned (.int .i64 er) ∧ Mv b rb w w' og og' ∧ (er ≠ 0 → r = .error er) ∧ (er = 0 → r = .ok (L', q) ∧ SS w' b rb db og' s q M L' fs fd)
theorem GotE.of {r : Except Int (List UInt8 × Nat)} {er : Int} {L' : List UInt8} {q : Nat} {og' : Option Nat} {e : Ending} (he : e = .returned (.int .i64 er)) (hM : Mv b rb w w' og og') (h1 : er ≠ 0 → r = .error er)
    (h2 : er = 0 → r = .ok (L', q) ∧ SS w' b rb db og' s q M L' fs fd) : GotE w b rb db og s M fs fd r e w' := ⟨er, L', q, og', he, hM, h1, h2⟩

theorem out_ne {A : Option Addr} {k c : Nat} {cs : Array Value} {t : TypeId} {xs : List Value} (h : w.ownsRow (b + 1) 5 1 (.slice A k c) k xs) (_hi : Is w b t cs) : (Value.slice A k c).ownBlock ≠ some b := fun e => by
  have := (h.lt b e).1; omega
/-- The stream when its bytes have grown. -/
theorem SS.put (h : SS w b rb db og s p M L fs fd) {A A2 : Option Addr} {c k c2 : Nat} {w1 w2 : World} {L2 : List UInt8} (hB1 : But [] w w1)
    (hi : Is w b 77 #[.pointer (some ⟨rb, 0, none⟩), .slice A L.length c, .int .i64 M, ptr fs, ptr fd]) (hog : (Value.slice A L.length c).ownBlock = og)
    (hg : w1.grownBy w2 (Value.slice A L.length c).ownBlock) (ho : w2.ownsRow (b + 1) 5 1 (.slice A2 k c2) k (cellsOf L2)) (hk : L2.length = k)
    (hat : ∀ g, (Value.slice A2 k c2).ownBlock = some g → (Value.slice A L.length c).ownBlock = some g ∨ w.heap.size ≤ g) (hL2 : (L2.length : Int) ≤ max M 0) :
    SS (w2.setCell ⟨b, 1, none⟩ (.slice A2 k c2)) b rb db (Value.slice A2 k c2).ownBlock s p M L2 fs fd ∧ Mv b rb w (w2.setCell ⟨b, 1, none⟩ (.slice A2 k c2)) og (Value.slice A2 k c2).ownBlock := by
  have hout := h.out
  have hlt := h.lt
  have hd := h.hd
  have hr := h.hr
  subst hk
  have hB2 : But (b :: rb :: og.toList) w w2 := (hB1.more (by simp)).grown hg (fun g e => .inl (by rw [hog] at e; simp [e]))
  have hB3 : But og.toList w w2 := (hB1.more (by simp)).grown hg (fun g e => .inl (by rw [hog] at e; simp [e]))
  have hfar : ∀ x, x ≤ b → x ∉ og.toList := fun x hx hm => by
    have := (hout x (by simpa using hm)).1; omega
  have hne2 := out_ne ho (hi.but hB3 (hfar b (Nat.le_refl _)))
  have hB4 : But (b :: rb :: og.toList) w (w2.setCell ⟨b, 1, none⟩ (.slice A2 L2.length c2)) := hB2.setCell (.inl (by simp)) _
  have hB5 : But (b :: og.toList) w (w2.setCell ⟨b, 1, none⟩ (.slice A2 L2.length c2)) := (hB3.more (fun k hk => List.mem_cons_of_mem _ hk)).setCell (.inl (by simp)) _
  have hnb : ∀ x, x < b → x ∉ b :: og.toList := fun x hx hm => by
    rcases List.mem_cons.1 hm with e | e
    · omega
    · exact hfar x (by omega) e
  refine ⟨⟨h.rs.but hB5 (hnb rb hr) (hnb db hd), hd, hr, h.hs, h.hM, hL2, _, ?_, ?_, rfl⟩, ⟨hB4, fun g e => ?_⟩⟩
  · simpa using (hi.but hB3 (hfar b (Nat.le_refl _))).put 1 (.slice A2 L2.length c2)
  · exact ownsRow_setCell_other ho (a := ⟨b, 1, none⟩) hne2 _
  · rcases hat g e with h1 | h1
    · exact .inl (hog ▸ h1)
    · exact .inr h1
end
end Go.Proofs.YtjeeiodpdfbgmaaDoor
namespace Go.Proofs.YtjeeiodpdfbgmaaDoor
set_option maxRecDepth 100000
/-- How many bytes from i on are as those so far before: at most so many more. -/
def runG (l : List UInt8) (i d : Nat) : Nat → Nat → Nat
  | 0, n => n
  | f + 1, n => if i + n < l.length ∧ l.getD (i + n) 0 = l.getD (i + n - d) 0 then runG l i d f (n + 1) else n
def runLen (l : List UInt8) (i d : Nat) : Nat := runG l i d 258 0
theorem runG_le (l : List UInt8) (i d : Nat) : ∀ f n, runG l i d f n ≤ n + f
  | 0, _ => Nat.le_refl _
  | f + 1, n => by
    rw [runG]; split
    · have := runG_le l i d f (n + 1); omega
    · omega
theorem runG_in (l : List UInt8) (i d : Nat) : ∀ f n, i + n ≤ l.length → i + runG l i d f n ≤ l.length
  | 0, _, h => h
  | f + 1, n, h => by
    rw [runG]; split
    · rename_i hc; exact runG_in l i d f (n + 1) (by omega)
    · exact h
theorem runG_same (l : List UInt8) (i d : Nat) : ∀ f n k, n ≤ k → k < runG l i d f n → l.getD (i + k) 0 = l.getD (i + k - d) 0
  | 0, _, _, h1, h2 => by simp only [runG] at h2; omega
  | f + 1, n, k, h1, h2 => by
    rw [runG] at h2
    split at h2
    · rename_i hc
      by_cases e : k = n
      · subst e; exact hc.2
      · exact runG_same l i d f (n + 1) k (by omega) h2
    · omega
theorem runLen_le (l : List UInt8) (i d : Nat) : runLen l i d ≤ 258 := by have := runG_le l i d 258 0; unfold runLen; omega

/-- The longest run, and the smallest distance that has it, of the distances up to D. -/
def bestG (l : List UInt8) (i : Nat) : Nat → Nat × Nat
  | 0 => (0, 0)
  | d + 1 => if (bestG l i d).1 < runLen l i (d + 1) then (runLen l i (d + 1), d + 1) else bestG l i d
def bestAt (l : List UInt8) (i : Nat) : Nat × Nat := bestG l i (min 512 i)
theorem bestG_is (l : List UInt8) (i : Nat) : ∀ D, (bestG l i D = (0, 0)) ∨ (1 ≤ (bestG l i D).2 ∧ (bestG l i D).2 ≤ D ∧ (bestG l i D).1 = runLen l i (bestG l i D).2 ∧ 0 < (bestG l i D).1)
  | 0 => .inl rfl
  | d + 1 => by
    rw [bestG]; split
    · rename_i h; right; exact ⟨by dsimp only; omega, Nat.le_refl _, rfl, by dsimp only; omega⟩
    · rcases bestG_is l i d with h | h
      · exact .inl h
      · right; exact ⟨h.1, by omega, h.2.2⟩
/-- A token: its length, its distance, its byte. -/
abbrev Tk := Nat × Nat × Nat
def toksG (l : List UInt8) : Nat → Nat → List Tk
  | 0, _ => []
  | f + 1, i => if i < l.length then (if 3 ≤ (bestAt l i).1 then ((bestAt l i).1, (bestAt l i).2, 0) :: toksG l f (i + (bestAt l i).1) else (0, 0, (l.getD i 0).toNat) :: toksG l f (i + 1)) else []
def toks (l : List UInt8) : List Tk := toksG l l.length 0
theorem best_match {l : List UInt8} {i : Nat} (hi : i < l.length) (h : 3 ≤ (bestAt l i).1) : 1 ≤ (bestAt l i).2 ∧ (bestAt l i).2 ≤ 512 ∧ (bestAt l i).2 ≤ i ∧ (bestAt l i).1 ≤ 258 ∧ i + (bestAt l i).1 ≤ l.length ∧
    ∀ k, k < (bestAt l i).1 → l.getD (i + k) 0 = l.getD (i + k - (bestAt l i).2) 0 := by
  rcases bestG_is l i (min 512 i) with h1 | ⟨h1, h2, h3, h4⟩
  · have e : bestAt l i = (0, 0) := h1
    rw [e] at h; simp at h
  · refine ⟨h1, by show (bestG l i (min 512 i)).2 ≤ 512; omega, by show (bestG l i (min 512 i)).2 ≤ i; omega, ?_, ?_, ?_⟩
    · show (bestG l i (min 512 i)).1 ≤ 258; rw [h3]; exact runLen_le _ _ _
    · show i + (bestG l i (min 512 i)).1 ≤ l.length; rw [h3]; exact runG_in l i _ 258 0 (by omega)
    · intro k hk
      show l.getD (i + k) 0 = l.getD (i + k - (bestG l i (min 512 i)).2) 0
      exact runG_same l i _ 258 0 k (Nat.zero_le _) (by
        have : k < (bestG l i (min 512 i)).1 := hk
        rw [h3] at this; exact this)
/-- More steps make no difference, where there were enough. -/
theorem toksG_more (l : List UInt8) : ∀ f g i, l.length ≤ i + f → f ≤ g → toksG l g i = toksG l f i
  | 0, 0, _, _, _ => rfl
  | 0, g + 1, i, h, _ => by
    have e : toksG l 0 i = [] := rfl
    rw [e, toksG, if_neg (by omega)]
  | f + 1, g + 1, i, h, hg => by
    rw [toksG, toksG]
    by_cases hi : i < l.length
    · rw [if_pos hi, if_pos hi]
      by_cases hb : 3 ≤ (bestAt l i).1
      · rw [if_pos hb, if_pos hb, toksG_more l f g _ (by omega) (by omega)]
      · rw [if_neg hb, if_neg hb, toksG_more l f g _ (by omega) (by omega)]
    · rw [if_neg hi, if_neg hi]

def tkI (t : Tk) : Int × Int × Int := (t.1, t.2.1, t.2.2)
def spanTk (t : Tk) : Nat := max t.1 1
theorem toks_span (l : List UInt8) : ∀ f i, l.length ≤ i + f → i ≤ l.length → ((toksG l f i).map spanTk).sum = l.length - i
  | 0, i, h, hi => by simp [toksG]; omega
  | f + 1, i, h, hi => by
    rw [toksG]
    by_cases hlt : i < l.length
    · rw [if_pos hlt]
      by_cases hb : 3 ≤ (bestAt l i).1
      · obtain ⟨b1, b2, b3, b4, b5, b6⟩ := best_match hlt hb
        rw [if_pos hb, List.map_cons, List.sum_cons, toks_span l f _ (by omega) b5]
        unfold spanTk; dsimp only; omega
      · rw [if_neg hb, List.map_cons, List.sum_cons, toks_span l f _ (by omega) (by omega)]
        unfold spanTk; dsimp only; omega
    · rw [if_neg hlt]; simp; omega
theorem toks_few (l : List UInt8) : (toks l).length ≤ l.length := by
  have h := toks_span l l.length 0 (by omega) (Nat.zero_le _)
  have : ∀ ts : List Tk, ts.length ≤ (ts.map spanTk).sum := by
    intro ts
    induction ts with
    | nil => exact Nat.le_refl _
    | cons t ts ih => rw [List.map_cons, List.sum_cons, List.length_cons]; unfold spanTk at *; omega
  have := this (toksG l l.length 0)
  unfold toks; omega

end Go.Proofs.YtjeeiodpdfbgmaaDoor
set_option linter.unusedVariables false
namespace Go.Proofs.YtjeeiodpdfbgmaaDoor
set_option maxRecDepth 100000
/-- The first number of bits is the beginning of the second one. -/
def Ext (q r : Nat × Nat) : Prop := q.2 ≤ r.2 ∧ r.1 % 2 ^ q.2 = q.1 ∧ r.1 < 2 ^ r.2
theorem Ext.refl {q : Nat × Nat} (h : q.1 < 2 ^ q.2) : Ext q q := ⟨Nat.le_refl _, Nat.mod_eq_of_lt h, h⟩
theorem Ext.trans {a b c : Nat × Nat} (h : Ext a b) (k : Ext b c) : Ext a c :=
  ⟨Nat.le_trans h.1 k.1, by rw [← h.2.1, ← k.2.1, Nat.mod_mod_of_dvd _ (Nat.pow_dvd_pow 2 h.1)], k.2.2⟩
theorem Ext.lt {a b : Nat × Nat} (h : Ext a b) : a.1 < 2 ^ a.2 := by rw [← h.2.1]; exact Nat.mod_lt _ (Nat.two_pow_pos _)
/-- Bits that are laid. -/
def layB (q : Nat × Nat) (v n : Nat) : Nat × Nat := (layX q.1 q.2 v n, layN q.2 n)
theorem layB_eq {q : Nat × Nat} {v n : Nat} (hn : n ≤ 24) (hv : v < 2 ^ n) : layB q v n = (q.1 + v * 2 ^ q.2, q.2 + n) := by
  unfold layB layX layN
  rw [if_neg (by omega), if_neg (by omega), Int.toNat_natCast]
  have e : ((v : Int) % 2 ^ n).toNat = v := by
    have e2 : ((2 : Int) ^ n) = ((2 ^ n : Nat) : Int) := by simp
    rw [e2, Int.emod_eq_of_lt (by omega) (by exact_mod_cast hv), Int.toNat_natCast]
  rw [e]
/-- The code of a symbol, laid. -/
def layC (l : List Int) (q : Nat × Nat) (t : Nat) : Nat × Nat := layS l t q.1 q.2
def lsymG (n : Nat) : Nat → Nat
  | 0 => 257
  | k + 1 => if lenBase (257 + k) ≤ n then 257 + k else lsymG n k
/-- The symbol of a length, of a distance. -/
def lsym (n : Nat) : Nat := lsymG n 29
def dsymG (n : Nat) : Nat → Nat
  | 0 => 0
  | k + 1 => if dstBase k ≤ n then k else dsymG n k
def dsym (n : Nat) : Nat := dsymG n 30
theorem lsym_all : ∀ n, n < 259 → 3 ≤ n → 257 ≤ lsym n ∧ lsym n ≤ 285 ∧ lenBase (lsym n) ≤ n ∧ n - lenBase (lsym n) < 2 ^ lenBits (lsym n) := by decide +kernel
theorem dsym_all : ∀ n, n < 513 → 1 ≤ n → dsym n ≤ 29 ∧ dstBase (dsym n) ≤ n ∧ n - dstBase (dsym n) < 2 ^ dstBits (dsym n) := by decide +kernel
/-- The bits of a token. -/
def layT (l d : List Int) (q : Nat × Nat) (t : Tk) : Nat × Nat := if t.1 = 0 then layC l q t.2.2 else
  layB (layC d (layB (layC l q (lsym t.1)) (t.1 - lenBase (lsym t.1)) (lenBits (lsym t.1))) (dsym t.2.1)) (t.2.1 - dstBase (dsym t.2.1)) (dstBits (dsym t.2.1))
def layTs (l d : List Int) (q : Nat × Nat) (ts : List Tk) : Nat × Nat := ts.foldl (layT l d) q
/-- Has it codes? -/
def tkHas (l d : List Int) (t : Tk) : Prop := if t.1 = 0 then t.2.2 ≤ 255 ∧ has l (t.2.2 : Nat) else 3 ≤ t.1 ∧ t.1 ≤ 258 ∧ 1 ≤ t.2.1 ∧ t.2.1 ≤ 512 ∧ has l (lsym t.1 : Nat) ∧ has d (dsym t.2.1 : Nat)
end Go.Proofs.YtjeeiodpdfbgmaaDoor
set_option linter.unusedVariables false
namespace Go.Proofs.YtjeeiodpdfbgmaaDoor
set_option maxRecDepth 100000
/-- How many numbers from i on are the same. -/
def eqRun (l : List Int) (i : Nat) : Nat → Nat → Nat
  | 0, n => n
  | f + 1, n => if i + n < l.length ∧ l.getD (i + n) 0 = l.getD i 0 then eqRun l i f (n + 1) else n
theorem eqRun_ge (l : List Int) (i : Nat) : ∀ f n, n ≤ eqRun l i f n
  | 0, _ => Nat.le_refl _
  | f + 1, n => by
    rw [eqRun]; split
    · have := eqRun_ge l i f (n + 1); omega
    · exact Nat.le_refl _
theorem eqRun_in (l : List Int) (i : Nat) : ∀ f n, i + n ≤ l.length → i + eqRun l i f n ≤ l.length
  | 0, _, h => h
  | f + 1, n, h => by
    rw [eqRun]; split
    · rename_i hc; exact eqRun_in l i f (n + 1) (by omega)
    · exact h
def runN (l : List Int) (i : Nat) : Nat := eqRun l i l.length 1
/-- A run at i: its code, its number, how many lengths it stands for. -/
def runAt (l : List Int) (i : Nat) : Int × Nat × Nat :=
  if l.getD i 0 = 0 ∧ 11 ≤ runN l i then (18, min (runN l i) 138 - 11, min (runN l i) 138) else
  if l.getD i 0 = 0 ∧ 3 ≤ runN l i then (17, runN l i - 3, runN l i) else
  if l.getD i 0 ≠ 0 ∧ 0 < i ∧ l.getD (i - 1) 0 = l.getD i 0 ∧ 3 ≤ runN l i then (16, min (runN l i) 6 - 3, min (runN l i) 6) else (l.getD i 0, 0, 1)
def runsG (l : List Int) : Nat → Nat → List (Int × Nat)
  | 0, _ => []
  | f + 1, i => if i < l.length then ((runAt l i).1, (runAt l i).2.1) :: runsG l f (i + (runAt l i).2.2) else []
def runs (l : List Int) : List (Int × Nat) := runsG l l.length 0
theorem runAt_pos (l : List Int) (i : Nat) : 1 ≤ (runAt l i).2.2 := by
  unfold runAt
  by_cases h1 : l.getD i 0 = 0 ∧ 11 ≤ runN l i
  · rw [if_pos h1]; dsimp only; omega
  · rw [if_neg h1]
    by_cases h2 : l.getD i 0 = 0 ∧ 3 ≤ runN l i
    · rw [if_pos h2]; dsimp only; omega
    · rw [if_neg h2]
      by_cases h3 : l.getD i 0 ≠ 0 ∧ 0 < i ∧ l.getD (i - 1) 0 = l.getD i 0 ∧ 3 ≤ runN l i
      · rw [if_pos h3]; dsimp only; omega
      · rw [if_neg h3]; exact Nat.le_refl _
/-- The bits of a run. -/
def layR (small : List Int) (q : Nat × Nat) (c : Int × Nat) : Nat × Nat :=
  if c.1 = 16 then layB (layC small q 16) c.2 2 else if c.1 = 17 then layB (layC small q 17) c.2 3 else if c.1 = 18 then layB (layC small q 18) c.2 7 else layC small q c.1.toNat
def layRs (small : List Int) (q : Nat × Nat) (cs : List (Int × Nat)) : Nat × Nat := cs.foldl (layR small) q
end Go.Proofs.YtjeeiodpdfbgmaaDoor
set_option linter.unusedVariables false
namespace Go.Proofs.YtjeeiodpdfbgmaaDoor
set_option maxRecDepth 100000
def layS3 (small : List Int) (q : Nat × Nat) (ks : List Nat) : Nat × Nat := ks.foldl (fun q k => layB q (small.getD k 0).toNat 3) q
theorem set_getD (l : List Int) (i j : Nat) (x : Int) : (l.set i x).getD j 0 = if i = j ∧ j < l.length then x else l.getD j 0 := by
  rw [List.getD_eq_getElem?_getD, List.getD_eq_getElem?_getD]
  by_cases h : i = j
  · subst h
    by_cases h2 : i < l.length
    · rw [List.getElem?_set_self h2, if_pos ⟨rfl, h2⟩]; rfl
    · rw [if_neg (by omega), List.getElem?_eq_none (by simp; omega), List.getElem?_eq_none (by omega)]
  · rw [List.getElem?_set_ne h, if_neg (by omega)]
/-- The bits of a dynamic block behind its kind: both lists of lengths, the small code's lengths, how many of them, and the tokens. -/
def layD (A B small : List Int) (n : Nat) (ts : List Tk) (q : Nat × Nat) : Nat × Nat :=
  layC A (layTs A B (layRs small (layS3 small (layB (layB (layB q (A.length - 257) 5) (B.length - 1) 5) (n - 4) 4) (ordS.take n)) (runs (A ++ B))) ts) 256
structure DynOk (A B small : List Int) (n : Nat) (ts : List Tk) : Prop where
  a1 : 257 ≤ A.length
  a2 : A.length ≤ 288
  b1 : 1 ≤ B.length
  b2 : B.length ≤ 32
  ca : chk A = 0
  cb : chk B = 0
  cs : chk small = 0
  sl : small.length = 19
  s7 : ∀ k, 0 ≤ small.getD k 0 ∧ small.getD k 0 ≤ 7
  n1 : 4 ≤ n
  n2 : n ≤ 19
  s0 : ∀ j, j < 19 → j ∉ ordS.take n → small.getD j 0 = 0
  ab : ∀ i, 0 ≤ (A ++ B).getD i 0 ∧ (A ++ B).getD i 0 ≤ 15
  rs : ∀ c ∈ runs (A ++ B), has small c.1
  he : has A (256 : Nat)
  tk : ∀ t ∈ ts, tkHas A B t
theorem toks_shape (l : List UInt8) : ∀ f i, ∀ t ∈ toksG l f i, (t.1 = 0 ∧ t.2.2 ≤ 255) ∨ (t.1 ≠ 0 ∧ 3 ≤ t.1 ∧ t.1 ≤ 258 ∧ 1 ≤ t.2.1 ∧ t.2.1 ≤ 512)
  | 0, _, t, h => by simp [toksG] at h
  | f + 1, i, t, h => by
    rw [toksG] at h
    by_cases hlt : i < l.length
    · rw [if_pos hlt] at h
      by_cases hb : 3 ≤ (bestAt l i).1
      · obtain ⟨b1, b2, b3, b4, b5, b6⟩ := best_match hlt hb
        rw [if_pos hb] at h
        rcases List.mem_cons.1 h with rfl | h
        · right; exact ⟨by dsimp only; omega, hb, b4, b1, b2⟩
        · exact toks_shape l f _ t h
      · rw [if_neg hb] at h
        rcases List.mem_cons.1 h with rfl | h
        · left
          have := (l.getD i 0).toNat_lt
          exact ⟨rfl, by dsimp only; omega⟩
        · exact toks_shape l f _ t h
    · rw [if_neg hlt] at h; cases h

theorem fixL_has : ∀ t, t < 288 → fixL.getD t 0 ≠ 0 := by decide +kernel
theorem fixD_has : ∀ t, t < 32 → fixD.getD t 0 ≠ 0 := by decide +kernel
theorem hasL {t : Nat} (h : t < 288) : has fixL (t : Nat) := by
  refine show 0 ≤ (t : Int) ∧ (t : Int) < fixL.length ∧ fixL.getD (t : Int).toNat 0 ≠ 0 from ⟨by omega, ?_, by rw [Int.toNat_natCast]; exact fixL_has t h⟩
  have : fixL.length = 288 := by decide +kernel
  omega
theorem hasD {t : Nat} (h : t < 32) : has fixD (t : Nat) := by
  refine show 0 ≤ (t : Int) ∧ (t : Int) < fixD.length ∧ fixD.getD (t : Int).toNat 0 ≠ 0 from ⟨by omega, ?_, by rw [Int.toNat_natCast]; exact fixD_has t h⟩
  have : fixD.length = 32 := by decide +kernel
  omega
theorem toks_fixed (l : List UInt8) : ∀ t ∈ toks l, tkHas fixL fixD t := fun t ht => by
  unfold tkHas
  rcases toks_shape l _ _ t ht with ⟨h1, h2⟩ | ⟨h0, h1, h2, h3, h4⟩
  · rw [if_pos h1]; exact ⟨h2, hasL (by omega)⟩
  · rw [if_neg h0]
    have a := lsym_all t.1 (by omega) h1
    have b := dsym_all t.2.1 (by omega) h3
    exact ⟨h1, h2, h3, h4, hasL (by omega), hasD (by omega)⟩
/-- The bits of the stream of one fixed block. -/
def fixedX (l : List UInt8) : Nat × Nat := layC fixL (layTs fixL fixD (layB (layB (0, 0) 1 1) 1 2) (toks l)) 256
end Go.Proofs.YtjeeiodpdfbgmaaDoor
namespace Go.Proofs.YtjeeiodpdfbgmaaDoor
set_option maxRecDepth 100000
theorem getD_set (l : List Int) (i j : Nat) (x : Int) : (l.set i x).getD j 0 = if i = j ∧ j < l.length then x else l.getD j 0 := by
  rw [List.getD_eq_getElem?_getD, List.getD_eq_getElem?_getD]
  by_cases h : i = j
  · subst h
    by_cases h2 : i < l.length
    · rw [List.getElem?_set_self h2, if_pos ⟨rfl, h2⟩]; rfl
    · rw [if_neg (by omega), List.getElem?_eq_none (by simp; omega), List.getElem?_eq_none (by omega)]
  · rw [List.getElem?_set_ne h, if_neg (by omega)]
theorem nodup_at {cs : List (Nat × Nat)} (hd : (cs.map (·.1)).Nodup) {r q : Nat} (hr : r < cs.length) (hq : q < cs.length) (h : cs[r].1 = cs[q].1) : r = q := by
  have hp := List.pairwise_iff_getElem.1 hd
  apply Classical.byContradiction; intro hne
  rcases Nat.lt_or_gt_of_ne hne with h1 | h1
  · exact hp r q (by simpa using hr) (by simpa using hq) h1 (by simpa using h)
  · exact hp q r (by simpa using hq) (by simpa using hr) h1 (by simpa using h.symm)
theorem bump_at {cs : List (Nat × Nat)} (hd : (cs.map (·.1)).Nodup) {l : List Int} (hlt : ∀ c ∈ cs, c.1 < l.length) {r : Nat} (hr : r < cs.length) : ∀ t, (bump cs t l).getD cs[r].1 0 = l.getD cs[r].1 0 + if r < t then 1 else 0
  | 0 => by simp [bump]
  | t + 1 => by
    have ih := bump_at hd hlt hr t
    by_cases ht : t < cs.length
    · rw [bump_succ cs t l ht, getD_set, length_bump]
      by_cases e : t = r
      · subst e
        rw [if_pos ⟨rfl, hlt _ (List.getElem_mem hr)⟩, ih, if_neg (by omega), if_pos (by omega)]; omega
      · rw [if_neg (fun h => e (nodup_at hd ht hr h.1)), ih]
        by_cases h1 : r < t
        · rw [if_pos h1, if_pos (by omega)]
        · rw [if_neg h1, if_neg (by omega)]
    · have e : bump cs (t + 1) l = bump cs t l := by
        unfold bump; rw [List.take_of_length_le (by omega), List.take_of_length_le (by omega)]
      rw [e, ih, if_pos (by omega), if_pos (by omega)]
theorem bump_off {cs : List (Nat × Nat)} {l : List Int} {s : Nat} (hs : s ∉ cs.map (·.1)) : ∀ t, (bump cs t l).getD s 0 = l.getD s 0
  | 0 => by simp [bump]
  | t + 1 => by
    have ih := bump_off hs t (l := l)
    by_cases ht : t < cs.length
    · rw [bump_succ cs t l ht, getD_set, if_neg, ih]
      rintro ⟨h, _⟩
      exact hs (h ▸ List.mem_map_of_mem (List.getElem_mem ht))
    · have e : bump cs (t + 1) l = bump cs t l := by
        unfold bump; rw [List.take_of_length_le (by omega), List.take_of_length_le (by omega)]
      rw [e, ih]
theorem lFold_at {cs : List (Nat × Nat)} (hd : (cs.map (·.1)).Nodup) {r : Nat} (hr : r < cs.length) : ∀ (ts : List Nat) (l : List Int), (∀ c ∈ cs, c.1 < l.length) → (lFold cs ts l).getD cs[r].1 0 = l.getD cs[r].1 0 + (rl ts r : Nat)
  | [], l, _ => by simp [lFold, rl]
  | t :: ts, l, h => by
    have ih := lFold_at hd hr ts (bump cs t l) (fun c hc => by rw [length_bump]; exact h c hc)
    have e : lFold cs (t :: ts) l = lFold cs ts (bump cs t l) := rfl
    rw [e, ih, bump_at hd h hr, rl]
    split <;> simp <;> omega
theorem lFold_off {cs : List (Nat × Nat)} {s : Nat} (hs : s ∉ cs.map (·.1)) : ∀ (ts : List Nat) (l : List Int), (lFold cs ts l).getD s 0 = l.getD s 0
  | [], l => rfl
  | t :: ts, l => by
    have e : lFold cs (t :: ts) l = lFold cs ts (bump cs t l) := rfl
    rw [e, lFold_off hs ts, bump_off hs]
theorem csOf_nodup (l : List Int) (k : Nat) : ((csOf l k).map (·.1)).Nodup := by
  have h1 : ((coins0 l k).map (·.1)).Nodup := by
    unfold List.Nodup
    rw [List.pairwise_map]
    exact (coins0_asc l k).imp (fun h => by omega)
  exact ((csOf_ok l k).2.map (·.1)).nodup_iff.2 h1
theorem csOf_asc (l : List Int) (k : Nat) : Asc ((csOf l k).map (·.2)) := by
  unfold Asc
  rw [List.pairwise_map]
  exact (csOf_ok l k).1.imp (fun h => by unfold lx at h; omega)
theorem zeros_getD (n s : Nat) : (List.replicate n (0 : Int)).getD s 0 = 0 := by
  rw [List.getD_eq_getElem?_getD]
  by_cases h : s < n
  · rw [List.getElem?_eq_getElem (by simpa using h)]; simp
  · rw [List.getElem?_eq_none (by simpa using h)]; rfl

/-- The length of the coin of this rank. -/
def rk (M : Nat) (l : List Int) (r : Nat) : Nat := if (csOf l l.length).length = 1 then 1 else rl (lensOf ((csOf l l.length).map (·.2)) (M - 1)) r
section
variable {M : Nat} {l : List Int}
theorem lims_rank {r : Nat} (hr : r < (csOf l l.length).length) : (lims M l).getD (csOf l l.length)[r].1 0 = (rk M l r : Nat) := by
  have hlt : ∀ c ∈ csOf l l.length, c.1 < (List.replicate l.length (0 : Int)).length := fun c hc => by rw [List.length_replicate]; exact (mem_csOf.1 hc).1
  unfold rk
  by_cases h1 : (csOf l l.length).length = 1
  · rw [lims_one rfl rfl h1, if_pos h1, getD_set]
    have e : (csOf l l.length).getD 0 (0, 0) = (csOf l l.length)[r] := by
      obtain rfl : r = 0 := by omega
      rw [List.getD_eq_getElem?_getD, List.getElem?_eq_getElem hr]; rfl
    rw [e, if_pos ⟨rfl, hlt _ (List.getElem_mem hr)⟩]; rfl
  · rw [lims_more rfl rfl (by omega), if_neg h1, lFold_at (csOf_nodup l _) hr _ _ hlt, zeros_getD, Int.zero_add]
    unfold lensOf
    rw [List.length_map]
theorem lims_off {s : Nat} (hs : s ∉ (csOf l l.length).map (·.1)) : (lims M l).getD s 0 = 0 := by
  by_cases h0 : (csOf l l.length).length = 0
  · rw [lims_zero rfl rfl h0, zeros_getD]
  · by_cases h1 : (csOf l l.length).length = 1
    · rw [lims_one rfl rfl h1, getD_set, if_neg, zeros_getD]
      rintro ⟨h, _⟩
      refine hs (h ▸ List.mem_map_of_mem ?_)
      rw [List.getD_eq_getElem?_getD, List.getElem?_eq_getElem (by omega)]
      exact List.getElem_mem _
    · rw [lims_more rfl rfl (by omega), lFold_off hs, zeros_getD]
theorem rank_of {i : Nat} (hi : i < l.length) (h : 0 < l.getD i 0) : ∃ r, ∃ hr : r < (csOf l l.length).length, (csOf l l.length)[r] = (i, (l.getD i 0).toNat) := by
  obtain ⟨r, hr, e⟩ := List.getElem_of_mem (mem_csOf.2 (show (i, (l.getD i 0).toNat).1 < l.length ∧ _ from ⟨hi, h, rfl⟩))
  exact ⟨r, hr, e⟩
theorem not_rank {i : Nat} (h : ¬ 0 < l.getD i 0) : i ∉ (csOf l l.length).map (·.1) := by
  intro hm
  obtain ⟨c, hc, rfl⟩ := List.mem_map.1 hm
  exact h (mem_csOf.1 hc).2.1
variable (hM1 : 1 ≤ M) (hp : (csOf l l.length).length ≤ 2 ^ M)
include hM1 hp
theorem rk_range {r : Nat} (hr : r < (csOf l l.length).length) : 1 ≤ rk M l r ∧ rk M l r ≤ M := by
  unfold rk
  by_cases h1 : (csOf l l.length).length = 1
  · rw [if_pos h1]; omega
  · rw [if_neg h1]
    have e : M - 1 + 1 = M := by omega
    have hpos := rl_pos ((csOf l l.length).map (·.2)) (csOf_asc l _) (M - 1) (by rw [e, List.length_map]; exact hp) (by rw [List.length_map]; omega) r (by rw [List.length_map]; exact hr)
    have hmost := rl_most ((csOf l l.length).map (·.2)) (M - 1) r
    omega
theorem lims_at {i : Nat} (hi : i < l.length) (h : 0 < l.getD i 0) : 1 ≤ (lims M l).getD i 0 ∧ (lims M l).getD i 0 ≤ (M : Int) := by
  obtain ⟨r, hr, e⟩ := rank_of hi h
  have h1 := lims_rank (M := M) hr
  rw [e] at h1
  have h2 := rk_range hM1 hp hr
  rw [h1]; omega
omit hM1 hp in
theorem lims_none {i : Nat} (h : ¬ 0 < l.getD i 0) : (lims M l).getD i 0 = 0 := lims_off (not_rank h)
omit hM1 hp in
theorem sum_upTo (L : List Nat) : L.sum = upTo L.length fun r => L.getD r 0 := by
  have := sum_take L L.length (Nat.le_refl _)
  rwa [List.take_length] at this
omit hM1 hp in
/-- A sum over the symbols that occur is one over the coins. -/
theorem sum_coins (l : List Int) (f : Nat → Nat) : ((List.range l.length).map fun i => if 0 < l.getD i 0 then f i else 0).sum = upTo (csOf l l.length).length fun r => f ((csOf l l.length).getD r (0, 0)).1 := by
  have h0 : ∀ k, ((coins0 l k).map fun c => f c.1).sum = ((List.range k).map fun i => if 0 < l.getD i 0 then f i else 0).sum := by
    intro k
    induction k with
    | zero => rfl
    | succ k ih =>
      rw [coins0, List.range_succ, List.map_append, List.sum_append, ← ih]
      split
      · rename_i h
        rw [List.map_append, List.sum_append]
        congr 1
        show f k + 0 = (if 0 < l.getD k 0 then f k else 0) + 0
        rw [if_pos h]
      · rename_i h
        show _ = _ + ((if 0 < l.getD k 0 then f k else 0) + 0)
        rw [if_neg h]; rfl
  rw [← h0, ← ((csOf_ok l l.length).2.map fun c => f c.1).sum_nat, sum_upTo, List.length_map]
  apply upTo_congr
  intro r hr
  rw [List.getD_eq_getElem?_getD, List.getD_eq_getElem?_getD, List.getElem?_map, List.getElem?_eq_getElem hr]; rfl
omit hM1 hp in
theorem sum_lims (g : Int → Nat) (h0 : g 0 = 0) : ((List.range l.length).map fun s => g ((lims M l).getD s 0)).sum = upTo (csOf l l.length).length fun r => g (rk M l r : Nat) := by
  have e : ((List.range l.length).map fun s => g ((lims M l).getD s 0)) = (List.range l.length).map fun i => if 0 < l.getD i 0 then g ((lims M l).getD i 0) else 0 := by
    apply List.map_congr_left
    intro i _
    by_cases h : 0 < l.getD i 0
    · rw [if_pos h]
    · rw [if_neg h, lims_none h, h0]
  rw [e, sum_coins]
  apply upTo_congr
  intro r hr
  have e3 : (csOf l l.length).getD r (0, 0) = (csOf l l.length)[r] := by rw [List.getD_eq_getElem?_getD, List.getElem?_eq_getElem hr]; rfl
  rw [e3, lims_rank hr]
omit hM1 hp in
theorem many_range (L : List Int) : many L = ((List.range L.length).map fun s => if 0 < L.getD s 0 then 1 else 0).sum := by
  have : ((List.range L.length).map fun s => if 0 < L.getD s 0 then 1 else 0) = L.map fun x => if 0 < x then 1 else 0 := by
    apply List.ext_getElem
    · simp
    · intro i h1 h2
      simp only [List.getElem_map, List.getElem_range]
      rw [List.getD_eq_getElem?_getD, List.getElem?_eq_getElem (by simpa using h2)]; rfl
  rw [this]
  unfold many
  induction L with
  | nil => rfl
  | cons x L ih =>
    rw [List.filter_cons, List.map_cons, List.sum_cons, ← ih (by
      apply List.ext_getElem
      · simp
      · intro i h1 h2
        simp only [List.getElem_map, List.getElem_range]
        rw [List.getD_eq_getElem?_getD, List.getElem?_eq_getElem (by simpa using h2)]; rfl)]
    by_cases h : 0 < x
    · rw [if_pos (by simpa using h), if_pos h, List.length_cons]; omega
    · rw [if_neg (by simpa using h), if_neg h]; omega
theorem chk_lims (hM2 : M ≤ 15) (h288 : l.length ≤ 288) : chk (lims M l) = 0 := by
  have hl := length_lims M l
  have hok : okLens (lims M l) = true := by
    unfold okLens
    rw [List.all_eq_true]
    intro x hx
    obtain ⟨i, hi, rfl⟩ := List.getElem_of_mem hx
    have e : (lims M l)[i] = (lims M l).getD i 0 := by rw [List.getD_eq_getElem?_getD, List.getElem?_eq_getElem hi]; rfl
    rw [e]
    unfold okLen
    simp only [decide_eq_true_eq]
    by_cases h : 0 < l.getD i 0
    · have := lims_at hM1 hp (by omega) h; omega
    · rw [lims_none h]; omega
  have hm : many (lims M l) = (csOf l l.length).length := by
    rw [many_range, hl, sum_lims (fun x => if 0 < x then 1 else 0) (by simp)]
    rw [upTo_congr (g := fun _ => 1) (fun r hr => by have := rk_range hM1 hp hr; rw [if_pos (by omega)]), upTo_const, Nat.mul_one]
  have hk : ksum (lims M l) = upTo (csOf l l.length).length fun r => 2 ^ (15 - rk M l r) := by
    rw [← range_sum, hl, sum_lims kr (by simp [kr])]
    apply upTo_congr
    intro r hr
    have := rk_range hM1 hp hr
    unfold kr
    rw [if_pos (by omega), Int.toNat_natCast]
  unfold chk
  rw [if_neg (by omega), hok, if_neg (by simp)]
  by_cases h0 : (csOf l l.length).length = 0
  · rw [hm, hk, h0]; simp [upTo]
  · by_cases h1 : (csOf l l.length).length = 1
    · have e : ksum (lims M l) = 16384 := by
        rw [hk, h1]
        simp only [upTo, Nat.zero_add]
        unfold rk; rw [if_pos h1]
      rw [e, if_neg (by omega), if_neg]
      rw [hm, h1]; simp
    · have e : ksum (lims M l) = 32768 := by
        rw [hk]
        have hf := full_15 ((csOf l l.length).map (·.2)) (csOf_asc l _) (M - 1) (by rw [show M - 1 + 1 = M from by omega, List.length_map]; exact hp) (by rw [List.length_map]; omega) (by omega)
        rw [List.length_map] at hf
        have e2 : ∀ r, rk M l r = rl (lensOf ((csOf l l.length).map (·.2)) (M - 1)) r := fun r => by unfold rk; rw [if_neg h1]
        rw [upTo_congr (g := fun r => 2 ^ (15 - rl (lensOf ((csOf l l.length).map (·.2)) (M - 1)) r)) (fun r _ => by rw [e2]), hf]
      rw [e, if_neg (by omega), if_neg (by omega)]
end
end Go.Proofs.YtjeeiodpdfbgmaaDoor
set_option linter.unusedVariables false
namespace Go.Proofs.YtjeeiodpdfbgmaaDoor
set_option maxRecDepth 100000
theorem runsG_codes {l : List Int} (h15 : ∀ i, 0 ≤ l.getD i 0 ∧ l.getD i 0 ≤ 15) : ∀ f i, ∀ c ∈ runsG l f i, 0 ≤ c.1 ∧ c.1 ≤ 18
  | 0, _, c, h => by simp [runsG] at h
  | f + 1, i, c, h => by
    rw [runsG] at h
    by_cases hi : i < l.length
    · rw [if_pos hi] at h
      rcases List.mem_cons.1 h with rfl | h
      · have hv := h15 i
        show 0 ≤ (runAt l i).1 ∧ (runAt l i).1 ≤ 18
        unfold runAt
        split
        · dsimp only; omega
        · split
          · dsimp only; omega
          · split
            · dsimp only; omega
            · dsimp only; omega
      · exact runsG_codes h15 f _ c h
    · rw [if_neg hi] at h; cases h
/-- The bits of the stream of one dynamic block. -/
def dynX (A B small : List Int) (n : Nat) (ts : List Tk) : Nat × Nat := layD A B small n ts (layB (layB (0, 0) 1 1) 2 2)
def uptoN (l : List Int) (least : Nat) : Nat → Nat
  | 0 => 0
  | n + 1 => if least < n + 1 ∧ l.getD n 0 = 0 then uptoN l least n else n + 1
theorem uptoN_le (l : List Int) (least : Nat) : ∀ n, uptoN l least n ≤ n
  | 0 => Nat.le_refl _
  | n + 1 => by
    rw [uptoN]; split
    · have := uptoN_le l least n; omega
    · exact Nat.le_refl _
theorem uptoN_ge (l : List Int) (least : Nat) : ∀ n, least ≤ n → least ≤ uptoN l least n
  | 0, h => h
  | n + 1, h => by
    rw [uptoN]; split
    · rename_i hc; exact uptoN_ge l least n (by omega)
    · exact h
theorem uptoN_zero (l : List Int) (least : Nat) : ∀ n i, uptoN l least n ≤ i → i < n → l.getD i 0 = 0
  | 0, _, _, h => by omega
  | n + 1, i, h1, h2 => by
    rw [uptoN] at h1
    split at h1
    · rename_i hc
      by_cases e : i = n
      · subst e; exact hc.2
      · exact uptoN_zero l least n i h1 (by omega)
    · omega
def upto0 (l : List Int) (least : Nat) : List Int := l.take (uptoN l least l.length)
theorem upto0_len (l : List Int) (least : Nat) : (upto0 l least).length = uptoN l least l.length := by
  have := uptoN_le l least l.length
  unfold upto0; rw [List.length_take]; omega
theorem upto0_getD (l : List Int) (least i : Nat) : (upto0 l least).getD i 0 = l.getD i 0 := by
  unfold upto0
  by_cases h : i < uptoN l least l.length
  · rw [List.getD_eq_getElem?_getD, List.getD_eq_getElem?_getD, List.getElem?_take_of_lt h]
  · have e : (l.take (uptoN l least l.length)).getD i 0 = 0 := by
      rw [List.getD_eq_getElem?_getD, List.getElem?_eq_none (by rw [List.length_take]; omega)]; rfl
    rw [e]
    by_cases h2 : i < l.length
    · exact (uptoN_zero l least l.length i (by omega) h2).symm
    · rw [List.getD_eq_getElem?_getD, List.getElem?_eq_none (by omega)]; rfl
theorem zeros_sum : ∀ L : List Int, (∀ x ∈ L, x = 0) → ksum L = 0 ∧ many L = 0 ∧ okLens L = true
  | [], _ => ⟨rfl, rfl, rfl⟩
  | x :: L, h => by
    obtain ⟨h1, h2, h3⟩ := zeros_sum L (fun y hy => h y (by simp [hy]))
    have hx := h x (by simp)
    subst hx
    refine ⟨?_, ?_, ?_⟩
    · show kr 0 + ksum L = 0; rw [h1]; rfl
    · unfold many at h2 ⊢; rw [List.filter_cons, if_neg (by simp)]; exact h2
    · show (okLen 0 && okLens L) = true; rw [h3]; rfl
theorem chk_upto {l : List Int} (h : chk l = 0) (least : Nat) : chk (upto0 l least) = 0 := by
  obtain ⟨h1, h2, h3, h4⟩ := chk_zero h
  have hd : ∀ x ∈ l.drop (uptoN l least l.length), x = 0 := fun x hx => by
    obtain ⟨i, hi, e⟩ := List.getElem_of_mem hx
    rw [List.length_drop] at hi
    rw [List.getElem_drop] at e
    have := uptoN_zero l least l.length (uptoN l least l.length + i) (by omega) (by omega)
    rw [List.getD_eq_getElem?_getD, List.getElem?_eq_getElem (by omega)] at this
    rw [← e]; exact this
  obtain ⟨z1, z2, z3⟩ := zeros_sum _ hd
  have el := List.take_append_drop (uptoN l least l.length) l
  have k1 : ksum (upto0 l least) = ksum l := by
    have : ksum l = ksum (upto0 l least) + ksum (l.drop (uptoN l least l.length)) := by
      conv => lhs; rw [← el]
      unfold ksum upto0; rw [List.map_append, List.sum_append]
    omega
  have k2 : many (upto0 l least) = many l := by
    have : many l = many (upto0 l least) + many (l.drop (uptoN l least l.length)) := by
      conv => lhs; rw [← el]
      unfold many upto0; rw [List.filter_append, List.length_append]
    omega
  have k3 : okLens (upto0 l least) = true := by
    unfold okLens at h2 ⊢
    rw [List.all_eq_true] at h2 ⊢
    exact fun x hx => h2 x (List.mem_of_mem_take hx)
  unfold chk
  rw [if_neg (by rw [upto0_len]; have := uptoN_le l least l.length; omega), k3, if_neg (by simp), k1, if_neg (by omega), if_neg]
  rw [k2]
  unfold chk at h
  rw [if_neg (by omega), h2, if_neg (by simp), if_neg (by omega)] at h
  intro hc
  rw [if_pos hc] at h
  omega
end Go.Proofs.YtjeeiodpdfbgmaaDoor
