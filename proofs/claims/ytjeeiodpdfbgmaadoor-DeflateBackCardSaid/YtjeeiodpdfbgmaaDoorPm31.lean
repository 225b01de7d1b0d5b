/- Several texts in one: Stream, Reader, WriteC, Table, InfM, InfS, InfT, InfU, InfV, InfW, InfX, InfY (what Back reach of them). -/
import Derived.Test.YtjeeiodpdfbgmaaDoorPm01
import Derived.Test.YtjeeiodpdfbgmaaDoorPm02
import Derived.Test.YtjeeiodpdfbgmaaDoorPm03
import Derived.Test.YtjeeiodpdfbgmaaDoorPm04
import Derived.Test.YtjeeiodpdfbgmaaDoorPm05
import Derived.Test.YtjeeiodpdfbgmaaDoorPm06
import Derived.Test.YtjeeiodpdfbgmaaDoorPm07
import Derived.Test.YtjeeiodpdfbgmaaDoorPm08
import Derived.Test.YtjeeiodpdfbgmaaDoorPm09
import Derived.Below
import Derived.BigQuiet
import Derived.BigRegion
import Derived.Deep.AppendLies
import Derived.Deep.CutRange
import Derived.Deep.DeepCutAuto
import Derived.Deep.Draws
import Derived.Deep.LoopGhost
import Derived.Deep.QuietTactic
import Derived.Deep.RegionLaw
import Derived.Deep.RegionWith
import Derived.Deep.Slices
import Derived.Laws.BitsAllLaws
import Derived.Laws.BitsLemmas
import Derived.Laws.IdiomStrings
import Derived.Laws.OwnMore
import Derived.Laws.Rows
import Derived.Lib.AppendStr
import Derived.Lib.Hide
import Derived.Lib.Strings
import Derived.LoopIn
import Derived.LoopNIn
import Derived.OneCell
import Derived.OpenShut
import Derived.Outline
import Derived.OwnWalk
import Derived.OwnWalkIn
import Derived.ProofKit
import Derived.RangeFuncBound
import Derived.RangeFuncCalls
import Derived.RangeFuncLeaves
import Derived.RangeFuncNested
import Derived.RegionTactic
import Derived.Shelf.Abstract
import Derived.Shelf.RegionOpen
import Derived.Shelf.SlSortCmp.QuietGrown
import Derived.StillTailTactics
import Derived.TacticsInMore
import Derived.Test.YtjeeiodpdfbgmaaDoorChecked
import Derived.WalkKit
import Derived.WalkLawsBesides
import Derived.WalkSpells
set_option maxRecDepth 100000
set_option linter.unusedVariables false
namespace Go.Proofs.YtjeeiodpdfbgmaaDoor
set_option maxRecDepth 100000
theorem length_bytesOf (k x : Nat) : (bytesOf k x).length = k := by
  induction k generalizing x with
  | zero => rfl
  | succ k ih => simp [bytesOf, ih]
theorem num_bytesOf (k x : Nat) : num (bytesOf k x) = x % 256 ^ k := by
  induction k generalizing x with
  | zero => simp [bytesOf, num, Nat.mod_one]
  | succ k ih =>
    have h : (UInt8.ofNat x).toNat = x % 256 := UInt8.toNat_ofNat'
    rw [bytesOf, num, ih, h, Nat.pow_succ, Nat.mul_comm (256 ^ k) 256, Nat.mod_mul (a := 256)]
theorem bitsAt_zero (x p : Nat) : bitsAt x p 0 = 0 := by simp [bitsAt, Nat.mod_one]
end Go.Proofs.YtjeeiodpdfbgmaaDoor
namespace Go.Proofs.YtjeeiodpdfbgmaaDoor
set_option maxRecDepth 100000
open Go Go.RowKit
theorem read_made (w : World) (s : ByteArray) (cap : Nat) (fz : Nat × Nat) (hc : s.size ≤ cap) :
    RS (((w.alloc (.cells (bytesRow s cap) 5 fz)).alloc (.cells #[.slice (some ⟨w.heap.size, 0, none⟩) s.size cap, .int .i64 0] 101)).drew) (w.heap.size + 1) w.heap.size s 0 := by
  refine ⟨by omega, by omega, some ⟨w.heap.size, 0, none⟩, s.size, cap, ?_, hc, ⟨Array.length_toList.trans rfl, fun _ => ⟨w.heap.size, 0, rfl, fun i hi => ?_⟩⟩, ?_⟩
  · have h := Is.fresh (w.alloc (.cells (bytesRow s cap) 5 fz)) 101 #[.slice (some ⟨w.heap.size, 0, none⟩) s.size cap, .int .i64 0]
    have e : (w.alloc (.cells (bytesRow s cap) 5 fz)).heap.size = w.heap.size + 1 := by simp
    rw [e] at h
    exact h.drew
  · have hi' : i < s.data.size := by simpa using hi
    have h1 : (w.alloc (.cells (bytesRow s cap) 5 fz)).cell? ⟨w.heap.size, 0 + i, none⟩ = some (.int .u8 (s.data[i].toNat : Int)) := by
      rw [World.cell?_alloc_mark, Nat.zero_add]; exact bytesRow_at s cap i hi'
    show ((w.alloc (.cells (bytesRow s cap) 5 fz)).alloc _).cell? _ = _
    rw [World.cell?_alloc_lt _ _ _ (by simp), h1]
    simp
  · intro a e; simp at e; subst e; rfl

theorem bits_read (s : ByteArray) (w : World) :
    Calls Tryd.prog 44 #[.string s] w fun e w' => e = .returned (.pointer (some ⟨w.heap.size + 1, 0, none⟩)) ∧ RS w' (w.heap.size + 1) w.heap.size s 0 ∧ But [] w w' ∧ w'.heap.size = w.heap.size + 2 := by
  have hcv := run_bytes_of_string (P := Tryd.prog) w 9 47 5 s Tryd.underlying9 Tryd.underlying47 Tryd.underlying5
  go_enter Tryd.func44, Tryd.ntmps44
  go_wp2
  go_ret
  exact ⟨rfl, read_made w s _ _ (grownCap_ge w s.size 0 _), ((((But.refl [] w).alloc _).alloc _).drew), by simp⟩

theorem byte_at (s : ByteArray) (i : Nat) (h : i < s.size) : s[i] = s.data.toList[i]'(by simpa using h) := rfl
end Go.Proofs.YtjeeiodpdfbgmaaDoor
namespace Go.Proofs.YtjeeiodpdfbgmaaDoor
set_option maxRecDepth 100000
open Go Go.RowKit
theorem textOf_size (X N : Nat) : (textOf X N).size = (N + 7) / 8 := by
  show (bytesOf ((N + 7) / 8) X).toArray.size = _
  simp [length_bytesOf]

end Go.Proofs.YtjeeiodpdfbgmaaDoor
namespace Go.Proofs.YtjeeiodpdfbgmaaDoor
set_option maxRecDepth 100000
open Go Go.RowKit
theorem make_err {w : World} {A : Option Addr} {len cap : Nat} {l : List Int} (hl : Ints w A len l) (hm : len ≤ maxLen) (hc : chk l ≠ 0) :
    Calls Tryd.prog 67 #[.slice A len cap] w fun e w' => e = .returned (.tuple #[.pointer none, .int .i64 (chk l)]) ∧ w = w' := by
  have hck := check_any (cap := cap) hl hm
  generalize chk l = x at *
  have HC := Lib.hid hck
  have hx : (x != 0) = true := by simpa using hc
  clear hck hm hc
  go_enter Tryd.func67, Tryd.ntmps67
  go_wp2_with fail
  refine HC.out.mono ?_
  rintro e w' ⟨rfl, rfl⟩
  go_wp2_with fail
  go_ret2
  exact ⟨rfl, rfl⟩

end Go.Proofs.YtjeeiodpdfbgmaaDoor
namespace Go.Proofs.YtjeeiodpdfbgmaaDoor
set_option maxRecDepth 100000
def rPure {α : Type} (a : α) : Rd α := fun _ p => .ok (a, p)
def rBind {α β : Type} (m : Rd α) (f : α → Rd β) : Rd β := fun s p => match m s p with
  | .error e => .error e
  | .ok (a, q) => f a s q
/-- What is met within the bytes that are there is met with more of them. -/
def Stable {α : Type} (m : Rd α) : Prop := ∀ s s' p r, Pre s s' → m s p = r → r ≠ .error 3 → m s' p = r
/-- Reading goes on, and stays within the bytes. -/
def Adv {α : Type} (m : Rd α) : Prop := ∀ s p a q, p ≤ 8 * s.size → m s p = .ok (a, q) → p ≤ q ∧ q ≤ 8 * s.size
section
variable {α β : Type}
theorem Stable.pure (a : α) : Stable (rPure a) := fun _ _ _ _ _ h _ => h
theorem Stable.fail (e : Int) : Stable (rFail e : Rd α) := fun _ _ _ _ _ h _ => h
theorem Stable.bind {m : Rd α} {f : α → Rd β} (hm : Stable m) (hf : ∀ a, Stable (f a)) : Stable (rBind m f) := by
  intro s s' p r hp h hr
  unfold rBind at h ⊢
  cases e : m s p with
  | error x =>
    rw [e] at h
    rw [hm s s' p _ hp e (fun h2 => by injection h2 with h2; subst h2; exact hr h.symm)]
    exact h
  | ok y =>
    rw [e] at h
    rw [hm s s' p _ hp e (by simp)]
    exact hf y.1 s s' y.2 r hp h hr
theorem Stable.when {c : Prop} [Decidable c] {e : Int} {m : Rd α} (hm : Stable m) : Stable (rWhen c e m) := by
  unfold rWhen; split
  · exact Stable.fail e
  · exact hm
theorem Adv.pure (a : α) : Adv (rPure a) := fun _ _ _ _ hp h => by
  unfold rPure at h; injection h with h; injection h with h1 h2; omega
theorem Adv.fail (e : Int) : Adv (rFail e : Rd α) := fun _ _ _ _ _ h => by unfold rFail at h; cases h
theorem Adv.bind {m : Rd α} {f : α → Rd β} (hm : Adv m) (hf : ∀ a, Adv (f a)) : Adv (rBind m f) := by
  intro s p a q hp h
  unfold rBind at h
  cases e : m s p with
  | error x => rw [e] at h; cases h
  | ok y =>
    rw [e] at h
    obtain ⟨h1, h2⟩ := hm s p y.1 y.2 hp e
    obtain ⟨h3, h4⟩ := hf y.1 s y.2 a q h2 h
    exact ⟨by omega, h4⟩
theorem Adv.when {c : Prop} [Decidable c] {e : Int} {m : Rd α} (hm : Adv m) : Adv (rWhen c e m) := by
  unfold rWhen; split
  · exact Adv.fail e
  · exact hm
end
theorem num_pre {s s' : ByteArray} (h : Pre s s') : ∃ k, num s'.data.toList = num s.data.toList + 256 ^ s.size * k := by
  obtain ⟨t, ht⟩ := h
  exact ⟨num t, by rw [← ht, num_append]; rfl⟩
theorem bits_pre {s s' : ByteArray} (h : Pre s s') {p : Nat} {n : Int} (he : bitsErr s p n ≠ 3) : bitsErr s' p n = bitsErr s p n ∧ bitsVal s' p n = bitsVal s p n ∧ bitsGo s' p n = bitsGo s p n := by
  have hs := h.size
  have he2 : bitsErr s' p n = bitsErr s p n := by
    unfold bitsErr at he ⊢
    by_cases h1 : n < 0 ∨ 24 < n
    · rw [if_pos h1, if_pos h1]
    · rw [if_neg h1] at he ⊢
      rw [if_neg h1]
      by_cases h2 : (8 * s.size - p : Nat) < n
      · rw [if_pos h2] at he; exact absurd rfl he
      · rw [if_neg h2, if_neg (by omega)]
  refine ⟨he2, ?_, by unfold bitsGo; rw [he2]⟩
  unfold bitsVal
  rw [he2]
  by_cases h0 : bitsErr s p n = 0
  · rw [if_pos h0, if_pos h0]
    by_cases hn0 : n.toNat = 0
    · rw [hn0, bitsAt_zero, bitsAt_zero]
    · have hb : p + n.toNat ≤ 8 * s.size := by
        unfold bitsErr at h0
        by_cases h1 : n < 0 ∨ 24 < n
        · rw [if_pos h1] at h0; omega
        · rw [if_neg h1] at h0
          by_cases h2 : (8 * s.size - p : Nat) < n
          · rw [if_pos h2] at h0; omega
          · omega
      obtain ⟨k, hk⟩ := num_pre h
      rw [hk, p256, ← bitsAt_mod _ p n.toNat _ hb, Nat.add_mul_mod_self_left, bitsAt_mod _ p n.toNat _ hb]
  · rw [if_neg h0, if_neg h0]
theorem bytes_pre {s s' : ByteArray} (h : Pre s s') {p : Nat} {n : Int} (he : bytesErr s p n ≠ 3) : bytesErr s' p n = bytesErr s p n ∧ bytesVal s' p n = bytesVal s p n ∧ bytesGo s' p n = bytesGo s p n := by
  have hs := h.size
  have he2 : bytesErr s' p n = bytesErr s p n := by
    unfold bytesErr at he ⊢
    by_cases h1 : n < 0
    · rw [if_pos h1, if_pos h1]
    · rw [if_neg h1] at he ⊢
      rw [if_neg h1]
      by_cases h2 : (s.size - (p + 7) / 8 : Nat) < n
      · rw [if_pos h2] at he; exact absurd rfl he
      · rw [if_neg h2, if_neg (by omega)]
  refine ⟨he2, ?_, by unfold bytesGo; rw [he2]⟩
  unfold bytesVal
  rw [he2]
  by_cases h0 : bytesErr s p n = 0
  · rw [if_pos h0, if_pos h0]
    have hb : n.toNat ≤ s.size - (p + 7) / 8 := by
      unfold bytesErr at h0
      by_cases h1 : n < 0
      · rw [if_pos h1] at h0; omega
      · rw [if_neg h1] at h0
        by_cases h2 : (s.size - (p + 7) / 8 : Nat) < n
        · rw [if_pos h2] at h0; omega
        · omega
    obtain ⟨t, ht⟩ := h
    have hz : s.data.toList.length = s.size := Array.length_toList
    congr 2
    rw [← ht]
    by_cases hp : (p + 7) / 8 ≤ s.size
    · rw [List.drop_append_of_le_length (by omega), List.take_append_of_le_length (by rw [List.length_drop]; omega)]
    · have : n.toNat = 0 := by omega
      rw [this, List.take_zero, List.take_zero]
  · rw [if_neg h0, if_neg h0]
theorem bits_adv {s : ByteArray} {p : Nat} {n : Int} (hp : p ≤ 8 * s.size) (h0 : bitsErr s p n = 0) : p ≤ bitsGo s p n ∧ bitsGo s p n ≤ 8 * s.size ∧ bitsGo s p n = p + n.toNat := by
  unfold bitsGo
  rw [if_pos h0]
  unfold bitsErr at h0
  by_cases h1 : n < 0 ∨ 24 < n
  · rw [if_pos h1] at h0; omega
  · rw [if_neg h1] at h0
    by_cases h2 : (8 * s.size - p : Nat) < n
    · rw [if_pos h2] at h0; omega
    · omega
theorem rBits_adv (n : Nat) : Adv (rBits n) := by
  intro s p a q hp h
  unfold rBits at h
  by_cases h0 : bitsErr s p n = 0
  · rw [if_neg (by simpa using h0)] at h
    injection h with h; injection h with h1 h2
    subst h2
    have := bits_adv hp h0
    exact ⟨this.1, this.2.1⟩
  · rw [if_pos h0] at h; cases h
theorem rBytes_adv (n : Nat) : Adv (rBytes n) := by
  intro s p a q hp h
  unfold rBytes at h
  by_cases h0 : bytesErr s p n = 0
  · rw [if_neg (by simpa using h0)] at h
    injection h with h; injection h with h1 h2
    subst h2
    unfold bytesGo
    rw [if_neg (by omega), if_pos h0]
    unfold bytesErr at h0
    rw [if_neg (by omega)] at h0
    by_cases h2 : (s.size - (p + 7) / 8 : Nat) < (n : Int)
    · rw [if_pos h2] at h0; omega
    · omega
  · rw [if_pos h0] at h; cases h
theorem nextG_adv {s : ByteArray} (l : List Int) : ∀ f n c p, p ≤ 8 * s.size → (nextG l s f n c p).2.1 = 0 → p < (nextG l s f n c p).2.2 ∧ (nextG l s f n c p).2.2 ≤ 8 * s.size
  | 0, _, _, _, _, h => by rw [nextG_zero] at h; simp at h
  | f + 1, n, c, p, hp, h => by
    rw [nextG_succ] at h ⊢
    by_cases h0 : bitsErr s p 1 = 0
    · rw [if_neg (by simpa using h0)] at h ⊢
      obtain ⟨h1, h2, h3⟩ := bits_adv hp h0
      have h4 : bitsGo s p 1 = p + 1 := h3
      cases e : findS l n (2 * c + bitsVal s p 1) with
      | some i => exact ⟨by show p < bitsGo s p 1; omega, h2⟩
      | none =>
        rw [e] at h
        have := nextG_adv l f (n + 1) _ _ h2 h
        exact ⟨by have h5 := this.1; show p < (nextG l s f (n + 1) _ (bitsGo s p 1)).2.2; omega, this.2⟩
    · rw [if_pos h0] at h; exact absurd h h0
theorem rNext_adv' (l : List Int) {s : ByteArray} {p a q : Nat} (hp : p ≤ 8 * s.size) (h : rNext l s p = .ok (a, q)) : p < q ∧ q ≤ 8 * s.size := by
  unfold rNext at h
  by_cases h0 : (nextS l s p).2.1 = 0
  · rw [if_neg (by simpa using h0)] at h
    injection h with h; injection h with h1 h2
    subst h2
    exact nextG_adv l _ _ _ _ hp h0
  · rw [if_pos h0] at h; cases h
theorem rNext_adv (l : List Int) : Adv (rNext l) := fun s p a q hp h => by
  have := rNext_adv' l hp h; omega
end Go.Proofs.YtjeeiodpdfbgmaaDoor
set_option linter.unusedVariables false
namespace Go.Proofs.YtjeeiodpdfbgmaaDoor
set_option maxRecDepth 100000
/-- A match: byte by byte. -/
def matchOut (far : Nat) : Nat → List UInt8 → List UInt8
  | 0, out => out
  | n + 1, out => matchOut far n (out ++ [out.getD (out.length - far) 0])
theorem length_matchOut (far : Nat) : ∀ n out, (matchOut far n out).length = out.length + n
  | 0, _ => rfl
  | n + 1, out => by rw [matchOut, length_matchOut far n]; simp; omega
def wordOf (a : ByteArray) : Nat := (a.data.toList.getD 0 0).toNat + 256 * (a.data.toList.getD 1 0).toNat
def storedR (most : Int) (out : List UInt8) : Rd (List UInt8) :=
  rBind (rBytes 2) fun a => rBind (rBytes 2) fun b => rWhen (wordOf b ≠ 65535 - wordOf a) 14 (rBind (rBytes (wordOf a)) fun x =>
    rWhen (most < (out.length : Int) + (wordOf a : Nat)) 5 (rPure (out ++ x.data.toList)))
/-- A block of symbols. -/
def symG (l d : List Int) (most : Int) : Nat → List UInt8 → Rd (List UInt8)
  | 0, _ => rFail 3
  | f + 1, out => rBind (rNext l) fun t =>
    if t = 256 then rPure out else
    if t < 256 then rWhen (most < (out.length : Int) + 1) 5 (symG l d most f (out ++ [UInt8.ofNat t])) else
    rWhen (285 < t) 12 (rBind (rBits (lenBits t)) fun x => rBind (rNext d) fun u => rWhen (29 < u) 12 (rBind (rBits (dstBits u)) fun y =>
      rWhen (out.length < dstBase u + y) 15 (rWhen (most < (out.length : Int) + ((lenBase t + x : Nat) : Int)) 5 (symG l d most f (matchOut (dstBase u + y) (lenBase t + x) out)))))
def tablesR {α : Type} (l d : List Int) (m : Rd α) : Rd α := rWhen (chk l ≠ 0) (chk l) (rWhen (chk d ≠ 0) (chk d) m)
def smallG : List Nat → List Int → Rd (List Int)
  | [], a => rPure a
  | k :: ks, a => rBind (rBits 3) fun v => smallG ks (a.set k (v : Nat))
/-- The lengths that are told in the small code. -/
def lenG (small : List Int) (total : Nat) : Nat → List Int → Rd (List Int)
  | 0, _ => rFail 3
  | f + 1, acc => if total ≤ acc.length then rPure acc else rBind (rNext small) fun t =>
    if t < 16 then lenG small total f (acc ++ [(t : Int)]) else
    if t = 16 then rWhen (acc.length = 0) 12 (rBind (rBits 2) fun x => rWhen (total < acc.length + (3 + x)) 12 (lenG small total f (acc ++ List.replicate (3 + x) (acc.getD (acc.length - 1) 0)))) else
    if t = 17 then rBind (rBits 3) fun x => rWhen (total < acc.length + (3 + x)) 12 (lenG small total f (acc ++ List.replicate (3 + x) 0)) else
    rBind (rBits 7) fun x => rWhen (total < acc.length + (11 + x)) 12 (lenG small total f (acc ++ List.replicate (11 + x) 0))
def dynR (most : Int) (F : Nat) (out : List UInt8) : Rd (List UInt8) :=
  rBind (rBits 5) fun a => rBind (rBits 5) fun b => rBind (rBits 4) fun c => rBind (smallG (ordS.take (c + 4)) (List.replicate 19 0)) fun small =>
    rWhen (chk small ≠ 0) (chk small) (rBind (lenG small (a + 257 + (b + 1)) F []) fun ls =>
      tablesR (ls.take (a + 257)) (ls.drop (a + 257)) (symG (ls.take (a + 257)) (ls.drop (a + 257)) most F out))
def blockR (most : Int) (F kind : Nat) (out : List UInt8) : Rd (List UInt8) :=
  if kind = 0 then storedR most out else if kind = 1 then tablesR fixL fixD (symG fixL fixD most F out) else if kind = 2 then dynR most F out else rFail 13
/-- Blocks up to the last one. -/
def blkG (most : Int) (F : Nat) : Nat → List UInt8 → Rd (List UInt8)
  | 0, _ => rFail 3
  | f + 1, out => rBind (rBits 1) fun last => rBind (rBits 2) fun kind => rBind (blockR most F kind out) fun out' => if last ≠ 0 then rPure out' else blkG most F f out'
def inflS (s : ByteArray) (most : Int) : Except Int (List UInt8 × Nat) := blkG most (8 * s.size + 1) (8 * s.size + 1) [] s 0

section
variable {α β : Type}
theorem Under.bind {m m' : Rd α} {f f' : α → Rd β} (hm : Under m m') (hf : ∀ a, Under (f a) (f' a)) : Under (rBind m f) (rBind m' f') := by
  intro s s' p r hp h hr
  unfold rBind at h ⊢
  cases e : m s p with
  | error x =>
    rw [e] at h
    rw [hm s s' p _ hp e (fun h2 => by injection h2 with h2; subst h2; exact hr h.symm)]
    exact h
  | ok y =>
    rw [e] at h
    rw [hm s s' p _ hp e (by simp)]
    exact hf y.1 s s' y.2 r hp h hr
theorem Under.when {c : Prop} [Decidable c] {e : Int} {m m' : Rd α} (hm : Under m m') : Under (rWhen c e m) (rWhen c e m') := by
  unfold rWhen; split
  · exact Stable.fail e
  · exact hm
theorem Under.ite {c : Prop} [Decidable c] {m m' k k' : Rd α} (hm : Under m m') (hk : Under k k') : Under (if c then m else k) (if c then m' else k') := by
  split
  · exact hm
  · exact hk
end
theorem Adv.ite {α : Type} {c : Prop} [Decidable c] {m k : Rd α} (hm : Adv m) (hk : Adv k) : Adv (if c then m else k) := by
  split
  · exact hm
  · exact hk
theorem lenG_adv (small : List Int) (total : Nat) : ∀ f acc, Adv (lenG small total f acc)
  | 0, _ => Adv.fail 3
  | f + 1, acc => by
    refine Adv.ite (Adv.pure _) (Adv.bind (rNext_adv small) fun t => Adv.ite (lenG_adv small total f _) (Adv.ite (Adv.when ?_) (Adv.ite ?_ ?_)))
    all_goals exact Adv.bind (rBits_adv _) fun x => Adv.when (lenG_adv small total f _)
theorem smallG_adv : ∀ (ks : List Nat) (a : List Int), Adv (smallG ks a)
  | [], a => Adv.pure a
  | k :: ks, a => Adv.bind (rBits_adv 3) fun v => smallG_adv ks _
section
variable {α : Type} {most : Int} {out : List UInt8}
theorem ok_bind {β : Type} {m : Rd α} {f : α → Rd β} {s : ByteArray} {p : Nat} {r : β × Nat} (h : rBind m f s p = .ok r) : ∃ y, m s p = .ok y ∧ f y.1 s y.2 = .ok r := by
  unfold rBind at h
  cases e : m s p with
  | error x => rw [e] at h; cases h
  | ok y => rw [e] at h; exact ⟨y, rfl, h⟩
theorem bind_ok {β : Type} {m : Rd α} {f : α → Rd β} {s : ByteArray} {p : Nat} {y : α × Nat} (h : m s p = .ok y) : rBind m f s p = f y.1 s y.2 := by unfold rBind; rw [h]
theorem Grow.bind {m : Rd α} {f : α → Rd (List UInt8)} (hf : ∀ a, Grow most out (f a)) : Grow most out (rBind m f) := fun s p a q h => by
  obtain ⟨y, _, h2⟩ := ok_bind h
  exact hf _ _ _ _ _ h2
theorem Grow.when {c : Prop} [Decidable c] {e : Int} {m : Rd (List UInt8)} (hm : ¬ c → Grow most out m) : Grow most out (rWhen c e m) := fun s p a q h => by
  obtain ⟨hc, h2⟩ := ok_when h
  exact hm hc _ _ _ _ h2
theorem Grow.ite {c : Prop} [Decidable c] {m k : Rd (List UInt8)} (hm : Grow most out m) (hk : Grow most out k) : Grow most out (if c then m else k) := by
  split
  · exact hm
  · exact hk
theorem Grow.fail (e : Int) : Grow most out (rFail e) := fun s p a q h => by cases h
theorem Grow.pure : Grow most out (rPure out) := fun s p a q h => by
  unfold rPure at h; injection h with h; injection h with h1 h2
  subst h1; exact ⟨Nat.le_refl _, .inr rfl⟩
theorem Cmp.bind {m : Rd α} {f f' : α → Rd (List UInt8)} (hf : ∀ a, Cmp most out (f a) (f' a)) : Cmp most out (rBind m f) (rBind m f') := fun s p a q h => by
  obtain ⟨y, h1, h2⟩ := ok_bind h
  rw [bind_ok h1]
  exact hf _ _ _ _ _ h2
theorem Cmp.when {c : Prop} [Decidable c] {e : Int} {m m' : Rd (List UInt8)} (hm : Cmp most out m m') : Cmp most out (rWhen c e m) (rWhen c e m') := fun s p a q h => by
  obtain ⟨hc, h2⟩ := ok_when h
  rw [when_not hc]
  exact hm _ _ _ _ h2
theorem Cmp.ite {c : Prop} [Decidable c] {m m' k k' : Rd (List UInt8)} (hm : Cmp most out m m') (hk : Cmp most out k k') : Cmp most out (if c then m else k) (if c then m' else k') := by
  split
  · exact hm
  · exact hk
theorem Cmp.fail (e : Int) (m' : Rd (List UInt8)) : Cmp most out (rFail e) m' := fun s p a q h => by cases h
theorem Cmp.pure : Cmp most out (rPure out) (rPure out) := fun s p a q h => by
  have h' := h
  unfold rPure at h; injection h with h; injection h with h1 h2
  subst h1; exact .inl ⟨h', .inr rfl⟩
end
theorem bytes_len {s : ByteArray} {p n : Nat} {x : ByteArray} {q : Nat} (h : rBytes n s p = .ok (x, q)) : x.data.toList.length = n := by
  unfold rBytes at h
  by_cases h0 : bytesErr s p n = 0
  · rw [if_neg (by simpa using h0)] at h
    injection h with h; injection h with h1 h2
    subst h1
    unfold bytesVal
    rw [if_pos h0]
    unfold bytesErr at h0
    rw [if_neg (by omega)] at h0
    by_cases h2 : (s.size - (p + 7) / 8 : Nat) < (n : Int)
    · rw [if_pos h2] at h0; omega
    · have hz : s.data.toList.length = s.size := Array.length_toList
      show ((s.data.toList.drop ((p + 7) / 8)).take (n : Int).toNat).length = n
      rw [List.length_take, List.length_drop, Int.toNat_natCast]; omega
  · rw [if_pos h0] at h; cases h
end Go.Proofs.YtjeeiodpdfbgmaaDoor
set_option linter.unusedVariables false
namespace Go.Proofs.YtjeeiodpdfbgmaaDoor
set_option maxRecDepth 100000
section
variable {α β : Type} {m : Rd α} {f : α → Rd β} {s : ByteArray} {p q : Nat} {a : α} {e : Int}
theorem bind_val (h : m s p = .ok (a, q)) : rBind m f s p = f a s q := by unfold rBind; rw [h]
theorem bind_err (h : m s p = .error e) : rBind m f s p = .error e := by unfold rBind; rw [h]
end
section
variable {l d : List Int} {most : Int} {f p p1 t : Nat} {out : List UInt8} {s : ByteArray}
theorem sym_end (h : nextS l s p = (256, 0, p1)) : symG l d most (f + 1) out s p = .ok (out, p1) := bind_val (rNext_val h)
theorem sym_lit (h : nextS l s p = (t, 0, p1)) (ht : t < 256) (hm : ¬ most < (out.length : Int) + 1) : symG l d most (f + 1) out s p = symG l d most f (out ++ [UInt8.ofNat t]) s p1 := by
  refine (bind_val (rNext_val h)).trans ?_
  rw [if_neg (by omega), if_pos ht, when_not hm]
/-- A match: what follows its symbol. -/
def matchR (l d : List Int) (most : Int) (f : Nat) (out : List UInt8) (t : Nat) : Rd (List UInt8) :=
  rBind (rBits (lenBits t)) fun x => rBind (rNext d) fun u => rWhen (29 < u) 12 (rBind (rBits (dstBits u)) fun y =>
    rWhen (out.length < dstBase u + y) 15 (rWhen (most < (out.length : Int) + ((lenBase t + x : Nat) : Int)) 5 (symG l d most f (matchOut (dstBase u + y) (lenBase t + x) out))))
theorem sym_match (h : nextS l s p = (t, 0, p1)) (h1 : 256 < t) (h2 : t ≤ 285) : symG l d most (f + 1) out s p = matchR l d most f out t s p1 := by
  refine (bind_val (rNext_val h)).trans ?_
  rw [if_neg (by omega), if_neg (by omega), when_not (by omega)]; rfl
variable {u p2 p3 : Nat}
theorem match_goes (h0 : bitsErr s p1 (lenBits t) = 0) (h : nextS d s (bitsGo s p1 (lenBits t)) = (u, 0, p3)) (hu : ¬ 29 < u) (he : bitsErr s p3 (dstBits u) = 0) (hf : ¬ out.length < dstBase u + bitsVal s p3 (dstBits u))
    (hb : ¬ most < (out.length : Int) + ((lenBase t + bitsVal s p1 (lenBits t) : Nat) : Int)) :
    matchR l d most f out t s p1 = symG l d most f (matchOut (dstBase u + bitsVal s p3 (dstBits u)) (lenBase t + bitsVal s p1 (lenBits t)) out) s (bitsGo s p3 (dstBits u)) :=
  (bind_val (rBits_val h0)).trans ((bind_val (rNext_val h)).trans ((when_not hu).trans ((bind_val (rBits_val he)).trans ((when_not hf).trans (when_not hb)))))
end
theorem lenBits_le {t : Nat} (h1 : 256 < t) (h2 : t ≤ 285) : lenBits t ≤ 5 := by unfold lenBits; split <;> omega
theorem dstBits_le {u : Nat} (h : u ≤ 29) : dstBits u ≤ 13 := by unfold dstBits; split <;> omega
theorem lenBase_all : ∀ k, k < 29 → 3 ≤ lenBase (257 + k) ∧ lenBase (257 + k) ≤ 258 ∧ lenBase (257 + k) + 2 ^ lenBits (257 + k) ≤ 259 := by decide +kernel
theorem lenBase_le {t : Nat} (h1 : 256 < t) (h2 : t ≤ 285) : 3 ≤ lenBase t ∧ lenBase t ≤ 258 ∧ lenBase t + 2 ^ lenBits t ≤ 259 := by
  have := lenBase_all (t - 257) (by omega)
  rwa [show 257 + (t - 257) = t from by omega] at this
theorem dstBase_all : ∀ u, u < 30 → 1 ≤ dstBase u ∧ dstBase u + 2 ^ dstBits u ≤ 32769 := by decide +kernel
theorem dstBase_le {u : Nat} (h : u ≤ 29) : 1 ≤ dstBase u ∧ dstBase u + 2 ^ dstBits u ≤ 32769 := dstBase_all u (by omega)
theorem bitsVal_lt (s : ByteArray) (p n : Nat) : bitsVal s p n < 2 ^ n := by
  unfold bitsVal; split
  · rw [Int.toNat_natCast]; exact bitsAt_lt _ _ _
  · exact Nat.two_pow_pos _
section
variable {small : List Int} {total f p p1 t : Nat} {acc : List Int} {s : ByteArray}
theorem len_done (h : total ≤ acc.length) : lenG small total (f + 1) acc s p = .ok (acc, p) := by rw [lenG, if_pos h]; rfl
theorem len_open (h : acc.length < total) : lenG small total (f + 1) acc s p = rBind (rNext small) (fun t =>
    if t < 16 then lenG small total f (acc ++ [(t : Int)]) else
    if t = 16 then rWhen (acc.length = 0) 12 (rBind (rBits 2) fun x => rWhen (total < acc.length + (3 + x)) 12 (lenG small total f (acc ++ List.replicate (3 + x) (acc.getD (acc.length - 1) 0)))) else
    if t = 17 then rBind (rBits 3) fun x => rWhen (total < acc.length + (3 + x)) 12 (lenG small total f (acc ++ List.replicate (3 + x) 0)) else
    rBind (rBits 7) fun x => rWhen (total < acc.length + (11 + x)) 12 (lenG small total f (acc ++ List.replicate (11 + x) 0))) s p := by rw [lenG, if_neg (by omega)]
theorem len_one (h : acc.length < total) (hn : nextS small s p = (t, 0, p1)) (ht : t < 16) : lenG small total (f + 1) acc s p = lenG small total f (acc ++ [(t : Int)]) s p1 := by
  rw [len_open h, bind_val (rNext_val hn), if_pos ht]
/-- A repetition: of what, its least number, its bits. -/
def repR (small : List Int) (total f : Nat) (acc : List Int) (v : Int) (least bits : Nat) : Rd (List Int) := rBind (rBits bits) fun x => rWhen (total < acc.length + (least + x)) 12 (lenG small total f (acc ++ List.replicate (least + x) v))
theorem len_again (h : acc.length < total) (hn : nextS small s p = (16, 0, p1)) (h0 : acc.length ≠ 0) : lenG small total (f + 1) acc s p = repR small total f acc (acc.getD (acc.length - 1) 0) 3 2 s p1 := by
  rw [len_open h, bind_val (rNext_val hn), if_neg (by omega), if_pos rfl, when_not h0]; rfl
theorem len_zeros (h : acc.length < total) (hn : nextS small s p = (17, 0, p1)) : lenG small total (f + 1) acc s p = repR small total f acc 0 3 3 s p1 := by
  rw [len_open h, bind_val (rNext_val hn), if_neg (by omega), if_neg (by omega), if_pos rfl]; rfl
theorem len_many (h : acc.length < total) (hn : nextS small s p = (t, 0, p1)) (ht : 17 < t) : lenG small total (f + 1) acc s p = repR small total f acc 0 11 7 s p1 := by
  rw [len_open h, bind_val (rNext_val hn), if_neg (by omega), if_neg (by omega), if_neg (by omega)]; rfl
variable {v : Int} {least bits : Nat}
theorem rep_goes (he : bitsErr s p1 bits = 0) (h : ¬ total < acc.length + (least + bitsVal s p1 bits)) :
    repR small total f acc v least bits s p1 = lenG small total f (acc ++ List.replicate (least + bitsVal s p1 bits) v) s (bitsGo s p1 bits) := (bind_val (rBits_val he)).trans (when_not h)
end
end Go.Proofs.YtjeeiodpdfbgmaaDoor
set_option linter.unusedVariables false
namespace Go.Proofs.YtjeeiodpdfbgmaaDoor
set_option maxRecDepth 100000
section
variable {most : Int} {out : List UInt8} {s : ByteArray} {p F f : Nat}
/-- The bytes of a stored block. -/
def storedK (most : Int) (out : List UInt8) (n : Nat) : Rd (List UInt8) := rBind (rBytes n) fun x => rWhen (most < (out.length : Int) + (n : Nat)) 5 (rPure (out ++ x.data.toList))
theorem stored_goes (h1 : bytesErr s p (2 : Nat) = 0) (h2 : bytesErr s (bytesGo s p (2 : Nat)) (2 : Nat) = 0) (hw : ¬ wordOf (bytesVal s (bytesGo s p (2 : Nat)) (2 : Nat)) ≠ 65535 - wordOf (bytesVal s p (2 : Nat))) :
    storedR most out s p = storedK most out (wordOf (bytesVal s p (2 : Nat))) s (bytesGo s (bytesGo s p (2 : Nat)) (2 : Nat)) :=
  (bind_val (rBytes_val h1)).trans ((bind_val (rBytes_val h2)).trans (when_not hw))
variable {n : Nat}
theorem tables_err1 {α : Type} {l d : List Int} {m : Rd α} (h : chk l ≠ 0) : tablesR l d m s p = .error (chk l) := when_yes h
theorem tables_err2 {α : Type} {l d : List Int} {m : Rd α} (h1 : chk l = 0) (h : chk d ≠ 0) : tablesR l d m s p = .error (chk d) := (when_not (by simpa using h1)).trans (when_yes h)
theorem tables_goes {α : Type} {l d : List Int} {m : Rd α} (h1 : chk l = 0) (h2 : chk d = 0) : tablesR l d m s p = m s p := (when_not (by simpa using h1)).trans (when_not (by simpa using h2))
theorem block_fixed : blockR most F 1 out s p = symG fixL fixD most F out s p := by
  unfold blockR; rw [if_neg (by omega), if_pos rfl]; exact tables_goes chk_fixL chk_fixD
theorem block_stored : blockR most F 0 out s p = storedR most out s p := by unfold blockR; rw [if_pos rfl]
theorem block_dyn : blockR most F 2 out s p = dynR most F out s p := by unfold blockR; rw [if_neg (by omega), if_neg (by omega), if_pos rfl]
def dyn1 (most : Int) (F : Nat) (out : List UInt8) (a : Nat) : Rd (List UInt8) := rBind (rBits 5) fun b => rBind (rBits 4) fun c => rBind (smallG (ordS.take (c + 4)) (List.replicate 19 0)) fun small =>
    rWhen (chk small ≠ 0) (chk small) (rBind (lenG small (a + 257 + (b + 1)) F []) fun ls => tablesR (ls.take (a + 257)) (ls.drop (a + 257)) (symG (ls.take (a + 257)) (ls.drop (a + 257)) most F out))
theorem dyn_goes1 (h : bitsErr s p (5 : Nat) = 0) : dynR most F out s p = dyn1 most F out (bitsVal s p (5 : Nat)) s (bitsGo s p (5 : Nat)) := bind_val (rBits_val h)
variable {a b c : Nat}
def dyn2 (most : Int) (F : Nat) (out : List UInt8) (a b : Nat) : Rd (List UInt8) := rBind (rBits 4) fun c => rBind (smallG (ordS.take (c + 4)) (List.replicate 19 0)) fun small =>
    rWhen (chk small ≠ 0) (chk small) (rBind (lenG small (a + 257 + (b + 1)) F []) fun ls => tablesR (ls.take (a + 257)) (ls.drop (a + 257)) (symG (ls.take (a + 257)) (ls.drop (a + 257)) most F out))
theorem dyn_goes2 (h : bitsErr s p (5 : Nat) = 0) : dyn1 most F out a s p = dyn2 most F out a (bitsVal s p (5 : Nat)) s (bitsGo s p (5 : Nat)) := bind_val (rBits_val h)
def dyn3 (most : Int) (F : Nat) (out : List UInt8) (a b : Nat) (small : List Int) : Rd (List UInt8) :=
    rWhen (chk small ≠ 0) (chk small) (rBind (lenG small (a + 257 + (b + 1)) F []) fun ls => tablesR (ls.take (a + 257)) (ls.drop (a + 257)) (symG (ls.take (a + 257)) (ls.drop (a + 257)) most F out))
theorem dyn_goes3 (h : bitsErr s p (4 : Nat) = 0) : dyn2 most F out a b s p = rBind (smallG (ordS.take (bitsVal s p (4 : Nat) + 4)) (List.replicate 19 0)) (dyn3 most F out a b) s (bitsGo s p (4 : Nat)) := bind_val (rBits_val h)
variable {small ls : List Int} {k : Nat} {ks : List Nat} {q : Nat} {e : Int}
theorem small_goes (h : bitsErr s p (3 : Nat) = 0) : smallG (k :: ks) small s p = smallG ks (small.set k (bitsVal s p (3 : Nat) : Nat)) s (bitsGo s p (3 : Nat)) := bind_val (rBits_val h)
theorem dyn3_goes (h : chk small = 0) (he : lenG small (a + 257 + (b + 1)) F [] s p = .ok (ls, q)) : dyn3 most F out a b small s p = tablesR (ls.take (a + 257)) (ls.drop (a + 257)) (symG (ls.take (a + 257)) (ls.drop (a + 257)) most F out) s q :=
  (when_not (by simpa using h)).trans (bind_val he)

/-- Behind a block's kind. -/
def blkK (most : Int) (F f last kind : Nat) (out : List UInt8) : Rd (List UInt8) := rBind (blockR most F kind out) fun out' => if last ≠ 0 then rPure out' else blkG most F f out'
theorem blk_goes (h1 : bitsErr s p (1 : Nat) = 0) (h2 : bitsErr s (bitsGo s p (1 : Nat)) (2 : Nat) = 0) :
    blkG most F (f + 1) out s p = blkK most F f (bitsVal s p (1 : Nat)) (bitsVal s (bitsGo s p (1 : Nat)) (2 : Nat)) out s (bitsGo s (bitsGo s p (1 : Nat)) (2 : Nat)) := (bind_val (rBits_val h1)).trans (bind_val (rBits_val h2))
variable {last kind : Nat} {out' : List UInt8}
theorem blkK_last (h : blockR most F kind out s p = .ok (out', q)) (hl : last ≠ 0) : blkK most F f last kind out s p = .ok (out', q) := by
  refine (bind_val h).trans ?_
  rw [if_pos hl]; rfl
end
/-- What Inflate tells: the bytes, how many bytes the stream has, and what is wrong. -/
def inflT (s : ByteArray) (most : Int) : List UInt8 × Nat × Int := match inflS s most with
  | .error e => ([], 0, e)
  | .ok (a, q) => (a, (q + 7) / 8, 0)
theorem inflT_err {s : ByteArray} {most e : Int} (h : inflS s most = .error e) : inflT s most = ([], 0, e) := by unfold inflT; rw [h]
theorem inflT_ok {s : ByteArray} {most : Int} {a : List UInt8} {q : Nat} (h : inflS s most = .ok (a, q)) : inflT s most = (a, (q + 7) / 8, 0) := by unfold inflT; rw [h]
end Go.Proofs.YtjeeiodpdfbgmaaDoor
set_option linter.unusedVariables false
namespace Go.Proofs.YtjeeiodpdfbgmaaDoor
set_option maxRecDepth 100000
/-- An error that is told is an error. -/
def Hard {α : Type} (m : Rd α) : Prop := ∀ s p, m s p ≠ .error 0
section
variable {α β : Type}
theorem Hard.pure (a : α) : Hard (rPure a) := fun _ _ h => by cases h
theorem Hard.fail {e : Int} (he : e ≠ 0) : Hard (rFail e : Rd α) := fun _ _ h => by
  unfold rFail at h; injection h with h; exact he h
theorem Hard.bind {m : Rd α} {f : α → Rd β} (hm : Hard m) (hf : ∀ a, Hard (f a)) : Hard (rBind m f) := fun s p h => by
  unfold rBind at h
  cases e : m s p with
  | error x => rw [e] at h; injection h with h; subst h; exact hm s p e
  | ok y => rw [e] at h; exact hf _ _ _ h
theorem Hard.when {c : Prop} [Decidable c] {e : Int} {m : Rd α} (he : c → e ≠ 0) (hm : Hard m) : Hard (rWhen c e m) := by
  unfold rWhen
  split
  · rename_i h; exact Hard.fail (he h)
  · exact hm
theorem Hard.ite {c : Prop} [Decidable c] {m k : Rd α} (hm : Hard m) (hk : Hard k) : Hard (if c then m else k) := by
  split
  · exact hm
  · exact hk
end
section
variable {s s' s1 : ByteArray} {most M : Int}
end
end Go.Proofs.YtjeeiodpdfbgmaaDoor
set_option linter.unusedVariables false
namespace Go.Proofs.YtjeeiodpdfbgmaaDoor
set_option maxRecDepth 100000
section
variable {α β γ : Type}
theorem bind_bind (m : Rd α) (f : α → Rd β) (g : β → Rd γ) : rBind (rBind m f) g = rBind m fun a => rBind (f a) g := by
  funext s p; unfold rBind; cases m s p <;> rfl
theorem bind_pure (a : α) (f : α → Rd β) : rBind (rPure a) f = f a := rfl
theorem bind_fail (e : Int) (f : α → Rd β) : rBind (rFail e : Rd α) f = rFail e := rfl
theorem bind_when (c : Prop) [Decidable c] (e : Int) (m : Rd α) (f : α → Rd β) : rBind (rWhen c e m) f = rWhen c e (rBind m f) := by
  unfold rWhen; split <;> rfl
end
theorem bitsErr_nat (s : ByteArray) (p : Nat) {n : Nat} (h : n ≤ 24) : bitsErr s p (n : Int) = if 8 * s.size - p < n then 3 else 0 := by
  unfold bitsErr
  rw [if_neg (by omega)]
  by_cases h1 : 8 * s.size - p < n
  · rw [if_pos (by omega), if_pos h1]
  · rw [if_neg (by omega), if_neg h1]
theorem bitsAt_add (x p m n : Nat) : bitsAt x p (m + n) = bitsAt x p m + 2 ^ m * bitsAt x (p + m) n := by
  unfold bitsAt
  rw [Nat.pow_add, Nat.mod_mul, Nat.pow_add, ← Nat.div_div_eq_div_mul]
theorem rBits_small {n : Nat} (h : n ≤ 24) (s : ByteArray) (p : Nat) : rBits n s p = if 8 * s.size - p < n then .error 3 else .ok (bitsAt (num s.data.toList) p n, p + n) := by
  unfold rBits bitsVal bitsGo
  rw [bitsErr_nat s p h]
  by_cases h1 : 8 * s.size - p < n
  · simp [h1]
  · simp [h1]
/-- Bits that are read at once, and one behind the other. -/
theorem bits_split {α : Type} (m n : Nat) (h : m + n ≤ 24) (f : Nat → Nat → Rd α) : (rBind (rBits m) fun a => rBind (rBits n) fun b => f a b) = rBind (rBits (m + n)) fun v => f (v % 2 ^ m) (v / 2 ^ m) := by
  funext s p
  by_cases h1 : 8 * s.size - p < m
  · rw [bind_err (e := 3) (by rw [rBits_small (by omega), if_pos h1]), bind_err (e := 3) (by rw [rBits_small h, if_pos (by omega)])]
  · rw [bind_val (a := bitsAt (num s.data.toList) p m) (q := p + m) (by rw [rBits_small (by omega), if_neg h1])]
    by_cases h2 : 8 * s.size - (p + m) < n
    · rw [bind_err (e := 3) (by rw [rBits_small (by omega), if_pos h2]), bind_err (e := 3) (by rw [rBits_small h, if_pos (by omega)])]
    · rw [bind_val (a := bitsAt (num s.data.toList) (p + m) n) (q := p + m + n) (by rw [rBits_small (by omega), if_neg h2]),
        bind_val (a := bitsAt (num s.data.toList) p (m + n)) (q := p + (m + n)) (by rw [rBits_small h, if_neg (by omega)])]
      have hlt := bitsAt_lt (num s.data.toList) p m
      have e1 : bitsAt (num s.data.toList) p (m + n) % 2 ^ m = bitsAt (num s.data.toList) p m := by
        rw [bitsAt_add, Nat.add_mul_mod_self_left, Nat.mod_eq_of_lt hlt]
      have e2 : bitsAt (num s.data.toList) p (m + n) / 2 ^ m = bitsAt (num s.data.toList) (p + m) n := by
        rw [bitsAt_add, Nat.add_mul_div_left _ _ (Nat.two_pow_pos m), Nat.div_eq_of_lt hlt, Nat.zero_add]
      rw [e1, e2, Nat.add_assoc]

/-- A block's head: 3 bits at once. -/
theorem blk_head (most : Int) (F f : Nat) (out : List UInt8) : blkG most F (f + 1) out = rBind (rBits 3) fun h => blkK most F f (h % 2) (h / 2) out := by
  have h := bits_split 1 2 (by omega) fun last kind => blkK most F f last kind out
  exact h
/-- The head of a dynamic block: 14 bits at once. -/
theorem dyn_head (most : Int) (F : Nat) (out : List UInt8) : dynR most F out = rBind (rBits 14) fun v => rBind (smallG (ordS.take (4 + v / 1024)) (List.replicate 19 0)) (dyn3 most F out (v % 32) (v / 32 % 32)) := by
  have h1 := fun a : Nat => bits_split 5 4 (by omega) fun b c => rBind (smallG (ordS.take (c + 4)) (List.replicate 19 0)) (dyn3 most F out a b)
  have h2 := bits_split 5 9 (by omega) fun a v => rBind (smallG (ordS.take (v / 2 ^ 5 + 4)) (List.replicate 19 0)) (dyn3 most F out a (v % 2 ^ 5))
  have h3 : dynR most F out = rBind (rBits 5) fun a => rBind (rBits (5 + 4)) fun v => rBind (smallG (ordS.take (v / 2 ^ 5 + 4)) (List.replicate 19 0)) (dyn3 most F out a (v % 2 ^ 5)) := by
    show (rBind (rBits 5) fun a => _) = _
    congr 1
    funext a
    exact h1 a
  rw [h3]
  refine h2.trans ?_
  congr 1
  funext v
  rw [show v / 2 ^ 5 / 2 ^ 5 + 4 = 4 + v / 1024 from by omega]

/-- A length's symbol, its bits read. -/
def rLen (t : Nat) : Rd Nat := rWhen (285 < t) 12 (rBind (rBits (lenBits t)) fun x => rPure (lenBase t + x))
/-- A distance. -/
def rDst (d : List Int) : Rd Nat := rBind (rNext d) fun u => rWhen (29 < u) 12 (rBind (rBits (dstBits u)) fun y => rPure (dstBase u + y))
def rMatch (d : List Int) (most : Int) (t : Nat) (out : List UInt8) : Rd (List UInt8) := rBind (rLen t) fun n => rBind (rDst d) fun far =>
  rWhen (out.length < far) 15 (rWhen (most < (out.length : Int) + (n : Nat)) 5 (rPure (matchOut far n out)))
def rProd (d : List Int) (most : Int) (t : Nat) (out : List UInt8) : Rd (List UInt8) := if 256 < t then rMatch d most t out else rWhen (most < (out.length : Int) + 1) 5 (rPure (out ++ [UInt8.ofNat t]))
theorem sym_step (l d : List Int) (most : Int) (f : Nat) (out : List UInt8) : symG l d most (f + 1) out = rBind (rNext l) fun t => if t = 256 then rPure out else rBind (rProd d most t out) (symG l d most f) := by
  show (rBind (rNext l) fun t => _) = _
  congr 1
  funext t
  by_cases h1 : t = 256
  · rw [if_pos h1, if_pos h1]
  · rw [if_neg h1, if_neg h1]
    unfold rProd
    by_cases h2 : t < 256
    · rw [if_pos h2, if_neg (by omega), bind_when, bind_pure]
    · rw [if_neg h2, if_pos (by omega)]
      unfold rMatch rLen rDst
      simp only [bind_bind, bind_when, bind_pure]

/-- A symbol's value out of its group. -/
def extBits (k g : Nat) : Nat := if k < 2 * g then 0 else k / g - 1
def extVal (k g x : Nat) : Nat := if k < 2 * g then k else (g + k % g) * 2 ^ (k / g - 1) + x
def rExt (k g : Nat) : Rd Nat := rBind (rBits (extBits k g)) fun x => rPure (extVal k g x)
theorem ext_len_all : ∀ k, k < 28 → lenBits (257 + k) = extBits k 4 ∧ ∀ x, x < 32 → lenBase (257 + k) + x = if k < 8 then 3 + extVal k 4 x + x else 3 + extVal k 4 x := by decide +kernel
theorem bits_zero {s : ByteArray} {p : Nat} : rBits 0 s p = .ok (0, p) := by
  rw [rBits_small (by omega), if_neg (by omega), bitsAt_zero]; rfl
theorem ext_len {t : Nat} (h1 : 256 < t) (h2 : t < 285) : rLen t = rBind (rExt (t - 257) 4) fun n => rPure (3 + n) := by
  funext s p
  obtain ⟨e1, e2⟩ := ext_len_all (t - 257) (by omega)
  rw [show 257 + (t - 257) = t from by omega] at e1 e2
  unfold rLen rExt
  rw [when_not (by omega), bind_bind, e1]
  by_cases hk : t - 257 < 8
  · have e0 : extBits (t - 257) 4 = 0 := by unfold extBits; rw [if_pos (by omega)]
    rw [e0, bind_val bits_zero, bind_val bits_zero, bind_pure, e2 0 (by omega), if_pos hk]; rfl
  · unfold rBind
    cases h : rBits (extBits (t - 257) 4) s p with
    | error e => rfl
    | ok y =>
      obtain ⟨x, q⟩ := y
      have hb : extBits (t - 257) 4 ≤ 5 := by unfold extBits; split <;> omega
      have hx : x < 32 := by
        rw [rBits_small (by omega)] at h
        split at h
        · cases h
        · injection h with h; injection h with h _
          subst h
          exact Nat.lt_of_lt_of_le (bitsAt_lt _ _ _) (Nat.pow_le_pow_right (by decide) hb)
      show rPure _ s q = rPure _ s q
      rw [e2 x hx, if_neg hk]
theorem rLen_top : rLen 285 = rPure 258 := by
  funext s p
  unfold rLen
  rw [when_not (by omega), show lenBits 285 = 0 from by decide +kernel, bind_val bits_zero, show lenBase 285 = 258 from by decide +kernel]
theorem rLen_far {t : Nat} (h : 285 < t) : rLen t = rFail 12 := by
  funext s p
  exact when_yes h
theorem ext_dst_all : ∀ u, u < 30 → dstBits u = extBits u 2 ∧ dstBase u = if u < 4 then 1 + u else 1 + extVal u 2 0 := by decide +kernel
theorem extVal_add {k g x : Nat} (h : 2 * g ≤ k) : extVal k g x = extVal k g 0 + x := by
  unfold extVal; rw [if_neg (by omega), if_neg (by omega)]; rfl
theorem ext_dst (d : List Int) : rDst d = rBind (rNext d) fun u => rWhen (29 < u) 12 (rBind (rExt u 2) fun n => rPure (1 + n)) := by
  unfold rDst
  congr 1
  funext u
  by_cases hu : 29 < u
  · unfold rWhen; rw [if_pos hu, if_pos hu]
  · funext s p
    rw [when_not hu, when_not hu]
    obtain ⟨e1, e2⟩ := ext_dst_all u (by omega)
    unfold rExt
    rw [bind_bind, e1]
    by_cases hk : u < 4
    · have e0 : extBits u 2 = 0 := by unfold extBits; rw [if_pos (by omega)]
      rw [e0, bind_val bits_zero, bind_val bits_zero, bind_pure, e2, if_pos hk]
      show rPure _ s p = rPure _ s p
      unfold extVal; rw [if_pos (by omega)]; rfl
    · congr 1
      funext x
      show rPure _ = rPure _
      rw [e2, if_neg hk, extVal_add (x := x) (by omega)]
      congr 1
      omega

/-- The head of a stored block: 4 bytes at once. -/
def wordAt (a : ByteArray) (i : Nat) : Nat := (a.data.toList.getD i 0).toNat + 256 * (a.data.toList.getD (i + 1) 0).toNat
theorem bytesErr_nat (s : ByteArray) (p n : Nat) : bytesErr s p (n : Int) = if s.size - (p + 7) / 8 < n then 3 else 0 := by
  unfold bytesErr
  rw [if_neg (by omega)]
  by_cases h1 : s.size - (p + 7) / 8 < n
  · rw [if_pos (by omega), if_pos h1]
  · rw [if_neg (by omega), if_neg h1]
theorem rBytes_nat (n : Nat) (s : ByteArray) (p : Nat) : rBytes n s p = if s.size - (p + 7) / 8 < n then .error 3 else .ok (⟨((s.data.toList.drop ((p + 7) / 8)).take n).toArray⟩, 8 * ((p + 7) / 8 + n)) := by
  unfold rBytes bytesVal bytesGo
  rw [bytesErr_nat s p n]
  by_cases h1 : s.size - (p + 7) / 8 < n
  · simp [h1]
  · rw [if_neg h1, if_neg h1]
    simp only [if_true, ne_eq, not_true_eq_false, if_false, Int.toNat_natCast]
    rw [if_neg (show ¬ (n : Int) < 0 by omega)]
theorem stored_head (most : Int) (out : List UInt8) : storedR most out = rBind (rBytes 4) fun h => rWhen (wordAt h 2 ≠ 65535 - wordAt h 0) 14 (storedK most out (wordAt h 0)) := by
  funext s p
  by_cases h1 : s.size - (p + 7) / 8 < 2
  · have k2 : rBytes 2 s p = .error 3 := by rw [rBytes_nat, if_pos h1]
    have k4 : rBytes 4 s p = .error 3 := by rw [rBytes_nat, if_pos (by omega)]
    exact (bind_err k2).trans (bind_err k4).symm
  · have k1 : rBytes 2 s p = .ok (⟨((s.data.toList.drop ((p + 7) / 8)).take 2).toArray⟩, 8 * ((p + 7) / 8 + 2)) := by rw [rBytes_nat, if_neg h1]
    have hp : (8 * ((p + 7) / 8 + 2) + 7) / 8 = (p + 7) / 8 + 2 := by omega
    refine (bind_val k1).trans ?_
    by_cases h2 : s.size - ((p + 7) / 8 + 2) < 2
    · have k2 : rBytes 2 s (8 * ((p + 7) / 8 + 2)) = .error 3 := by rw [rBytes_nat, hp, if_pos h2]
      have k4 : rBytes 4 s p = .error 3 := by rw [rBytes_nat, if_pos (by omega)]
      exact (bind_err k2).trans (bind_err k4).symm
    · have k2 : rBytes 2 s (8 * ((p + 7) / 8 + 2)) = .ok (⟨((s.data.toList.drop ((p + 7) / 8 + 2)).take 2).toArray⟩, 8 * ((p + 7) / 8 + 2 + 2)) := by rw [rBytes_nat, hp, if_neg h2]
      have k4 : rBytes 4 s p = .ok (⟨((s.data.toList.drop ((p + 7) / 8)).take 4).toArray⟩, 8 * ((p + 7) / 8 + 4)) := by rw [rBytes_nat, if_neg (by omega)]
      refine (bind_val k2).trans (Eq.trans ?_ (bind_val k4).symm)
      have hlen : 4 ≤ (s.data.toList.drop ((p + 7) / 8)).length := by
        have hz : s.data.toList.length = s.size := Array.length_toList
        rw [List.length_drop]; omega
      rw [← List.drop_drop]
      generalize s.data.toList.drop ((p + 7) / 8) = l at *
      match l, hlen with
      | x0 :: x1 :: x2 :: x3 :: r, _ => rfl
end Go.Proofs.YtjeeiodpdfbgmaaDoor
namespace Go.Proofs.YtjeeiodpdfbgmaaDoor
set_option maxRecDepth 100000
open Go Go.RowKit
theorem Mv.keepX {b rb : Nat} {w w1 : World} {og og1 : Option Nat} {Q : World → Prop} {X : List Nat} (h : Mv b rb w w1 og og1) (k : Keep (X ++ Foot b rb og) w Q) : Keep (X ++ Foot b rb og1) w1 Q :=
  k.step (h.but.more fun i hi => List.mem_append_right _ hi) fun i hi => by
    rcases List.mem_append.1 hi with h1 | h1
    · exact .inl (List.mem_append_left _ h1)
    · rcases h.foot i h1 with h2 | h2
      · exact .inl (List.mem_append_right _ h2)
      · exact .inr h2
section
variable {w w' : World} {b rb db : Nat} {og : Option Nat} {s : ByteArray} {p : Nat} {M : Int} {L : List UInt8} {fs fd : Option Nat}
/-- The stream when only other memory is written. -/
theorem SS.away {S : List Nat} (h : SS w b rb db og s p M L fs fd) (hB : But S w w') (hS : ∀ k ∈ S, k ∉ Foot b rb og ∧ k ≠ db) : SS w' b rb db og s p M L fs fd := by
  obtain ⟨ov, h1, h2, h3⟩ := h.cells
  have f1 : b ∉ S := fun hk => (hS b hk).1 (by simp [Foot])
  have f2 : rb ∉ S := fun hk => (hS rb hk).1 (by simp [Foot])
  exact ⟨h.rs.but hB f2 (fun hk => (hS db hk).2 rfl), h.hd, h.hr, h.hs, h.hM, h.hL, ov, h1.but hB f1, ownsRow_but h2 hB fun g hg hk => (hS g hk).1 (by rw [← h3, hg]; simp [Foot]), h3⟩
theorem foot_lt (h : SS w b rb db og s p M L fs fd) : ∀ k ∈ Foot b rb og, k < w.heap.size := fun k hk => by
  have h1 := h.lt
  have h2 := h.hr
  unfold Foot at hk
  rcases List.mem_cons.1 hk with e | hk
  · omega
  rcases List.mem_cons.1 hk with e | hk
  · omega
  exact (h.out k (by simpa using hk)).2
theorem SS.room (h : SS w b rb db og s p M L fs fd) (n : Nat) (hn : n ≤ 1000000) :
    Calls Tryd.prog 85 #[.pointer (some ⟨b, 0, none⟩), .int .i64 n] w fun e w' => e = .returned (.int .i64 (if M < (L.length : Int) + (n : Int) then 5 else 0)) ∧ ∃ nq, w' = w.drewN nq := by
  have hL := h.hL
  have hM := h.hM
  obtain ⟨A, c, hi, _, _⟩ := h.at
  have h1 : w.cell? ⟨b, 1, none⟩ = some (.slice A L.length c) := hi.cell 1
  have h2 : w.cell? ⟨b, 2, none⟩ = some (.int .i64 M) := hi.cell 2
  have hb : L.length ≤ 1099511627776 := by omega
  generalize L.length = k at *
  have e1 : IntKind.i64.wrap ((k : Int) + (n : Int)) = (k : Int) + (n : Int) := IntWalk.i64_in _ (by omega)
  clear h hi hL hM
  by_cases hm : M < (k : Int) + (n : Int)
  · rw [if_pos hm]
    have d : decide (M < (k : Int) + (n : Int)) = true := by simpa using hm
    clear hm
    go_enter Tryd.func85, Tryd.ntmps85
    go_wp2
    go_quiet (fail)
    go_wp2
    go_ret
    exact ⟨rfl, nq, rfl⟩
  · rw [if_neg hm]
    have d : decide (M < (k : Int) + (n : Int)) = false := by simpa using hm
    clear hm
    go_enter Tryd.func85, Tryd.ntmps85
    go_wp2
    go_quiet (fail)
    go_wp2
    go_ret
    exact ⟨rfl, nq, rfl⟩

theorem rBits_lt {n x q : Nat} (h : rBits n s p = .ok (x, q)) : x < 2 ^ n := by
  unfold rBits at h
  split at h
  · cases h
  · injection h with h; injection h with h _
    subst h
    exact bitsVal_lt s p n
end
end Go.Proofs.YtjeeiodpdfbgmaaDoor
namespace Go.Proofs.YtjeeiodpdfbgmaaDoor
set_option maxRecDepth 100000
open Go Go.RowKit
section
variable {w w' : World} {b rb db : Nat} {og : Option Nat} {s : ByteArray} {p : Nat} {M : Int} {L : List UInt8} {fs fd : Option Nat}
theorem SS.inCell (h : SS w b rb db og s p M L fs fd) : w.cell? ⟨b, 0, none⟩ = some (.pointer (some ⟨rb, 0, none⟩)) := by
  obtain ⟨ov, h1, _⟩ := h.cells
  exact h1.cell 0
theorem ret_num {a b x : Int} (h : a = b) : Ending.returned (.tuple #[.int .i64 a, .int .i64 x]) = .returned (.tuple #[.int .i64 b, .int .i64 x]) := by rw [h]
theorem val_join {m n v : Nat} (hm : m ≤ 8) (hn : n ≤ 13) (hv : v < 2 ^ n) : wrap64 (wrap64 ((m : Int) * 2 ^ n) + (v : Int)) = ((m * 2 ^ n + v : Nat) : Int) := by
  have h1 : 2 ^ n ≤ 2 ^ 13 := Nat.pow_le_pow_right (by decide) hn
  have h2 : m * 2 ^ n ≤ 8 * 2 ^ 13 := Nat.mul_le_mul hm h1
  rw [int_pow]
  generalize m * 2 ^ n = z at *
  have e1 : wrap64 ((z : Nat) : Int) = (z : Int) := IntWalk.wrap64_in _ ⟨by omega, by omega⟩
  rw [e1]
  have e2 : wrap64 ((z : Int) + (v : Int)) = (z : Int) + (v : Int) := IntWalk.wrap64_in _ ⟨by omega, by omega⟩
  rw [e2]; omega
theorem ext2 (h : SS w b rb db og s p M L fs fd) (k : Nat) (hk : k < 30) :
    Calls Tryd.prog 111 #[.pointer (some ⟨b, 0, none⟩), .int .i64 k, .int .i64 2] w (GotN w b rb db og s M L fs fd (rExt k 2 s p)) := by
  have h0 := h.inCell
  by_cases hlo : k < 4
  · have d : decide ((k : Int) < 4) = true := by simp; omega
    have hr : rExt k 2 s p = .ok (k, p) := by
      unfold rExt extBits extVal
      rw [if_pos (by omega), bind_val bits_zero, if_pos (by omega)]; rfl
    have H := Lib.hid h
    have HR := Lib.hid hr
    clear h hr
    go_enter Tryd.func111, Tryd.ntmps111
    go_wp2
    go_ret2
    exact GotN.of rfl (Mv.refl _ _ _ _) (fun e => absurd rfl e) (fun _ => ⟨HR.out, H.out⟩)
  · have d : decide ((k : Int) < 4) = false := by simp; omega
    obtain ⟨n, hn⟩ : ∃ n, n = k / 2 - 1 := ⟨_, rfl⟩
    obtain ⟨m, hm⟩ : ∃ m, m = 2 + k % 2 := ⟨_, rfl⟩
    have hn14 : n ≤ 13 := by omega
    have hr : rExt k 2 s p = rBind (rBits n) (fun x => rPure (m * 2 ^ n + x)) s p := by
      unfold rExt extBits extVal
      rw [if_neg (by omega), ← hn, ← hm]
      simp only [if_neg (show ¬ k < 2 * 2 by omega)]
    have hb := h.bitsI (i := (k : Int) / 2 - 1) n (by omega)
    have H := Lib.hid h
    have HR := Lib.hid hr
    have HB := Lib.hid hb
    clear h hr hb
    go_enter Tryd.func111, Tryd.ntmps111
    go_wp2_with fail
    refine HB.out.mono ?_
    rintro e w1 ⟨v, er, q, rfl, hMv, he1, he2⟩
    have HM := Lib.hid hMv
    have HE1 := Lib.hid he1
    have HE2 := Lib.hid he2
    clear hMv he1 he2
    by_cases her : er = 0
    · obtain ⟨hr, hS⟩ := HE2.out her
      have hv := rBits_lt hr
      have HRR := Lib.hid hr
      have HS := Lib.hid hS
      have HV := Lib.hid hv
      clear hr hS hv HE1 HE2
      subst her
      go_wp2
      go_ret2
      exact GotN.of (v := m * 2 ^ n + v) (ret_num (by rw [← val_join (by omega) hn14 HV.out, hm, hn]; rfl)) HM.out (fun e => absurd rfl e) (fun _ => ⟨by rw [HR.out, bind_val HRR.out]; rfl, HS.out⟩)
    · have d2 : (er != 0) = true := by simpa using her
      have HER := Lib.hid her
      clear her
      go_wp2
      go_ret2
      exact GotN.of (q := 0) rfl HM.out (fun _ => by rw [HR.out, bind_err (HE1.out HER.out)]) (fun e => absurd e HER.out)
theorem ext4 (h : SS w b rb db og s p M L fs fd) (k : Nat) (hk : k < 30) :
    Calls Tryd.prog 111 #[.pointer (some ⟨b, 0, none⟩), .int .i64 k, .int .i64 4] w (GotN w b rb db og s M L fs fd (rExt k 4 s p)) := by
  have h0 := h.inCell
  by_cases hlo : k < 8
  · have d : decide ((k : Int) < 8) = true := by simp; omega
    have hr : rExt k 4 s p = .ok (k, p) := by
      unfold rExt extBits extVal
      rw [if_pos (by omega), bind_val bits_zero, if_pos (by omega)]; rfl
    have H := Lib.hid h
    have HR := Lib.hid hr
    clear h hr
    go_enter Tryd.func111, Tryd.ntmps111
    go_wp2
    go_ret2
    exact GotN.of rfl (Mv.refl _ _ _ _) (fun e => absurd rfl e) (fun _ => ⟨HR.out, H.out⟩)
  · have d : decide ((k : Int) < 8) = false := by simp; omega
    obtain ⟨n, hn⟩ : ∃ n, n = k / 4 - 1 := ⟨_, rfl⟩
    obtain ⟨m, hm⟩ : ∃ m, m = 4 + k % 4 := ⟨_, rfl⟩
    have hn14 : n ≤ 13 := by omega
    have hr : rExt k 4 s p = rBind (rBits n) (fun x => rPure (m * 2 ^ n + x)) s p := by
      unfold rExt extBits extVal
      rw [if_neg (by omega), ← hn, ← hm]
      simp only [if_neg (show ¬ k < 2 * 4 by omega)]
    have hb := h.bitsI (i := (k : Int) / 4 - 1) n (by omega)
    have H := Lib.hid h
    have HR := Lib.hid hr
    have HB := Lib.hid hb
    clear h hr hb
    go_enter Tryd.func111, Tryd.ntmps111
    go_wp2_with fail
    refine HB.out.mono ?_
    rintro e w1 ⟨v, er, q, rfl, hMv, he1, he2⟩
    have HM := Lib.hid hMv
    have HE1 := Lib.hid he1
    have HE2 := Lib.hid he2
    clear hMv he1 he2
    by_cases her : er = 0
    · obtain ⟨hr, hS⟩ := HE2.out her
      have hv := rBits_lt hr
      have HRR := Lib.hid hr
      have HS := Lib.hid hS
      have HV := Lib.hid hv
      clear hr hS hv HE1 HE2
      subst her
      go_wp2
      go_ret2
      exact GotN.of (v := m * 2 ^ n + v) (ret_num (by rw [← val_join (by omega) hn14 HV.out, hm, hn]; rfl)) HM.out (fun e => absurd rfl e) (fun _ => ⟨by rw [HR.out, bind_val HRR.out]; rfl, HS.out⟩)
    · have d2 : (er != 0) = true := by simpa using her
      have HER := Lib.hid her
      clear her
      go_wp2
      go_ret2
      exact GotN.of (q := 0) rfl HM.out (fun _ => by rw [HR.out, bind_err (HE1.out HER.out)]) (fun e => absurd e HER.out)
end
end Go.Proofs.YtjeeiodpdfbgmaaDoor
