/- Several texts in one: InfS, InfT, InfU, InfV, LzM, DefM, DefN, DefO, BestM (what Unwraps, Wraps reach of them). -/
import Derived.Test.YtghegmbafbpnjaaGreatDoorPm01
import Derived.Test.YtghegmbafbpnjaaGreatDoorPm02
import Derived.Test.YtghegmbafbpnjaaGreatDoorPm03
import Derived.Test.YtghegmbafbpnjaaGreatDoorPm04
import Derived.Test.YtghegmbafbpnjaaGreatDoorPm05
import Derived.Test.YtghegmbafbpnjaaGreatDoorPm06
import Derived.Test.YtghegmbafbpnjaaGreatDoorPm07
import Derived.Test.YtghegmbafbpnjaaGreatDoorPm08
import Derived.Below
import Derived.BigQuiet
import Derived.BigRegion
import Derived.Deep.AppendLies
import Derived.Deep.CutRange
import Derived.Deep.DeepCutAuto
import Derived.Deep.Draws
import Derived.Deep.QuietTactic
import Derived.Deep.RegionLaw
import Derived.Deep.RegionWith
import Derived.Deep.Slices
import Derived.Laws.BitsAllLaws
import Derived.Laws.BitsLemmas
import Derived.Laws.IdiomStrings
import Derived.Laws.OwnMore
import Derived.Laws.Rows
import Derived.Lib.AppendStr
import Derived.Lib.Hide
import Derived.Lib.Strings
import Derived.LoopIn
import Derived.LoopNIn
import Derived.OneCell
import Derived.OpenShut
import Derived.Outline
import Derived.OwnWalk
import Derived.OwnWalkIn
import Derived.ProofKit
import Derived.RangeFuncBound
import Derived.RangeFuncCalls
import Derived.RangeFuncLeaves
import Derived.RangeFuncNested
import Derived.RegionTactic
import Derived.Shelf.Abstract
import Derived.Shelf.RegionOpen
import Derived.Shelf.SlSortCmp.QuietGrown
import Derived.StillTailTactics
import Derived.TacticsInMore
import Derived.Test.YtghegmbafbpnjaaGreatDoorChecked
import Derived.WalkKit
import Derived.WalkLawsBesides
import Derived.WalkSpells
set_option maxRecDepth 100000
set_option linter.unusedVariables false
set_option linter.unusedVariables false
namespace Go.Proofs.YtghegmbafbpnjaaGreatDoor
set_option maxRecDepth 100000
def lenBits (t : Nat) : Nat := if t < 265 ∨ t = 285 then 0 else (t - 261) / 4
def lenBase (t : Nat) : Nat := if t = 285 then 258 else 3 + ((List.range (t - 257)).map fun k => 2 ^ lenBits (257 + k)).sum
def dstBits (t : Nat) : Nat := if t < 4 then 0 else t / 2 - 1
def dstBase (t : Nat) : Nat := 1 + ((List.range t).map fun k => 2 ^ dstBits k).sum
/-- A match: byte by byte. -/
def matchOut (far : Nat) : Nat → List UInt8 → List UInt8
  | 0, out => out
  | n + 1, out => matchOut far n (out ++ [out.getD (out.length - far) 0])
theorem length_matchOut (far : Nat) : ∀ n out, (matchOut far n out).length = out.length + n
  | 0, _ => rfl
  | n + 1, out => by rw [matchOut, length_matchOut far n]; simp; omega
def wordOf (a : ByteArray) : Nat := (a.data.toList.getD 0 0).toNat + 256 * (a.data.toList.getD 1 0).toNat
def storedR (most : Int) (out : List UInt8) : Rd (List UInt8) :=
  rBind (rBytes 2) fun a => rBind (rBytes 2) fun b => rWhen (wordOf b ≠ 65535 - wordOf a) 14 (rBind (rBytes (wordOf a)) fun x =>
    rWhen (most < (out.length : Int) + (wordOf a : Nat)) 5 (rPure (out ++ x.data.toList)))
/-- A block of symbols. -/
def symG (l d : List Int) (most : Int) : Nat → List UInt8 → Rd (List UInt8)
  | 0, _ => rFail 3
  | f + 1, out => rBind (rNext l) fun t =>
    if t = 256 then rPure out else
    if t < 256 then rWhen (most < (out.length : Int) + 1) 5 (symG l d most f (out ++ [UInt8.ofNat t])) else
    rWhen (285 < t) 12 (rBind (rBits (lenBits t)) fun x => rBind (rNext d) fun u => rWhen (29 < u) 12 (rBind (rBits (dstBits u)) fun y =>
      rWhen (out.length < dstBase u + y) 15 (rWhen (most < (out.length : Int) + ((lenBase t + x : Nat) : Int)) 5 (symG l d most f (matchOut (dstBase u + y) (lenBase t + x) out)))))
def tablesR {α : Type} (l d : List Int) (m : Rd α) : Rd α := rWhen (chk l ≠ 0) (chk l) (rWhen (chk d ≠ 0) (chk d) m)
def fixL : List Int := List.replicate 144 8 ++ List.replicate 112 9 ++ List.replicate 24 7 ++ List.replicate 8 8
def fixD : List Int := List.replicate 32 5
def ordS : List Nat := [16, 17, 18, 0, 8, 7, 9, 6, 10, 5, 11, 4, 12, 3, 13, 2, 14, 1, 15]
def smallG : List Nat → List Int → Rd (List Int)
  | [], a => rPure a
  | k :: ks, a => rBind (rBits 3) fun v => smallG ks (a.set k (v : Nat))
/-- The lengths that are told in the small code. -/
def lenG (small : List Int) (total : Nat) : Nat → List Int → Rd (List Int)
  | 0, _ => rFail 3
  | f + 1, acc => if total ≤ acc.length then rPure acc else rBind (rNext small) fun t =>
    if t < 16 then lenG small total f (acc ++ [(t : Int)]) else
    if t = 16 then rWhen (acc.length = 0) 12 (rBind (rBits 2) fun x => rWhen (total < acc.length + (3 + x)) 12 (lenG small total f (acc ++ List.replicate (3 + x) (acc.getD (acc.length - 1) 0)))) else
    if t = 17 then rBind (rBits 3) fun x => rWhen (total < acc.length + (3 + x)) 12 (lenG small total f (acc ++ List.replicate (3 + x) 0)) else
    rBind (rBits 7) fun x => rWhen (total < acc.length + (11 + x)) 12 (lenG small total f (acc ++ List.replicate (11 + x) 0))
def dynR (most : Int) (F : Nat) (out : List UInt8) : Rd (List UInt8) :=
  rBind (rBits 5) fun a => rBind (rBits 5) fun b => rBind (rBits 4) fun c => rBind (smallG (ordS.take (c + 4)) (List.replicate 19 0)) fun small =>
    rWhen (chk small ≠ 0) (chk small) (rBind (lenG small (a + 257 + (b + 1)) F []) fun ls =>
      tablesR (ls.take (a + 257)) (ls.drop (a + 257)) (symG (ls.take (a + 257)) (ls.drop (a + 257)) most F out))
def blockR (most : Int) (F kind : Nat) (out : List UInt8) : Rd (List UInt8) :=
  if kind = 0 then storedR most out else if kind = 1 then tablesR fixL fixD (symG fixL fixD most F out) else if kind = 2 then dynR most F out else rFail 13
/-- Blocks up to the last one. -/
def blkG (most : Int) (F : Nat) : Nat → List UInt8 → Rd (List UInt8)
  | 0, _ => rFail 3
  | f + 1, out => rBind (rBits 1) fun last => rBind (rBits 2) fun kind => rBind (blockR most F kind out) fun out' => if last ≠ 0 then rPure out' else blkG most F f out'
def inflS (s : ByteArray) (most : Int) : Except Int (List UInt8 × Nat) := blkG most (8 * s.size + 1) (8 * s.size + 1) [] s 0

def Under {α : Type} (m m' : Rd α) : Prop := ∀ s s' p r, Pre s s' → m s p = r → r ≠ .error 3 → m' s' p = r
section
variable {α β : Type}
theorem Under.none (m : Rd α) : Under (rFail 3) m := fun _ _ _ _ _ h hr => absurd h.symm hr
theorem Under.bind {m m' : Rd α} {f f' : α → Rd β} (hm : Under m m') (hf : ∀ a, Under (f a) (f' a)) : Under (rBind m f) (rBind m' f') := by
  intro s s' p r hp h hr
  unfold rBind at h ⊢
  cases e : m s p with
  | error x =>
    rw [e] at h
    rw [hm s s' p _ hp e (fun h2 => by injection h2 with h2; subst h2; exact hr h.symm)]
    exact h
  | ok y =>
    rw [e] at h
    rw [hm s s' p _ hp e (by simp)]
    exact hf y.1 s s' y.2 r hp h hr
theorem Under.when {c : Prop} [Decidable c] {e : Int} {m m' : Rd α} (hm : Under m m') : Under (rWhen c e m) (rWhen c e m') := by
  unfold rWhen; split
  · exact Stable.fail e
  · exact hm
theorem Under.ite {c : Prop} [Decidable c] {m m' k k' : Rd α} (hm : Under m m') (hk : Under k k') : Under (if c then m else k) (if c then m' else k') := by
  split
  · exact hm
  · exact hk
end
theorem Adv.ite {α : Type} {c : Prop} [Decidable c] {m k : Rd α} (hm : Adv m) (hk : Adv k) : Adv (if c then m else k) := by
  split
  · exact hm
  · exact hk
theorem symG_adv (l d : List Int) (most : Int) : ∀ f out, Adv (symG l d most f out)
  | 0, _ => Adv.fail 3
  | f + 1, out => Adv.bind (rNext_adv l) fun t => Adv.ite (Adv.pure _) (Adv.ite (Adv.when (symG_adv l d most f _)) (Adv.when (Adv.bind (rBits_adv _) fun x => Adv.bind (rNext_adv d) fun u =>
      Adv.when (Adv.bind (rBits_adv _) fun y => Adv.when (Adv.when (symG_adv l d most f _))))))
theorem lenG_adv (small : List Int) (total : Nat) : ∀ f acc, Adv (lenG small total f acc)
  | 0, _ => Adv.fail 3
  | f + 1, acc => by
    refine Adv.ite (Adv.pure _) (Adv.bind (rNext_adv small) fun t => Adv.ite (lenG_adv small total f _) (Adv.ite (Adv.when ?_) (Adv.ite ?_ ?_)))
    all_goals exact Adv.bind (rBits_adv _) fun x => Adv.when (lenG_adv small total f _)
theorem smallG_adv : ∀ (ks : List Nat) (a : List Int), Adv (smallG ks a)
  | [], a => Adv.pure a
  | k :: ks, a => Adv.bind (rBits_adv 3) fun v => smallG_adv ks _
theorem blockR_adv (most : Int) (F kind : Nat) (out : List UInt8) : Adv (blockR most F kind out) := by
  unfold blockR
  refine Adv.ite (Adv.bind (rBytes_adv 2) fun a => Adv.bind (rBytes_adv 2) fun b => Adv.when (Adv.bind (rBytes_adv _) fun x => Adv.when (Adv.pure _))) (Adv.ite (Adv.when (Adv.when (symG_adv _ _ _ _ _))) (Adv.ite ?_ (Adv.fail 13)))
  exact Adv.bind (rBits_adv 5) fun a => Adv.bind (rBits_adv 5) fun b => Adv.bind (rBits_adv 4) fun c => Adv.bind (smallG_adv _ _) fun small =>
    Adv.when (Adv.bind (lenG_adv _ _ _ _) fun ls => Adv.when (Adv.when (symG_adv _ _ _ _ _)))
theorem blkG_adv (most : Int) (F : Nat) : ∀ f out, Adv (blkG most F f out)
  | 0, _ => Adv.fail 3
  | f + 1, out => Adv.bind (rBits_adv 1) fun last => Adv.bind (rBits_adv 2) fun kind => Adv.bind (blockR_adv most F kind out) fun out' => Adv.ite (Adv.pure _) (blkG_adv most F f out')
theorem infl_within {s : ByteArray} {most : Int} {a : List UInt8} {q : Nat} (h : inflS s most = .ok (a, q)) : q ≤ 8 * s.size := (blkG_adv most _ _ _ s 0 a q (Nat.zero_le _) h).2
def Grow (most : Int) (out : List UInt8) (m : Rd (List UInt8)) : Prop := ∀ s p a q, m s p = .ok (a, q) → out.length ≤ a.length ∧ ((a.length : Int) ≤ most ∨ a = out)
/-- With a lower bound: the same, or too great. -/
def Cmp (most : Int) (out : List UInt8) (m m' : Rd (List UInt8)) : Prop := ∀ s p a q, m s p = .ok (a, q) → (m' s p = .ok (a, q) ∧ ((a.length : Int) ≤ most ∨ a = out)) ∨ (m' s p = .error 5 ∧ most < (a.length : Int))
section
variable {α : Type} {most : Int} {out : List UInt8}
theorem ok_bind {β : Type} {m : Rd α} {f : α → Rd β} {s : ByteArray} {p : Nat} {r : β × Nat} (h : rBind m f s p = .ok r) : ∃ y, m s p = .ok y ∧ f y.1 s y.2 = .ok r := by
  unfold rBind at h
  cases e : m s p with
  | error x => rw [e] at h; cases h
  | ok y => rw [e] at h; exact ⟨y, rfl, h⟩
theorem ok_when {c : Prop} [Decidable c] {e : Int} {m : Rd α} {s : ByteArray} {p : Nat} {r : α × Nat} (h : rWhen c e m s p = .ok r) : ¬ c ∧ m s p = .ok r := by
  unfold rWhen at h
  by_cases hc : c
  · rw [if_pos hc] at h; cases h
  · rw [if_neg hc] at h; exact ⟨hc, h⟩
theorem bind_ok {β : Type} {m : Rd α} {f : α → Rd β} {s : ByteArray} {p : Nat} {y : α × Nat} (h : m s p = .ok y) : rBind m f s p = f y.1 s y.2 := by unfold rBind; rw [h]
theorem when_not {c : Prop} [Decidable c] {e : Int} {m : Rd α} {s : ByteArray} {p : Nat} (h : ¬ c) : rWhen c e m s p = m s p := by unfold rWhen; rw [if_neg h]
theorem when_yes {c : Prop} [Decidable c] {e : Int} {m : Rd α} {s : ByteArray} {p : Nat} (h : c) : rWhen c e m s p = .error e := by unfold rWhen; rw [if_pos h]; rfl
theorem Grow.bind {m : Rd α} {f : α → Rd (List UInt8)} (hf : ∀ a, Grow most out (f a)) : Grow most out (rBind m f) := fun s p a q h => by
  obtain ⟨y, _, h2⟩ := ok_bind h
  exact hf _ _ _ _ _ h2
theorem Grow.when {c : Prop} [Decidable c] {e : Int} {m : Rd (List UInt8)} (hm : ¬ c → Grow most out m) : Grow most out (rWhen c e m) := fun s p a q h => by
  obtain ⟨hc, h2⟩ := ok_when h
  exact hm hc _ _ _ _ h2
theorem Grow.ite {c : Prop} [Decidable c] {m k : Rd (List UInt8)} (hm : Grow most out m) (hk : Grow most out k) : Grow most out (if c then m else k) := by
  split
  · exact hm
  · exact hk
theorem Grow.fail (e : Int) : Grow most out (rFail e) := fun s p a q h => by cases h
theorem Grow.pure : Grow most out (rPure out) := fun s p a q h => by
  unfold rPure at h; injection h with h; injection h with h1 h2
  subst h1; exact ⟨Nat.le_refl _, .inr rfl⟩
theorem Grow.step {out' : List UInt8} {m : Rd (List UInt8)} (hl : out.length ≤ out'.length) (hm : (out'.length : Int) ≤ most) (h : Grow most out' m) : Grow most out m := fun s p a q e => by
  obtain ⟨h1, h2⟩ := h s p a q e
  refine ⟨by omega, ?_⟩
  rcases h2 with h2 | h2
  · exact .inl h2
  · subst h2; exact .inl hm
theorem Cmp.bind {m : Rd α} {f f' : α → Rd (List UInt8)} (hf : ∀ a, Cmp most out (f a) (f' a)) : Cmp most out (rBind m f) (rBind m f') := fun s p a q h => by
  obtain ⟨y, h1, h2⟩ := ok_bind h
  rw [bind_ok h1]
  exact hf _ _ _ _ _ h2
theorem Cmp.when {c : Prop} [Decidable c] {e : Int} {m m' : Rd (List UInt8)} (hm : Cmp most out m m') : Cmp most out (rWhen c e m) (rWhen c e m') := fun s p a q h => by
  obtain ⟨hc, h2⟩ := ok_when h
  rw [when_not hc]
  exact hm _ _ _ _ h2
theorem Cmp.ite {c : Prop} [Decidable c] {m m' k k' : Rd (List UInt8)} (hm : Cmp most out m m') (hk : Cmp most out k k') : Cmp most out (if c then m else k) (if c then m' else k') := by
  split
  · exact hm
  · exact hk
theorem Cmp.fail (e : Int) (m' : Rd (List UInt8)) : Cmp most out (rFail e) m' := fun s p a q h => by cases h
theorem Cmp.pure : Cmp most out (rPure out) (rPure out) := fun s p a q h => by
  have h' := h
  unfold rPure at h; injection h with h; injection h with h1 h2
  subst h1; exact .inl ⟨h', .inr rfl⟩
/-- Where the bound is asked. -/
theorem Cmp.guard {out' : List UInt8} {k M : Int} {m m' : Rd (List UInt8)} (hl : (out'.length : Int) = k) (hg : Grow M out' m) (h : Cmp most out' m m') : Cmp most out (rWhen (M < k) 5 m) (rWhen (most < k) 5 m') := fun s p a q e => by
  obtain ⟨hc, h2⟩ := ok_when e
  by_cases hm : most < k
  · rw [when_yes hm]
    have := (hg _ _ _ _ h2).1
    exact .inr ⟨rfl, by omega⟩
  · rw [when_not hm]
    rcases h _ _ _ _ h2 with ⟨h3, h4⟩ | h3
    · refine .inl ⟨h3, ?_⟩
      rcases h4 with h4 | h4
      · exact .inl h4
      · subst h4; exact .inl (by omega)
    · exact .inr h3
end
theorem symG_grow (l d : List Int) (most : Int) : ∀ f out, Grow most out (symG l d most f out)
  | 0, _ => Grow.fail 3
  | f + 1, out => by
    refine Grow.bind fun t => Grow.ite Grow.pure (Grow.ite (Grow.when fun hc => ?_) (Grow.when fun _ => Grow.bind fun x => Grow.bind fun u => Grow.when fun _ => Grow.bind fun y => Grow.when fun _ => Grow.when fun hc => ?_))
    · exact Grow.step (by simp) (by simp; omega) (symG_grow l d most f _)
    · exact Grow.step (by rw [length_matchOut]; omega) (by rw [length_matchOut]; omega) (symG_grow l d most f _)
theorem bytes_len {s : ByteArray} {p n : Nat} {x : ByteArray} {q : Nat} (h : rBytes n s p = .ok (x, q)) : x.data.toList.length = n := by
  unfold rBytes at h
  by_cases h0 : bytesErr s p n = 0
  · rw [if_neg (by simpa using h0)] at h
    injection h with h; injection h with h1 h2
    subst h1
    unfold bytesVal
    rw [if_pos h0]
    unfold bytesErr at h0
    rw [if_neg (by omega)] at h0
    by_cases h2 : (s.size - (p + 7) / 8 : Nat) < (n : Int)
    · rw [if_pos h2] at h0; omega
    · have hz : s.data.toList.length = s.size := Array.length_toList
      show ((s.data.toList.drop ((p + 7) / 8)).take (n : Int).toNat).length = n
      rw [List.length_take, List.length_drop, Int.toNat_natCast]; omega
  · rw [if_pos h0] at h; cases h
theorem storedR_grow (most : Int) (out : List UInt8) : Grow most out (storedR most out) := by
  refine Grow.bind fun a => Grow.bind fun b => Grow.when fun _ => fun s p r q h => ?_
  obtain ⟨y, h1, h2⟩ := ok_bind h
  obtain ⟨hc, h3⟩ := ok_when h2
  have hl := bytes_len h1
  unfold rPure at h3; injection h3 with h3; injection h3 with h4 h5
  subst h4
  rw [List.length_append, hl]
  exact ⟨by omega, .inl (by omega)⟩
theorem blockR_grow (most : Int) (F kind : Nat) (out : List UInt8) : Grow most out (blockR most F kind out) := by
  unfold blockR
  refine Grow.ite (storedR_grow most out) (Grow.ite (Grow.when fun _ => Grow.when fun _ => symG_grow _ _ _ _ _) (Grow.ite ?_ (Grow.fail 13)))
  exact Grow.bind fun a => Grow.bind fun b => Grow.bind fun c => Grow.bind fun small => Grow.when fun _ => Grow.bind fun ls => Grow.when fun _ => Grow.when fun _ => symG_grow _ _ _ _ _
theorem blkG_grow (most : Int) (F : Nat) : ∀ f out, Grow most out (blkG most F f out)
  | 0, _ => Grow.fail 3
  | f + 1, out => Grow.bind fun last => Grow.bind fun kind => fun s p a q h => by
    obtain ⟨y, h1, h2⟩ := ok_bind h
    obtain ⟨g1, g2⟩ := blockR_grow most F kind out _ _ _ _ h1
    have h3 : Grow most y.1 (if last ≠ 0 then rPure y.1 else blkG most F f y.1) := Grow.ite Grow.pure (blkG_grow most F f y.1)
    obtain ⟨g3, g4⟩ := h3 _ _ _ _ h2
    refine ⟨by omega, ?_⟩
    rcases g4 with g4 | g4
    · exact .inl g4
    · rw [g4]; exact g2
theorem infl_most {s : ByteArray} {most : Int} {a : List UInt8} {q : Nat} (h : inflS s most = .ok (a, q)) : (a.length : Int) ≤ most ∨ a = [] := (blkG_grow most _ _ _ s 0 a q h).2
end Go.Proofs.YtghegmbafbpnjaaGreatDoor
set_option linter.unusedVariables false
namespace Go.Proofs.YtghegmbafbpnjaaGreatDoor
set_option maxRecDepth 100000
theorem rBits_val {n p : Nat} {s : ByteArray} (h : bitsErr s p n = 0) : rBits n s p = .ok (bitsVal s p n, bitsGo s p n) := by unfold rBits; rw [if_neg (by simpa using h)]
theorem rBits_err {n p : Nat} {s : ByteArray} (h : bitsErr s p n ≠ 0) : rBits n s p = .error (bitsErr s p n) := by unfold rBits; rw [if_pos h]
theorem rBytes_val {n p : Nat} {s : ByteArray} (h : bytesErr s p n = 0) : rBytes n s p = .ok (bytesVal s p n, bytesGo s p n) := by unfold rBytes; rw [if_neg (by simpa using h)]
theorem rBytes_err {n p : Nat} {s : ByteArray} (h : bytesErr s p n ≠ 0) : rBytes n s p = .error (bytesErr s p n) := by unfold rBytes; rw [if_pos h]
theorem rNext_val {l : List Int} {p t p1 : Nat} {s : ByteArray} (h : nextS l s p = (t, 0, p1)) : rNext l s p = .ok (t, p1) := by unfold rNext; rw [h]; rfl
theorem rNext_err {l : List Int} {p t p1 : Nat} {e : Int} {s : ByteArray} (h : nextS l s p = (t, e, p1)) (he : e ≠ 0) : rNext l s p = .error e := by unfold rNext; rw [h]; exact if_pos he
section
variable {α β : Type} {m : Rd α} {f : α → Rd β} {s : ByteArray} {p q : Nat} {a : α} {e : Int}
theorem bind_val (h : m s p = .ok (a, q)) : rBind m f s p = f a s q := by unfold rBind; rw [h]
theorem bind_err (h : m s p = .error e) : rBind m f s p = .error e := by unfold rBind; rw [h]
end
section
variable {l d : List Int} {most : Int} {f p p1 t : Nat} {out : List UInt8} {s : ByteArray}
variable {u p2 p3 : Nat}
end
theorem lenBase_all : ∀ k, k < 29 → 3 ≤ lenBase (257 + k) ∧ lenBase (257 + k) ≤ 258 ∧ lenBase (257 + k) + 2 ^ lenBits (257 + k) ≤ 259 := by decide +kernel
theorem lenBase_le {t : Nat} (h1 : 256 < t) (h2 : t ≤ 285) : 3 ≤ lenBase t ∧ lenBase t ≤ 258 ∧ lenBase t + 2 ^ lenBits t ≤ 259 := by
  have := lenBase_all (t - 257) (by omega)
  rwa [show 257 + (t - 257) = t from by omega] at this
theorem dstBase_all : ∀ u, u < 30 → 1 ≤ dstBase u ∧ dstBase u + 2 ^ dstBits u ≤ 32769 := by decide +kernel
theorem dstBase_le {u : Nat} (h : u ≤ 29) : 1 ≤ dstBase u ∧ dstBase u + 2 ^ dstBits u ≤ 32769 := dstBase_all u (by omega)
theorem bitsVal_lt (s : ByteArray) (p n : Nat) : bitsVal s p n < 2 ^ n := by
  unfold bitsVal; split
  · rw [Int.toNat_natCast]; exact bitsAt_lt _ _ _
  · exact Nat.two_pow_pos _
theorem chk_fixL : chk fixL = 0 := by decide +kernel
theorem chk_fixD : chk fixD = 0 := by decide +kernel

section
variable {small : List Int} {total f p p1 t : Nat} {acc : List Int} {s : ByteArray}
theorem len_done (h : total ≤ acc.length) : lenG small total (f + 1) acc s p = .ok (acc, p) := by rw [lenG, if_pos h]; rfl
theorem len_open (h : acc.length < total) : lenG small total (f + 1) acc s p = rBind (rNext small) (fun t =>
    if t < 16 then lenG small total f (acc ++ [(t : Int)]) else
    if t = 16 then rWhen (acc.length = 0) 12 (rBind (rBits 2) fun x => rWhen (total < acc.length + (3 + x)) 12 (lenG small total f (acc ++ List.replicate (3 + x) (acc.getD (acc.length - 1) 0)))) else
    if t = 17 then rBind (rBits 3) fun x => rWhen (total < acc.length + (3 + x)) 12 (lenG small total f (acc ++ List.replicate (3 + x) 0)) else
    rBind (rBits 7) fun x => rWhen (total < acc.length + (11 + x)) 12 (lenG small total f (acc ++ List.replicate (11 + x) 0))) s p := by rw [lenG, if_neg (by omega)]
variable {v : Int} {least bits : Nat}
end
end Go.Proofs.YtghegmbafbpnjaaGreatDoor
set_option linter.unusedVariables false
namespace Go.Proofs.YtghegmbafbpnjaaGreatDoor
set_option maxRecDepth 100000
section
variable {most : Int} {out : List UInt8} {s : ByteArray} {p F f : Nat}
/-- The bytes of a stored block. -/
def storedK (most : Int) (out : List UInt8) (n : Nat) : Rd (List UInt8) := rBind (rBytes n) fun x => rWhen (most < (out.length : Int) + (n : Nat)) 5 (rPure (out ++ x.data.toList))
variable {n : Nat}
theorem tables_err1 {α : Type} {l d : List Int} {m : Rd α} (h : chk l ≠ 0) : tablesR l d m s p = .error (chk l) := when_yes h
theorem tables_err2 {α : Type} {l d : List Int} {m : Rd α} (h1 : chk l = 0) (h : chk d ≠ 0) : tablesR l d m s p = .error (chk d) := (when_not (by simpa using h1)).trans (when_yes h)
theorem tables_goes {α : Type} {l d : List Int} {m : Rd α} (h1 : chk l = 0) (h2 : chk d = 0) : tablesR l d m s p = m s p := (when_not (by simpa using h1)).trans (when_not (by simpa using h2))
theorem block_fixed : blockR most F 1 out s p = symG fixL fixD most F out s p := by
  unfold blockR; rw [if_neg (by omega), if_pos rfl]; exact tables_goes chk_fixL chk_fixD
theorem block_stored : blockR most F 0 out s p = storedR most out s p := by unfold blockR; rw [if_pos rfl]
theorem block_dyn : blockR most F 2 out s p = dynR most F out s p := by unfold blockR; rw [if_neg (by omega), if_neg (by omega), if_pos rfl]
variable {a b c : Nat}
def dyn3 (most : Int) (F : Nat) (out : List UInt8) (a b : Nat) (small : List Int) : Rd (List UInt8) :=
    rWhen (chk small ≠ 0) (chk small) (rBind (lenG small (a + 257 + (b + 1)) F []) fun ls => tablesR (ls.take (a + 257)) (ls.drop (a + 257)) (symG (ls.take (a + 257)) (ls.drop (a + 257)) most F out))
variable {small ls : List Int} {k : Nat} {ks : List Nat} {q : Nat} {e : Int}
/-- Behind a block's kind. -/
def blkK (most : Int) (F f last kind : Nat) (out : List UInt8) : Rd (List UInt8) := rBind (blockR most F kind out) fun out' => if last ≠ 0 then rPure out' else blkG most F f out'
variable {last kind : Nat} {out' : List UInt8}
end
/-- What Inflate tells: the bytes, how many bytes the stream has, and what is wrong. -/
def inflT (s : ByteArray) (most : Int) : List UInt8 × Nat × Int := match inflS s most with
  | .error e => ([], 0, e)
  | .ok (a, q) => (a, (q + 7) / 8, 0)
theorem inflT_err {s : ByteArray} {most e : Int} (h : inflS s most = .error e) : inflT s most = ([], 0, e) := by unfold inflT; rw [h]
theorem inflT_ok {s : ByteArray} {most : Int} {a : List UInt8} {q : Nat} (h : inflS s most = .ok (a, q)) : inflT s most = (a, (q + 7) / 8, 0) := by unfold inflT; rw [h]
end Go.Proofs.YtghegmbafbpnjaaGreatDoor
set_option linter.unusedVariables false
namespace Go.Proofs.YtghegmbafbpnjaaGreatDoor
set_option maxRecDepth 100000
/-- An error that is told is an error. -/
def Hard {α : Type} (m : Rd α) : Prop := ∀ s p, m s p ≠ .error 0
section
variable {α β : Type}
theorem Hard.pure (a : α) : Hard (rPure a) := fun _ _ h => by cases h
theorem Hard.fail {e : Int} (he : e ≠ 0) : Hard (rFail e : Rd α) := fun _ _ h => by
  unfold rFail at h; injection h with h; exact he h
theorem Hard.bind {m : Rd α} {f : α → Rd β} (hm : Hard m) (hf : ∀ a, Hard (f a)) : Hard (rBind m f) := fun s p h => by
  unfold rBind at h
  cases e : m s p with
  | error x => rw [e] at h; injection h with h; subst h; exact hm s p e
  | ok y => rw [e] at h; exact hf _ _ _ h
theorem Hard.when {c : Prop} [Decidable c] {e : Int} {m : Rd α} (he : c → e ≠ 0) (hm : Hard m) : Hard (rWhen c e m) := by
  unfold rWhen
  split
  · rename_i h; exact Hard.fail (he h)
  · exact hm
theorem Hard.ite {c : Prop} [Decidable c] {m k : Rd α} (hm : Hard m) (hk : Hard k) : Hard (if c then m else k) := by
  split
  · exact hm
  · exact hk
theorem rBits_hard (n : Nat) : Hard (rBits n) := fun s p h => by
  unfold rBits at h
  by_cases h0 : bitsErr s p n = 0
  · rw [if_neg (by simpa using h0)] at h; cases h
  · rw [if_pos h0] at h; injection h with h; exact h0 h
theorem rBytes_hard (n : Nat) : Hard (rBytes n) := fun s p h => by
  unfold rBytes at h
  by_cases h0 : bytesErr s p n = 0
  · rw [if_neg (by simpa using h0)] at h; cases h
  · rw [if_pos h0] at h; injection h with h; exact h0 h
theorem rNext_hard (l : List Int) : Hard (rNext l) := fun s p h => by
  unfold rNext at h
  by_cases h0 : (nextS l s p).2.1 = 0
  · rw [if_neg (by simpa using h0)] at h; cases h
  · rw [if_pos h0] at h; injection h with h; exact h0 h
end
theorem symG_hard (l d : List Int) (most : Int) : ∀ f out, Hard (symG l d most f out)
  | 0, _ => Hard.fail (by decide)
  | f + 1, out => Hard.bind (rNext_hard l) fun t => Hard.ite (Hard.pure _) (Hard.ite (Hard.when (fun _ => by decide) (symG_hard l d most f _)) (Hard.when (fun _ => by decide) (Hard.bind (rBits_hard _) fun x => Hard.bind (rNext_hard d) fun u =>
      Hard.when (fun _ => by decide) (Hard.bind (rBits_hard _) fun y => Hard.when (fun _ => by decide) (Hard.when (fun _ => by decide) (symG_hard l d most f _))))))
theorem lenG_hard (small : List Int) (total : Nat) : ∀ f acc, Hard (lenG small total f acc)
  | 0, _ => Hard.fail (by decide)
  | f + 1, acc => by
    refine Hard.ite (Hard.pure _) (Hard.bind (rNext_hard small) fun t => Hard.ite (lenG_hard small total f _) (Hard.ite (Hard.when (fun _ => by decide) ?_) (Hard.ite ?_ ?_)))
    all_goals exact Hard.bind (rBits_hard _) fun x => Hard.when (fun _ => by decide) (lenG_hard small total f _)
theorem smallG_hard : ∀ (ks : List Nat) (a : List Int), Hard (smallG ks a)
  | [], a => Hard.pure a
  | k :: ks, a => Hard.bind (rBits_hard 3) fun v => smallG_hard ks _
theorem blockR_hard (most : Int) (F kind : Nat) (out : List UInt8) : Hard (blockR most F kind out) := by
  unfold blockR
  refine Hard.ite (Hard.bind (rBytes_hard 2) fun a => Hard.bind (rBytes_hard 2) fun b => Hard.when (fun _ => by decide) (Hard.bind (rBytes_hard _) fun x => Hard.when (fun _ => by decide) (Hard.pure _))) (Hard.ite (Hard.when id (Hard.when id (symG_hard _ _ _ _ _))) (Hard.ite ?_ (Hard.fail (by decide))))
  exact Hard.bind (rBits_hard 5) fun a => Hard.bind (rBits_hard 5) fun b => Hard.bind (rBits_hard 4) fun c => Hard.bind (smallG_hard _ _) fun small =>
    Hard.when id (Hard.bind (lenG_hard _ _ _ _) fun ls => Hard.when id (Hard.when id (symG_hard _ _ _ _ _)))
theorem blkG_hard (most : Int) (F : Nat) : ∀ f out, Hard (blkG most F f out)
  | 0, _ => Hard.fail (by decide)
  | f + 1, out => Hard.bind (rBits_hard 1) fun last => Hard.bind (rBits_hard 2) fun kind => Hard.bind (blockR_hard most F kind out) fun out' => Hard.ite (Hard.pure _) (blkG_hard most F f out')
section
variable {s s' s1 : ByteArray} {most M : Int}
theorem infl_open (s : ByteArray) (most : Int) : (∃ a q, inflS s most = .ok (a, q) ∧ inflT s most = (a, (q + 7) / 8, 0)) ∨ (∃ e, e ≠ 0 ∧ inflS s most = .error e ∧ inflT s most = ([], 0, e)) := by
  cases h : inflS s most with
  | ok y => left; exact ⟨y.1, y.2, rfl, inflT_ok h⟩
  | error e => right; exact ⟨e, fun e0 => blkG_hard most _ _ _ s 0 (by subst e0; exact h), rfl, inflT_err h⟩
theorem inflT_size : (inflT s most).2.1 ≤ s.size ∧ ((inflT s most).1.length : Int) ≤ max most 0 := by
  rcases infl_open s most with ⟨a, q, h, e⟩ | ⟨x, _, _, e⟩
  · rw [e]
    have h1 := infl_within h
    have h2 := infl_most h
    refine ⟨by dsimp only; omega, ?_⟩
    rcases h2 with h2 | h2
    · dsimp only; omega
    · subst h2; simp; omega
  · rw [e]; exact ⟨Nat.zero_le _, by simp; omega⟩
end
end Go.Proofs.YtghegmbafbpnjaaGreatDoor
namespace Go.Proofs.YtghegmbafbpnjaaGreatDoor
set_option maxRecDepth 100000
/-- How many bytes from i on are as those so far before: at most so many more. -/
def runG (l : List UInt8) (i d : Nat) : Nat → Nat → Nat
  | 0, n => n
  | f + 1, n => if i + n < l.length ∧ l.getD (i + n) 0 = l.getD (i + n - d) 0 then runG l i d f (n + 1) else n
def runLen (l : List UInt8) (i d : Nat) : Nat := runG l i d 258 0
theorem runG_le (l : List UInt8) (i d : Nat) : ∀ f n, runG l i d f n ≤ n + f
  | 0, _ => Nat.le_refl _
  | f + 1, n => by
    rw [runG]; split
    · have := runG_le l i d f (n + 1); omega
    · omega
theorem runG_in (l : List UInt8) (i d : Nat) : ∀ f n, i + n ≤ l.length → i + runG l i d f n ≤ l.length
  | 0, _, h => h
  | f + 1, n, h => by
    rw [runG]; split
    · rename_i hc; exact runG_in l i d f (n + 1) (by omega)
    · exact h
theorem runG_same (l : List UInt8) (i d : Nat) : ∀ f n k, n ≤ k → k < runG l i d f n → l.getD (i + k) 0 = l.getD (i + k - d) 0
  | 0, _, _, h1, h2 => by simp only [runG] at h2; omega
  | f + 1, n, k, h1, h2 => by
    rw [runG] at h2
    split at h2
    · rename_i hc
      by_cases e : k = n
      · subst e; exact hc.2
      · exact runG_same l i d f (n + 1) k (by omega) h2
    · omega
theorem runLen_le (l : List UInt8) (i d : Nat) : runLen l i d ≤ 258 := by have := runG_le l i d 258 0; unfold runLen; omega

/-- The longest run, and the smallest distance that has it, of the distances up to D. -/
def bestG (l : List UInt8) (i : Nat) : Nat → Nat × Nat
  | 0 => (0, 0)
  | d + 1 => if (bestG l i d).1 < runLen l i (d + 1) then (runLen l i (d + 1), d + 1) else bestG l i d
def bestAt (l : List UInt8) (i : Nat) : Nat × Nat := bestG l i (min 512 i)
theorem bestG_is (l : List UInt8) (i : Nat) : ∀ D, (bestG l i D = (0, 0)) ∨ (1 ≤ (bestG l i D).2 ∧ (bestG l i D).2 ≤ D ∧ (bestG l i D).1 = runLen l i (bestG l i D).2 ∧ 0 < (bestG l i D).1)
  | 0 => .inl rfl
  | d + 1 => by
    rw [bestG]; split
    · rename_i h; right; exact ⟨by dsimp only; omega, Nat.le_refl _, rfl, by dsimp only; omega⟩
    · rcases bestG_is l i d with h | h
      · exact .inl h
      · right; exact ⟨h.1, by omega, h.2.2⟩
/-- A token: its length, its distance, its byte. -/
abbrev Tk := Nat × Nat × Nat
def toksG (l : List UInt8) : Nat → Nat → List Tk
  | 0, _ => []
  | f + 1, i => if i < l.length then (if 3 ≤ (bestAt l i).1 then ((bestAt l i).1, (bestAt l i).2, 0) :: toksG l f (i + (bestAt l i).1) else (0, 0, (l.getD i 0).toNat) :: toksG l f (i + 1)) else []
def toks (l : List UInt8) : List Tk := toksG l l.length 0
theorem best_match {l : List UInt8} {i : Nat} (hi : i < l.length) (h : 3 ≤ (bestAt l i).1) : 1 ≤ (bestAt l i).2 ∧ (bestAt l i).2 ≤ 512 ∧ (bestAt l i).2 ≤ i ∧ (bestAt l i).1 ≤ 258 ∧ i + (bestAt l i).1 ≤ l.length ∧
    ∀ k, k < (bestAt l i).1 → l.getD (i + k) 0 = l.getD (i + k - (bestAt l i).2) 0 := by
  rcases bestG_is l i (min 512 i) with h1 | ⟨h1, h2, h3, h4⟩
  · have e : bestAt l i = (0, 0) := h1
    rw [e] at h; simp at h
  · refine ⟨h1, by show (bestG l i (min 512 i)).2 ≤ 512; omega, by show (bestG l i (min 512 i)).2 ≤ i; omega, ?_, ?_, ?_⟩
    · show (bestG l i (min 512 i)).1 ≤ 258; rw [h3]; exact runLen_le _ _ _
    · show i + (bestG l i (min 512 i)).1 ≤ l.length; rw [h3]; exact runG_in l i _ 258 0 (by omega)
    · intro k hk
      show l.getD (i + k) 0 = l.getD (i + k - (bestG l i (min 512 i)).2) 0
      exact runG_same l i _ 258 0 k (Nat.zero_le _) (by
        have : k < (bestG l i (min 512 i)).1 := hk
        rw [h3] at this; exact this)
/-- More steps make no difference, where there were enough. -/
theorem toksG_more (l : List UInt8) : ∀ f g i, l.length ≤ i + f → f ≤ g → toksG l g i = toksG l f i
  | 0, 0, _, _, _ => rfl
  | 0, g + 1, i, h, _ => by
    have e : toksG l 0 i = [] := rfl
    rw [e, toksG, if_neg (by omega)]
  | f + 1, g + 1, i, h, hg => by
    rw [toksG, toksG]
    by_cases hi : i < l.length
    · rw [if_pos hi, if_pos hi]
      by_cases hb : 3 ≤ (bestAt l i).1
      · rw [if_pos hb, if_pos hb, toksG_more l f g _ (by omega) (by omega)]
      · rw [if_neg hb, if_neg hb, toksG_more l f g _ (by omega) (by omega)]
    · rw [if_neg hi, if_neg hi]

def tkI (t : Tk) : Int × Int × Int := (t.1, t.2.1, t.2.2)
def spanTk (t : Tk) : Nat := max t.1 1
theorem toks_span (l : List UInt8) : ∀ f i, l.length ≤ i + f → i ≤ l.length → ((toksG l f i).map spanTk).sum = l.length - i
  | 0, i, h, hi => by simp [toksG]; omega
  | f + 1, i, h, hi => by
    rw [toksG]
    by_cases hlt : i < l.length
    · rw [if_pos hlt]
      by_cases hb : 3 ≤ (bestAt l i).1
      · obtain ⟨b1, b2, b3, b4, b5, b6⟩ := best_match hlt hb
        rw [if_pos hb, List.map_cons, List.sum_cons, toks_span l f _ (by omega) b5]
        unfold spanTk; dsimp only; omega
      · rw [if_neg hb, List.map_cons, List.sum_cons, toks_span l f _ (by omega) (by omega)]
        unfold spanTk; dsimp only; omega
    · rw [if_neg hlt]; simp; omega
theorem toks_few (l : List UInt8) : (toks l).length ≤ l.length := by
  have h := toks_span l l.length 0 (by omega) (Nat.zero_le _)
  have : ∀ ts : List Tk, ts.length ≤ (ts.map spanTk).sum := by
    intro ts
    induction ts with
    | nil => exact Nat.le_refl _
    | cons t ts ih => rw [List.map_cons, List.sum_cons, List.length_cons]; unfold spanTk at *; omega
  have := this (toksG l l.length 0)
  unfold toks; omega

end Go.Proofs.YtghegmbafbpnjaaGreatDoor
set_option linter.unusedVariables false
namespace Go.Proofs.YtghegmbafbpnjaaGreatDoor
set_option maxRecDepth 100000
/-- The first number of bits is the beginning of the second one. -/
def Ext (q r : Nat × Nat) : Prop := q.2 ≤ r.2 ∧ r.1 % 2 ^ q.2 = q.1 ∧ r.1 < 2 ^ r.2
theorem Ext.refl {q : Nat × Nat} (h : q.1 < 2 ^ q.2) : Ext q q := ⟨Nat.le_refl _, Nat.mod_eq_of_lt h, h⟩
theorem Ext.trans {a b c : Nat × Nat} (h : Ext a b) (k : Ext b c) : Ext a c :=
  ⟨Nat.le_trans h.1 k.1, by rw [← h.2.1, ← k.2.1, Nat.mod_mod_of_dvd _ (Nat.pow_dvd_pow 2 h.1)], k.2.2⟩
theorem Ext.lt {a b : Nat × Nat} (h : Ext a b) : a.1 < 2 ^ a.2 := by rw [← h.2.1]; exact Nat.mod_lt _ (Nat.two_pow_pos _)
/-- Bits that are laid. -/
def layB (q : Nat × Nat) (v n : Nat) : Nat × Nat := (layX q.1 q.2 v n, layN q.2 n)
theorem layB_eq {q : Nat × Nat} {v n : Nat} (hn : n ≤ 24) (hv : v < 2 ^ n) : layB q v n = (q.1 + v * 2 ^ q.2, q.2 + n) := by
  unfold layB layX layN
  rw [if_neg (by omega), if_neg (by omega), Int.toNat_natCast]
  have e : ((v : Int) % 2 ^ n).toNat = v := by
    have e2 : ((2 : Int) ^ n) = ((2 ^ n : Nat) : Int) := by simp
    rw [e2, Int.emod_eq_of_lt (by omega) (by exact_mod_cast hv), Int.toNat_natCast]
  rw [e]
/-- The code of a symbol, laid. -/
def layC (l : List Int) (q : Nat × Nat) (t : Nat) : Nat × Nat := layS l t q.1 q.2
def lsymG (n : Nat) : Nat → Nat
  | 0 => 257
  | k + 1 => if lenBase (257 + k) ≤ n then 257 + k else lsymG n k
/-- The symbol of a length, of a distance. -/
def lsym (n : Nat) : Nat := lsymG n 29
def dsymG (n : Nat) : Nat → Nat
  | 0 => 0
  | k + 1 => if dstBase k ≤ n then k else dsymG n k
def dsym (n : Nat) : Nat := dsymG n 30
theorem lsym_all : ∀ n, n < 259 → 3 ≤ n → 257 ≤ lsym n ∧ lsym n ≤ 285 ∧ lenBase (lsym n) ≤ n ∧ n - lenBase (lsym n) < 2 ^ lenBits (lsym n) := by decide +kernel
theorem dsym_all : ∀ n, n < 513 → 1 ≤ n → dsym n ≤ 29 ∧ dstBase (dsym n) ≤ n ∧ n - dstBase (dsym n) < 2 ^ dstBits (dsym n) := by decide +kernel
/-- The bits of a token. -/
def layT (l d : List Int) (q : Nat × Nat) (t : Tk) : Nat × Nat := if t.1 = 0 then layC l q t.2.2 else
  layB (layC d (layB (layC l q (lsym t.1)) (t.1 - lenBase (lsym t.1)) (lenBits (lsym t.1))) (dsym t.2.1)) (t.2.1 - dstBase (dsym t.2.1)) (dstBits (dsym t.2.1))
def layTs (l d : List Int) (q : Nat × Nat) (ts : List Tk) : Nat × Nat := ts.foldl (layT l d) q
/-- Has it codes? -/
def tkHas (l d : List Int) (t : Tk) : Prop := if t.1 = 0 then t.2.2 ≤ 255 ∧ has l (t.2.2 : Nat) else 3 ≤ t.1 ∧ t.1 ≤ 258 ∧ 1 ≤ t.2.1 ∧ t.2.1 ≤ 512 ∧ has l (lsym t.1 : Nat) ∧ has d (dsym t.2.1 : Nat)
end Go.Proofs.YtghegmbafbpnjaaGreatDoor
set_option linter.unusedVariables false
namespace Go.Proofs.YtghegmbafbpnjaaGreatDoor
set_option maxRecDepth 100000
/-- How many numbers from i on are the same. -/
def eqRun (l : List Int) (i : Nat) : Nat → Nat → Nat
  | 0, n => n
  | f + 1, n => if i + n < l.length ∧ l.getD (i + n) 0 = l.getD i 0 then eqRun l i f (n + 1) else n
theorem eqRun_ge (l : List Int) (i : Nat) : ∀ f n, n ≤ eqRun l i f n
  | 0, _ => Nat.le_refl _
  | f + 1, n => by
    rw [eqRun]; split
    · have := eqRun_ge l i f (n + 1); omega
    · exact Nat.le_refl _
theorem eqRun_in (l : List Int) (i : Nat) : ∀ f n, i + n ≤ l.length → i + eqRun l i f n ≤ l.length
  | 0, _, h => h
  | f + 1, n, h => by
    rw [eqRun]; split
    · rename_i hc; exact eqRun_in l i f (n + 1) (by omega)
    · exact h
def runN (l : List Int) (i : Nat) : Nat := eqRun l i l.length 1
/-- A run at i: its code, its number, how many lengths it stands for. -/
def runAt (l : List Int) (i : Nat) : Int × Nat × Nat :=
  if l.getD i 0 = 0 ∧ 11 ≤ runN l i then (18, min (runN l i) 138 - 11, min (runN l i) 138) else
  if l.getD i 0 = 0 ∧ 3 ≤ runN l i then (17, runN l i - 3, runN l i) else
  if l.getD i 0 ≠ 0 ∧ 0 < i ∧ l.getD (i - 1) 0 = l.getD i 0 ∧ 3 ≤ runN l i then (16, min (runN l i) 6 - 3, min (runN l i) 6) else (l.getD i 0, 0, 1)
def runsG (l : List Int) : Nat → Nat → List (Int × Nat)
  | 0, _ => []
  | f + 1, i => if i < l.length then ((runAt l i).1, (runAt l i).2.1) :: runsG l f (i + (runAt l i).2.2) else []
def runs (l : List Int) : List (Int × Nat) := runsG l l.length 0
theorem runAt_pos (l : List Int) (i : Nat) : 1 ≤ (runAt l i).2.2 := by
  unfold runAt
  by_cases h1 : l.getD i 0 = 0 ∧ 11 ≤ runN l i
  · rw [if_pos h1]; dsimp only; omega
  · rw [if_neg h1]
    by_cases h2 : l.getD i 0 = 0 ∧ 3 ≤ runN l i
    · rw [if_pos h2]; dsimp only; omega
    · rw [if_neg h2]
      by_cases h3 : l.getD i 0 ≠ 0 ∧ 0 < i ∧ l.getD (i - 1) 0 = l.getD i 0 ∧ 3 ≤ runN l i
      · rw [if_pos h3]; dsimp only; omega
      · rw [if_neg h3]; exact Nat.le_refl _
/-- The bits of a run. -/
def layR (small : List Int) (q : Nat × Nat) (c : Int × Nat) : Nat × Nat :=
  if c.1 = 16 then layB (layC small q 16) c.2 2 else if c.1 = 17 then layB (layC small q 17) c.2 3 else if c.1 = 18 then layB (layC small q 18) c.2 7 else layC small q c.1.toNat
def layRs (small : List Int) (q : Nat × Nat) (cs : List (Int × Nat)) : Nat × Nat := cs.foldl (layR small) q
end Go.Proofs.YtghegmbafbpnjaaGreatDoor
set_option linter.unusedVariables false
namespace Go.Proofs.YtghegmbafbpnjaaGreatDoor
set_option maxRecDepth 100000
def layS3 (small : List Int) (q : Nat × Nat) (ks : List Nat) : Nat × Nat := ks.foldl (fun q k => layB q (small.getD k 0).toNat 3) q
theorem set_getD (l : List Int) (i j : Nat) (x : Int) : (l.set i x).getD j 0 = if i = j ∧ j < l.length then x else l.getD j 0 := by
  rw [List.getD_eq_getElem?_getD, List.getD_eq_getElem?_getD]
  by_cases h : i = j
  · subst h
    by_cases h2 : i < l.length
    · rw [List.getElem?_set_self h2, if_pos ⟨rfl, h2⟩]; rfl
    · rw [if_neg (by omega), List.getElem?_eq_none (by simp; omega), List.getElem?_eq_none (by omega)]
  · rw [List.getElem?_set_ne h, if_neg (by omega)]
/-- The bits of a dynamic block behind its kind: both lists of lengths, the small code's lengths, how many of them, and the tokens. -/
def layD (A B small : List Int) (n : Nat) (ts : List Tk) (q : Nat × Nat) : Nat × Nat :=
  layC A (layTs A B (layRs small (layS3 small (layB (layB (layB q (A.length - 257) 5) (B.length - 1) 5) (n - 4) 4) (ordS.take n)) (runs (A ++ B))) ts) 256
structure DynOk (A B small : List Int) (n : Nat) (ts : List Tk) : Prop where
  a1 : 257 ≤ A.length
  a2 : A.length ≤ 288
  b1 : 1 ≤ B.length
  b2 : B.length ≤ 32
  ca : chk A = 0
  cb : chk B = 0
  cs : chk small = 0
  sl : small.length = 19
  s7 : ∀ k, 0 ≤ small.getD k 0 ∧ small.getD k 0 ≤ 7
  n1 : 4 ≤ n
  n2 : n ≤ 19
  s0 : ∀ j, j < 19 → j ∉ ordS.take n → small.getD j 0 = 0
  ab : ∀ i, 0 ≤ (A ++ B).getD i 0 ∧ (A ++ B).getD i 0 ≤ 15
  rs : ∀ c ∈ runs (A ++ B), has small c.1
  he : has A (256 : Nat)
  tk : ∀ t ∈ ts, tkHas A B t
theorem toks_shape (l : List UInt8) : ∀ f i, ∀ t ∈ toksG l f i, (t.1 = 0 ∧ t.2.2 ≤ 255) ∨ (t.1 ≠ 0 ∧ 3 ≤ t.1 ∧ t.1 ≤ 258 ∧ 1 ≤ t.2.1 ∧ t.2.1 ≤ 512)
  | 0, _, t, h => by simp [toksG] at h
  | f + 1, i, t, h => by
    rw [toksG] at h
    by_cases hlt : i < l.length
    · rw [if_pos hlt] at h
      by_cases hb : 3 ≤ (bestAt l i).1
      · obtain ⟨b1, b2, b3, b4, b5, b6⟩ := best_match hlt hb
        rw [if_pos hb] at h
        rcases List.mem_cons.1 h with rfl | h
        · right; exact ⟨by dsimp only; omega, hb, b4, b1, b2⟩
        · exact toks_shape l f _ t h
      · rw [if_neg hb] at h
        rcases List.mem_cons.1 h with rfl | h
        · left
          have := (l.getD i 0).toNat_lt
          exact ⟨rfl, by dsimp only; omega⟩
        · exact toks_shape l f _ t h
    · rw [if_neg hlt] at h; cases h

theorem fixL_has : ∀ t, t < 288 → fixL.getD t 0 ≠ 0 := by decide +kernel
theorem fixD_has : ∀ t, t < 32 → fixD.getD t 0 ≠ 0 := by decide +kernel
theorem hasL {t : Nat} (h : t < 288) : has fixL (t : Nat) := by
  refine show 0 ≤ (t : Int) ∧ (t : Int) < fixL.length ∧ fixL.getD (t : Int).toNat 0 ≠ 0 from ⟨by omega, ?_, by rw [Int.toNat_natCast]; exact fixL_has t h⟩
  have : fixL.length = 288 := by decide +kernel
  omega
theorem hasD {t : Nat} (h : t < 32) : has fixD (t : Nat) := by
  refine show 0 ≤ (t : Int) ∧ (t : Int) < fixD.length ∧ fixD.getD (t : Int).toNat 0 ≠ 0 from ⟨by omega, ?_, by rw [Int.toNat_natCast]; exact fixD_has t h⟩
  have : fixD.length = 32 := by decide +kernel
  omega
theorem toks_fixed (l : List UInt8) : ∀ t ∈ toks l, tkHas fixL fixD t := fun t ht => by
  unfold tkHas
  rcases toks_shape l _ _ t ht with ⟨h1, h2⟩ | ⟨h0, h1, h2, h3, h4⟩
  · rw [if_pos h1]; exact ⟨h2, hasL (by omega)⟩
  · rw [if_neg h0]
    have a := lsym_all t.1 (by omega) h1
    have b := dsym_all t.2.1 (by omega) h3
    exact ⟨h1, h2, h3, h4, hasL (by omega), hasD (by omega)⟩
/-- The bits of the stream of one fixed block. -/
def fixedX (l : List UInt8) : Nat × Nat := layC fixL (layTs fixL fixD (layB (layB (0, 0) 1 1) 1 2) (toks l)) 256
end Go.Proofs.YtghegmbafbpnjaaGreatDoor
namespace Go.Proofs.YtghegmbafbpnjaaGreatDoor
set_option maxRecDepth 100000
theorem getD_set (l : List Int) (i j : Nat) (x : Int) : (l.set i x).getD j 0 = if i = j ∧ j < l.length then x else l.getD j 0 := by
  rw [List.getD_eq_getElem?_getD, List.getD_eq_getElem?_getD]
  by_cases h : i = j
  · subst h
    by_cases h2 : i < l.length
    · rw [List.getElem?_set_self h2, if_pos ⟨rfl, h2⟩]; rfl
    · rw [if_neg (by omega), List.getElem?_eq_none (by simp; omega), List.getElem?_eq_none (by omega)]
  · rw [List.getElem?_set_ne h, if_neg (by omega)]
theorem nodup_at {cs : List (Nat × Nat)} (hd : (cs.map (·.1)).Nodup) {r q : Nat} (hr : r < cs.length) (hq : q < cs.length) (h : cs[r].1 = cs[q].1) : r = q := by
  have hp := List.pairwise_iff_getElem.1 hd
  apply Classical.byContradiction; intro hne
  rcases Nat.lt_or_gt_of_ne hne with h1 | h1
  · exact hp r q (by simpa using hr) (by simpa using hq) h1 (by simpa using h)
  · exact hp q r (by simpa using hq) (by simpa using hr) h1 (by simpa using h.symm)
theorem bump_at {cs : List (Nat × Nat)} (hd : (cs.map (·.1)).Nodup) {l : List Int} (hlt : ∀ c ∈ cs, c.1 < l.length) {r : Nat} (hr : r < cs.length) : ∀ t, (bump cs t l).getD cs[r].1 0 = l.getD cs[r].1 0 + if r < t then 1 else 0
  | 0 => by simp [bump]
  | t + 1 => by
    have ih := bump_at hd hlt hr t
    by_cases ht : t < cs.length
    · rw [bump_succ cs t l ht, getD_set, length_bump]
      by_cases e : t = r
      · subst e
        rw [if_pos ⟨rfl, hlt _ (List.getElem_mem hr)⟩, ih, if_neg (by omega), if_pos (by omega)]; omega
      · rw [if_neg (fun h => e (nodup_at hd ht hr h.1)), ih]
        by_cases h1 : r < t
        · rw [if_pos h1, if_pos (by omega)]
        · rw [if_neg h1, if_neg (by omega)]
    · have e : bump cs (t + 1) l = bump cs t l := by
        unfold bump; rw [List.take_of_length_le (by omega), List.take_of_length_le (by omega)]
      rw [e, ih, if_pos (by omega), if_pos (by omega)]
theorem bump_off {cs : List (Nat × Nat)} {l : List Int} {s : Nat} (hs : s ∉ cs.map (·.1)) : ∀ t, (bump cs t l).getD s 0 = l.getD s 0
  | 0 => by simp [bump]
  | t + 1 => by
    have ih := bump_off hs t (l := l)
    by_cases ht : t < cs.length
    · rw [bump_succ cs t l ht, getD_set, if_neg, ih]
      rintro ⟨h, _⟩
      exact hs (h ▸ List.mem_map_of_mem (List.getElem_mem ht))
    · have e : bump cs (t + 1) l = bump cs t l := by
        unfold bump; rw [List.take_of_length_le (by omega), List.take_of_length_le (by omega)]
      rw [e, ih]
theorem lFold_at {cs : List (Nat × Nat)} (hd : (cs.map (·.1)).Nodup) {r : Nat} (hr : r < cs.length) : ∀ (ts : List Nat) (l : List Int), (∀ c ∈ cs, c.1 < l.length) → (lFold cs ts l).getD cs[r].1 0 = l.getD cs[r].1 0 + (rl ts r : Nat)
  | [], l, _ => by simp [lFold, rl]
  | t :: ts, l, h => by
    have ih := lFold_at hd hr ts (bump cs t l) (fun c hc => by rw [length_bump]; exact h c hc)
    have e : lFold cs (t :: ts) l = lFold cs ts (bump cs t l) := rfl
    rw [e, ih, bump_at hd h hr, rl]
    split <;> simp <;> omega
theorem lFold_off {cs : List (Nat × Nat)} {s : Nat} (hs : s ∉ cs.map (·.1)) : ∀ (ts : List Nat) (l : List Int), (lFold cs ts l).getD s 0 = l.getD s 0
  | [], l => rfl
  | t :: ts, l => by
    have e : lFold cs (t :: ts) l = lFold cs ts (bump cs t l) := rfl
    rw [e, lFold_off hs ts, bump_off hs]
theorem csOf_nodup (l : List Int) (k : Nat) : ((csOf l k).map (·.1)).Nodup := by
  have h1 : ((coins0 l k).map (·.1)).Nodup := by
    unfold List.Nodup
    rw [List.pairwise_map]
    exact (coins0_asc l k).imp (fun h => by omega)
  exact ((csOf_ok l k).2.map (·.1)).nodup_iff.2 h1
theorem csOf_asc (l : List Int) (k : Nat) : Asc ((csOf l k).map (·.2)) := by
  unfold Asc
  rw [List.pairwise_map]
  exact (csOf_ok l k).1.imp (fun h => by unfold lx at h; omega)
theorem zeros_getD (n s : Nat) : (List.replicate n (0 : Int)).getD s 0 = 0 := by
  rw [List.getD_eq_getElem?_getD]
  by_cases h : s < n
  · rw [List.getElem?_eq_getElem (by simpa using h)]; simp
  · rw [List.getElem?_eq_none (by simpa using h)]; rfl

/-- The length of the coin of this rank. -/
def rk (M : Nat) (l : List Int) (r : Nat) : Nat := if (csOf l l.length).length = 1 then 1 else rl (lensOf ((csOf l l.length).map (·.2)) (M - 1)) r
section
variable {M : Nat} {l : List Int}
theorem lims_rank {r : Nat} (hr : r < (csOf l l.length).length) : (lims M l).getD (csOf l l.length)[r].1 0 = (rk M l r : Nat) := by
  have hlt : ∀ c ∈ csOf l l.length, c.1 < (List.replicate l.length (0 : Int)).length := fun c hc => by rw [List.length_replicate]; exact (mem_csOf.1 hc).1
  unfold rk
  by_cases h1 : (csOf l l.length).length = 1
  · rw [lims_one rfl rfl h1, if_pos h1, getD_set]
    have e : (csOf l l.length).getD 0 (0, 0) = (csOf l l.length)[r] := by
      obtain rfl : r = 0 := by omega
      rw [List.getD_eq_getElem?_getD, List.getElem?_eq_getElem hr]; rfl
    rw [e, if_pos ⟨rfl, hlt _ (List.getElem_mem hr)⟩]; rfl
  · rw [lims_more rfl rfl (by omega), if_neg h1, lFold_at (csOf_nodup l _) hr _ _ hlt, zeros_getD, Int.zero_add]
    unfold lensOf
    rw [List.length_map]
theorem lims_off {s : Nat} (hs : s ∉ (csOf l l.length).map (·.1)) : (lims M l).getD s 0 = 0 := by
  by_cases h0 : (csOf l l.length).length = 0
  · rw [lims_zero rfl rfl h0, zeros_getD]
  · by_cases h1 : (csOf l l.length).length = 1
    · rw [lims_one rfl rfl h1, getD_set, if_neg, zeros_getD]
      rintro ⟨h, _⟩
      refine hs (h ▸ List.mem_map_of_mem ?_)
      rw [List.getD_eq_getElem?_getD, List.getElem?_eq_getElem (by omega)]
      exact List.getElem_mem _
    · rw [lims_more rfl rfl (by omega), lFold_off hs, zeros_getD]
theorem rank_of {i : Nat} (hi : i < l.length) (h : 0 < l.getD i 0) : ∃ r, ∃ hr : r < (csOf l l.length).length, (csOf l l.length)[r] = (i, (l.getD i 0).toNat) := by
  obtain ⟨r, hr, e⟩ := List.getElem_of_mem (mem_csOf.2 (show (i, (l.getD i 0).toNat).1 < l.length ∧ _ from ⟨hi, h, rfl⟩))
  exact ⟨r, hr, e⟩
theorem not_rank {i : Nat} (h : ¬ 0 < l.getD i 0) : i ∉ (csOf l l.length).map (·.1) := by
  intro hm
  obtain ⟨c, hc, rfl⟩ := List.mem_map.1 hm
  exact h (mem_csOf.1 hc).2.1
variable (hM1 : 1 ≤ M) (hp : (csOf l l.length).length ≤ 2 ^ M)
include hM1 hp
theorem rk_range {r : Nat} (hr : r < (csOf l l.length).length) : 1 ≤ rk M l r ∧ rk M l r ≤ M := by
  unfold rk
  by_cases h1 : (csOf l l.length).length = 1
  · rw [if_pos h1]; omega
  · rw [if_neg h1]
    have e : M - 1 + 1 = M := by omega
    have hpos := rl_pos ((csOf l l.length).map (·.2)) (csOf_asc l _) (M - 1) (by rw [e, List.length_map]; exact hp) (by rw [List.length_map]; omega) r (by rw [List.length_map]; exact hr)
    have hmost := rl_most ((csOf l l.length).map (·.2)) (M - 1) r
    omega
theorem lims_at {i : Nat} (hi : i < l.length) (h : 0 < l.getD i 0) : 1 ≤ (lims M l).getD i 0 ∧ (lims M l).getD i 0 ≤ (M : Int) := by
  obtain ⟨r, hr, e⟩ := rank_of hi h
  have h1 := lims_rank (M := M) hr
  rw [e] at h1
  have h2 := rk_range hM1 hp hr
  rw [h1]; omega
omit hM1 hp in
theorem lims_none {i : Nat} (h : ¬ 0 < l.getD i 0) : (lims M l).getD i 0 = 0 := lims_off (not_rank h)
omit hM1 hp in
theorem sum_upTo (L : List Nat) : L.sum = upTo L.length fun r => L.getD r 0 := by
  have := sum_take L L.length (Nat.le_refl _)
  rwa [List.take_length] at this
omit hM1 hp in
/-- A sum over the symbols that occur is one over the coins. -/
theorem sum_coins (l : List Int) (f : Nat → Nat) : ((List.range l.length).map fun i => if 0 < l.getD i 0 then f i else 0).sum = upTo (csOf l l.length).length fun r => f ((csOf l l.length).getD r (0, 0)).1 := by
  have h0 : ∀ k, ((coins0 l k).map fun c => f c.1).sum = ((List.range k).map fun i => if 0 < l.getD i 0 then f i else 0).sum := by
    intro k
    induction k with
    | zero => rfl
    | succ k ih =>
      rw [coins0, List.range_succ, List.map_append, List.sum_append, ← ih]
      split
      · rename_i h
        rw [List.map_append, List.sum_append]
        congr 1
        show f k + 0 = (if 0 < l.getD k 0 then f k else 0) + 0
        rw [if_pos h]
      · rename_i h
        show _ = _ + ((if 0 < l.getD k 0 then f k else 0) + 0)
        rw [if_neg h]; rfl
  rw [← h0, ← ((csOf_ok l l.length).2.map fun c => f c.1).sum_nat, sum_upTo, List.length_map]
  apply upTo_congr
  intro r hr
  rw [List.getD_eq_getElem?_getD, List.getD_eq_getElem?_getD, List.getElem?_map, List.getElem?_eq_getElem hr]; rfl
omit hM1 hp in
theorem sum_lims (g : Int → Nat) (h0 : g 0 = 0) : ((List.range l.length).map fun s => g ((lims M l).getD s 0)).sum = upTo (csOf l l.length).length fun r => g (rk M l r : Nat) := by
  have e : ((List.range l.length).map fun s => g ((lims M l).getD s 0)) = (List.range l.length).map fun i => if 0 < l.getD i 0 then g ((lims M l).getD i 0) else 0 := by
    apply List.map_congr_left
    intro i _
    by_cases h : 0 < l.getD i 0
    · rw [if_pos h]
    · rw [if_neg h, lims_none h, h0]
  rw [e, sum_coins]
  apply upTo_congr
  intro r hr
  have e3 : (csOf l l.length).getD r (0, 0) = (csOf l l.length)[r] := by rw [List.getD_eq_getElem?_getD, List.getElem?_eq_getElem hr]; rfl
  rw [e3, lims_rank hr]
omit hM1 hp in
theorem many_range (L : List Int) : many L = ((List.range L.length).map fun s => if 0 < L.getD s 0 then 1 else 0).sum := by
  have : ((List.range L.length).map fun s => if 0 < L.getD s 0 then 1 else 0) = L.map fun x => if 0 < x then 1 else 0 := by
    apply List.ext_getElem
    · simp
    · intro i h1 h2
      simp only [List.getElem_map, List.getElem_range]
      rw [List.getD_eq_getElem?_getD, List.getElem?_eq_getElem (by simpa using h2)]; rfl
  rw [this]
  unfold many
  induction L with
  | nil => rfl
  | cons x L ih =>
    rw [List.filter_cons, List.map_cons, List.sum_cons, ← ih (by
      apply List.ext_getElem
      · simp
      · intro i h1 h2
        simp only [List.getElem_map, List.getElem_range]
        rw [List.getD_eq_getElem?_getD, List.getElem?_eq_getElem (by simpa using h2)]; rfl)]
    by_cases h : 0 < x
    · rw [if_pos (by simpa using h), if_pos h, List.length_cons]; omega
    · rw [if_neg (by simpa using h), if_neg h]; omega
theorem chk_lims (hM2 : M ≤ 15) (h288 : l.length ≤ 288) : chk (lims M l) = 0 := by
  have hl := length_lims M l
  have hok : okLens (lims M l) = true := by
    unfold okLens
    rw [List.all_eq_true]
    intro x hx
    obtain ⟨i, hi, rfl⟩ := List.getElem_of_mem hx
    have e : (lims M l)[i] = (lims M l).getD i 0 := by rw [List.getD_eq_getElem?_getD, List.getElem?_eq_getElem hi]; rfl
    rw [e]
    unfold okLen
    simp only [decide_eq_true_eq]
    by_cases h : 0 < l.getD i 0
    · have := lims_at hM1 hp (by omega) h; omega
    · rw [lims_none h]; omega
  have hm : many (lims M l) = (csOf l l.length).length := by
    rw [many_range, hl, sum_lims (fun x => if 0 < x then 1 else 0) (by simp)]
    rw [upTo_congr (g := fun _ => 1) (fun r hr => by have := rk_range hM1 hp hr; rw [if_pos (by omega)]), upTo_const, Nat.mul_one]
  have hk : ksum (lims M l) = upTo (csOf l l.length).length fun r => 2 ^ (15 - rk M l r) := by
    rw [← range_sum, hl, sum_lims kr (by simp [kr])]
    apply upTo_congr
    intro r hr
    have := rk_range hM1 hp hr
    unfold kr
    rw [if_pos (by omega), Int.toNat_natCast]
  unfold chk
  rw [if_neg (by omega), hok, if_neg (by simp)]
  by_cases h0 : (csOf l l.length).length = 0
  · rw [hm, hk, h0]; simp [upTo]
  · by_cases h1 : (csOf l l.length).length = 1
    · have e : ksum (lims M l) = 16384 := by
        rw [hk, h1]
        simp only [upTo, Nat.zero_add]
        unfold rk; rw [if_pos h1]
      rw [e, if_neg (by omega), if_neg]
      rw [hm, h1]; simp
    · have e : ksum (lims M l) = 32768 := by
        rw [hk]
        have hf := full_15 ((csOf l l.length).map (·.2)) (csOf_asc l _) (M - 1) (by rw [show M - 1 + 1 = M from by omega, List.length_map]; exact hp) (by rw [List.length_map]; omega) (by omega)
        rw [List.length_map] at hf
        have e2 : ∀ r, rk M l r = rl (lensOf ((csOf l l.length).map (·.2)) (M - 1)) r := fun r => by unfold rk; rw [if_neg h1]
        rw [upTo_congr (g := fun r => 2 ^ (15 - rl (lensOf ((csOf l l.length).map (·.2)) (M - 1)) r)) (fun r _ => by rw [e2]), hf]
      rw [e, if_neg (by omega), if_neg (by omega)]
end
end Go.Proofs.YtghegmbafbpnjaaGreatDoor
