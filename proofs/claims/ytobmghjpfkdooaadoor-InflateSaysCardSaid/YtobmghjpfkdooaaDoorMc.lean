/- Several texts in one, each with its own words ahead: InfM, InfS, InfT, InfU, InfV, InfW. -/
import Derived.Test.YtobmghjpfkdooaaDoorNextW
import Derived.Test.YtobmghjpfkdooaaDoorMa
set_option maxRecDepth 100000
/- What a stream says, as a plain function: reading steps one behind the other; what stands behind makes no difference; bounds. -/
namespace Go.Proofs.YtobmghjpfkdooaaDoor
set_option maxRecDepth 100000

/-- A step that reads: an error, or a value and where reading goes on. -/
abbrev Rd (α : Type) := ByteArray → Nat → Except Int (α × Nat)
def rPure {α : Type} (a : α) : Rd α := fun _ p => .ok (a, p)
def rFail {α : Type} (e : Int) : Rd α := fun _ _ => .error e
def rBind {α β : Type} (m : Rd α) (f : α → Rd β) : Rd β := fun s p => match m s p with
  | .error e => .error e
  | .ok (a, q) => f a s q
def rBits (n : Nat) : Rd Nat := fun s p => if bitsErr s p n ≠ 0 then .error (bitsErr s p n) else .ok (bitsVal s p n, bitsGo s p n)
def rBytes (n : Nat) : Rd ByteArray := fun s p => if bytesErr s p n ≠ 0 then .error (bytesErr s p n) else .ok (bytesVal s p n, bytesGo s p n)
def rNext (l : List Int) : Rd Nat := fun s p => if (nextS l s p).2.1 ≠ 0 then .error (nextS l s p).2.1 else .ok ((nextS l s p).1, (nextS l s p).2.2)
def rWhen {α : Type} (c : Prop) [Decidable c] (e : Int) (m : Rd α) : Rd α := if c then rFail e else m

/-- The one is a beginning of the other. -/
def Pre (s s' : ByteArray) : Prop := s.data.toList <+: s'.data.toList
theorem Pre.size {s s' : ByteArray} (h : Pre s s') : s.size ≤ s'.size := by
  have := h.length_le
  simpa using this
/-- What is met within the bytes that are there is met with more of them. -/
def Stable {α : Type} (m : Rd α) : Prop := ∀ s s' p r, Pre s s' → m s p = r → r ≠ .error 3 → m s' p = r
/-- Reading goes on, and stays within the bytes. -/
def Adv {α : Type} (m : Rd α) : Prop := ∀ s p a q, p ≤ 8 * s.size → m s p = .ok (a, q) → p ≤ q ∧ q ≤ 8 * s.size
section
variable {α β : Type}
theorem Stable.pure (a : α) : Stable (rPure a) := fun _ _ _ _ _ h _ => h
theorem Stable.fail (e : Int) : Stable (rFail e : Rd α) := fun _ _ _ _ _ h _ => h
theorem Stable.bind {m : Rd α} {f : α → Rd β} (hm : Stable m) (hf : ∀ a, Stable (f a)) : Stable (rBind m f) := by
  intro s s' p r hp h hr
  unfold rBind at h ⊢
  cases e : m s p with
  | error x =>
    rw [e] at h
    rw [hm s s' p _ hp e (fun h2 => by injection h2 with h2; subst h2; exact hr h.symm)]
    exact h
  | ok y =>
    rw [e] at h
    rw [hm s s' p _ hp e (by simp)]
    exact hf y.1 s s' y.2 r hp h hr
theorem Stable.when {c : Prop} [Decidable c] {e : Int} {m : Rd α} (hm : Stable m) : Stable (rWhen c e m) := by
  unfold rWhen; split
  · exact Stable.fail e
  · exact hm
theorem Adv.pure (a : α) : Adv (rPure a) := fun _ _ _ _ hp h => by
  unfold rPure at h; injection h with h; injection h with h1 h2; omega
theorem Adv.fail (e : Int) : Adv (rFail e : Rd α) := fun _ _ _ _ _ h => by unfold rFail at h; cases h
theorem Adv.bind {m : Rd α} {f : α → Rd β} (hm : Adv m) (hf : ∀ a, Adv (f a)) : Adv (rBind m f) := by
  intro s p a q hp h
  unfold rBind at h
  cases e : m s p with
  | error x => rw [e] at h; cases h
  | ok y =>
    rw [e] at h
    obtain ⟨h1, h2⟩ := hm s p y.1 y.2 hp e
    obtain ⟨h3, h4⟩ := hf y.1 s y.2 a q h2 h
    exact ⟨by omega, h4⟩
theorem Adv.when {c : Prop} [Decidable c] {e : Int} {m : Rd α} (hm : Adv m) : Adv (rWhen c e m) := by
  unfold rWhen; split
  · exact Adv.fail e
  · exact hm
end
theorem num_pre {s s' : ByteArray} (h : Pre s s') : ∃ k, num s'.data.toList = num s.data.toList + 256 ^ s.size * k := by
  obtain ⟨t, ht⟩ := h
  exact ⟨num t, by rw [← ht, num_append]; rfl⟩
theorem bits_pre {s s' : ByteArray} (h : Pre s s') {p : Nat} {n : Int} (he : bitsErr s p n ≠ 3) : bitsErr s' p n = bitsErr s p n ∧ bitsVal s' p n = bitsVal s p n ∧ bitsGo s' p n = bitsGo s p n := by
  have hs := h.size
  have he2 : bitsErr s' p n = bitsErr s p n := by
    unfold bitsErr at he ⊢
    by_cases h1 : n < 0 ∨ 24 < n
    · rw [if_pos h1, if_pos h1]
    · rw [if_neg h1] at he ⊢
      rw [if_neg h1]
      by_cases h2 : (8 * s.size - p : Nat) < n
      · rw [if_pos h2] at he; exact absurd rfl he
      · rw [if_neg h2, if_neg (by omega)]
  refine ⟨he2, ?_, by unfold bitsGo; rw [he2]⟩
  unfold bitsVal
  rw [he2]
  by_cases h0 : bitsErr s p n = 0
  · rw [if_pos h0, if_pos h0]
    by_cases hn0 : n.toNat = 0
    · rw [hn0, bitsAt_zero, bitsAt_zero]
    · have hb : p + n.toNat ≤ 8 * s.size := by
        unfold bitsErr at h0
        by_cases h1 : n < 0 ∨ 24 < n
        · rw [if_pos h1] at h0; omega
        · rw [if_neg h1] at h0
          by_cases h2 : (8 * s.size - p : Nat) < n
          · rw [if_pos h2] at h0; omega
          · omega
      obtain ⟨k, hk⟩ := num_pre h
      rw [hk, p256, ← bitsAt_mod _ p n.toNat _ hb, Nat.add_mul_mod_self_left, bitsAt_mod _ p n.toNat _ hb]
  · rw [if_neg h0, if_neg h0]
theorem bytes_pre {s s' : ByteArray} (h : Pre s s') {p : Nat} {n : Int} (he : bytesErr s p n ≠ 3) : bytesErr s' p n = bytesErr s p n ∧ bytesVal s' p n = bytesVal s p n ∧ bytesGo s' p n = bytesGo s p n := by
  have hs := h.size
  have he2 : bytesErr s' p n = bytesErr s p n := by
    unfold bytesErr at he ⊢
    by_cases h1 : n < 0
    · rw [if_pos h1, if_pos h1]
    · rw [if_neg h1] at he ⊢
      rw [if_neg h1]
      by_cases h2 : (s.size - (p + 7) / 8 : Nat) < n
      · rw [if_pos h2] at he; exact absurd rfl he
      · rw [if_neg h2, if_neg (by omega)]
  refine ⟨he2, ?_, by unfold bytesGo; rw [he2]⟩
  unfold bytesVal
  rw [he2]
  by_cases h0 : bytesErr s p n = 0
  · rw [if_pos h0, if_pos h0]
    have hb : n.toNat ≤ s.size - (p + 7) / 8 := by
      unfold bytesErr at h0
      by_cases h1 : n < 0
      · rw [if_pos h1] at h0; omega
      · rw [if_neg h1] at h0
        by_cases h2 : (s.size - (p + 7) / 8 : Nat) < n
        · rw [if_pos h2] at h0; omega
        · omega
    obtain ⟨t, ht⟩ := h
    have hz : s.data.toList.length = s.size := Array.length_toList
    congr 2
    rw [← ht]
    by_cases hp : (p + 7) / 8 ≤ s.size
    · rw [List.drop_append_of_le_length (by omega), List.take_append_of_le_length (by rw [List.length_drop]; omega)]
    · have : n.toNat = 0 := by omega
      rw [this, List.take_zero, List.take_zero]
  · rw [if_neg h0, if_neg h0]
theorem rBits_stable (n : Nat) : Stable (rBits n) := by
  intro s s' p r hp h hr
  unfold rBits at h ⊢
  by_cases he : bitsErr s p n = 3
  · rw [if_pos (by rw [he]; decide), he] at h; exact absurd h.symm hr
  · obtain ⟨h1, h2, h3⟩ := bits_pre hp he
    rw [h1, h2, h3]; exact h
theorem rBytes_stable (n : Nat) : Stable (rBytes n) := by
  intro s s' p r hp h hr
  unfold rBytes at h ⊢
  by_cases he : bytesErr s p n = 3
  · rw [if_pos (by rw [he]; decide), he] at h; exact absurd h.symm hr
  · obtain ⟨h1, h2, h3⟩ := bytes_pre hp he
    rw [h1, h2, h3]; exact h
theorem nextG_pre {s s' : ByteArray} (hp : Pre s s') (l : List Int) : ∀ f n c p, (nextG l s f n c p).2.1 ≠ 3 → nextG l s' f n c p = nextG l s f n c p
  | 0, _, _, _, _ => rfl
  | f + 1, n, c, p, h => by
    rw [nextG_succ] at h ⊢
    rw [nextG_succ]
    by_cases he : bitsErr s p 1 = 3
    · rw [if_pos (by rw [he]; decide), he] at h; exact absurd rfl h
    · obtain ⟨h1, h2, h3⟩ := bits_pre hp he
      rw [h1, h2, h3]
      by_cases h0 : bitsErr s p 1 ≠ 0
      · rw [if_pos h0, if_pos h0]
      · rw [if_neg h0] at h ⊢
        rw [if_neg h0]
        cases e : findS l n (2 * c + bitsVal s p 1) with
        | some i => rfl
        | none =>
          rw [e] at h
          exact nextG_pre hp l f (n + 1) _ _ h
theorem rNext_stable (l : List Int) : Stable (rNext l) := by
  intro s s' p r hp h hr
  unfold rNext at h ⊢
  by_cases he : (nextS l s p).2.1 = 3
  · rw [if_pos (by rw [he]; decide), he] at h; exact absurd h.symm hr
  · have e : nextS l s' p = nextS l s p := nextG_pre hp l _ _ _ _ he
    rw [e]; exact h
theorem bits_adv {s : ByteArray} {p : Nat} {n : Int} (hp : p ≤ 8 * s.size) (h0 : bitsErr s p n = 0) : p ≤ bitsGo s p n ∧ bitsGo s p n ≤ 8 * s.size ∧ bitsGo s p n = p + n.toNat := by
  unfold bitsGo
  rw [if_pos h0]
  unfold bitsErr at h0
  by_cases h1 : n < 0 ∨ 24 < n
  · rw [if_pos h1] at h0; omega
  · rw [if_neg h1] at h0
    by_cases h2 : (8 * s.size - p : Nat) < n
    · rw [if_pos h2] at h0; omega
    · omega
theorem rBits_adv (n : Nat) : Adv (rBits n) := by
  intro s p a q hp h
  unfold rBits at h
  by_cases h0 : bitsErr s p n = 0
  · rw [if_neg (by simpa using h0)] at h
    injection h with h; injection h with h1 h2
    subst h2
    have := bits_adv hp h0
    exact ⟨this.1, this.2.1⟩
  · rw [if_pos h0] at h; cases h
theorem rBytes_adv (n : Nat) : Adv (rBytes n) := by
  intro s p a q hp h
  unfold rBytes at h
  by_cases h0 : bytesErr s p n = 0
  · rw [if_neg (by simpa using h0)] at h
    injection h with h; injection h with h1 h2
    subst h2
    unfold bytesGo
    rw [if_neg (by omega), if_pos h0]
    unfold bytesErr at h0
    rw [if_neg (by omega)] at h0
    by_cases h2 : (s.size - (p + 7) / 8 : Nat) < (n : Int)
    · rw [if_pos h2] at h0; omega
    · omega
  · rw [if_pos h0] at h; cases h
theorem nextG_adv {s : ByteArray} (l : List Int) : ∀ f n c p, p ≤ 8 * s.size → (nextG l s f n c p).2.1 = 0 → p < (nextG l s f n c p).2.2 ∧ (nextG l s f n c p).2.2 ≤ 8 * s.size
  | 0, _, _, _, _, h => by rw [nextG_zero] at h; simp at h
  | f + 1, n, c, p, hp, h => by
    rw [nextG_succ] at h ⊢
    by_cases h0 : bitsErr s p 1 = 0
    · rw [if_neg (by simpa using h0)] at h ⊢
      obtain ⟨h1, h2, h3⟩ := bits_adv hp h0
      have h4 : bitsGo s p 1 = p + 1 := h3
      cases e : findS l n (2 * c + bitsVal s p 1) with
      | some i => exact ⟨by show p < bitsGo s p 1; omega, h2⟩
      | none =>
        rw [e] at h
        have := nextG_adv l f (n + 1) _ _ h2 h
        exact ⟨by have h5 := this.1; show p < (nextG l s f (n + 1) _ (bitsGo s p 1)).2.2; omega, this.2⟩
    · rw [if_pos h0] at h; exact absurd h h0
theorem rNext_adv' (l : List Int) {s : ByteArray} {p a q : Nat} (hp : p ≤ 8 * s.size) (h : rNext l s p = .ok (a, q)) : p < q ∧ q ≤ 8 * s.size := by
  unfold rNext at h
  by_cases h0 : (nextS l s p).2.1 = 0
  · rw [if_neg (by simpa using h0)] at h
    injection h with h; injection h with h1 h2
    subst h2
    exact nextG_adv l _ _ _ _ hp h0
  · rw [if_pos h0] at h; cases h
theorem rNext_adv (l : List Int) : Adv (rNext l) := fun s p a q hp h => by
  have := rNext_adv' l hp h; omega
end Go.Proofs.YtobmghjpfkdooaaDoor
/- What a stream says: the plain function, and its plain laws: what stands behind, streams that are cut off, bounds. -/
set_option linter.unusedVariables false
namespace Go.Proofs.YtobmghjpfkdooaaDoor

def lenBits (t : Nat) : Nat := if t < 265 ∨ t = 285 then 0 else (t - 261) / 4
def lenBase (t : Nat) : Nat := if t = 285 then 258 else 3 + ((List.range (t - 257)).map fun k => 2 ^ lenBits (257 + k)).sum
def dstBits (t : Nat) : Nat := if t < 4 then 0 else t / 2 - 1
def dstBase (t : Nat) : Nat := 1 + ((List.range t).map fun k => 2 ^ dstBits k).sum
/-- A match: byte by byte. -/
def matchOut (far : Nat) : Nat → List UInt8 → List UInt8
  | 0, out => out
  | n + 1, out => matchOut far n (out ++ [out.getD (out.length - far) 0])
theorem length_matchOut (far : Nat) : ∀ n out, (matchOut far n out).length = out.length + n
  | 0, _ => rfl
  | n + 1, out => by rw [matchOut, length_matchOut far n]; simp; omega
def wordOf (a : ByteArray) : Nat := (a.data.toList.getD 0 0).toNat + 256 * (a.data.toList.getD 1 0).toNat
def storedR (most : Int) (out : List UInt8) : Rd (List UInt8) :=
  rBind (rBytes 2) fun a => rBind (rBytes 2) fun b => rWhen (wordOf b ≠ 65535 - wordOf a) 14 (rBind (rBytes (wordOf a)) fun x =>
    rWhen (most < (out.length : Int) + (wordOf a : Nat)) 5 (rPure (out ++ x.data.toList)))
/-- A block of symbols. -/
def symG (l d : List Int) (most : Int) : Nat → List UInt8 → Rd (List UInt8)
  | 0, _ => rFail 3
  | f + 1, out => rBind (rNext l) fun t =>
    if t = 256 then rPure out else
    if t < 256 then rWhen (most < (out.length : Int) + 1) 5 (symG l d most f (out ++ [UInt8.ofNat t])) else
    rWhen (285 < t) 12 (rBind (rBits (lenBits t)) fun x => rBind (rNext d) fun u => rWhen (29 < u) 12 (rBind (rBits (dstBits u)) fun y =>
      rWhen (out.length < dstBase u + y) 15 (rWhen (most < (out.length : Int) + ((lenBase t + x : Nat) : Int)) 5 (symG l d most f (matchOut (dstBase u + y) (lenBase t + x) out)))))
def tablesR {α : Type} (l d : List Int) (m : Rd α) : Rd α := rWhen (chk l ≠ 0) (chk l) (rWhen (chk d ≠ 0) (chk d) m)
def fixL : List Int := List.replicate 144 8 ++ List.replicate 112 9 ++ List.replicate 24 7 ++ List.replicate 8 8
def fixD : List Int := List.replicate 32 5
def ordS : List Nat := [16, 17, 18, 0, 8, 7, 9, 6, 10, 5, 11, 4, 12, 3, 13, 2, 14, 1, 15]
def smallG : List Nat → List Int → Rd (List Int)
  | [], a => rPure a
  | k :: ks, a => rBind (rBits 3) fun v => smallG ks (a.set k (v : Nat))
/-- The lengths that are told in the small code. -/
def lenG (small : List Int) (total : Nat) : Nat → List Int → Rd (List Int)
  | 0, _ => rFail 3
  | f + 1, acc => if total ≤ acc.length then rPure acc else rBind (rNext small) fun t =>
    if t < 16 then lenG small total f (acc ++ [(t : Int)]) else
    if t = 16 then rWhen (acc.length = 0) 12 (rBind (rBits 2) fun x => rWhen (total < acc.length + (3 + x)) 12 (lenG small total f (acc ++ List.replicate (3 + x) (acc.getD (acc.length - 1) 0)))) else
    if t = 17 then rBind (rBits 3) fun x => rWhen (total < acc.length + (3 + x)) 12 (lenG small total f (acc ++ List.replicate (3 + x) 0)) else
    rBind (rBits 7) fun x => rWhen (total < acc.length + (11 + x)) 12 (lenG small total f (acc ++ List.replicate (11 + x) 0))
def dynR (most : Int) (F : Nat) (out : List UInt8) : Rd (List UInt8) :=
  rBind (rBits 5) fun a => rBind (rBits 5) fun b => rBind (rBits 4) fun c => rBind (smallG (ordS.take (c + 4)) (List.replicate 19 0)) fun small =>
    rWhen (chk small ≠ 0) (chk small) (rBind (lenG small (a + 257 + (b + 1)) F []) fun ls =>
      tablesR (ls.take (a + 257)) (ls.drop (a + 257)) (symG (ls.take (a + 257)) (ls.drop (a + 257)) most F out))
def blockR (most : Int) (F kind : Nat) (out : List UInt8) : Rd (List UInt8) :=
  if kind = 0 then storedR most out else if kind = 1 then tablesR fixL fixD (symG fixL fixD most F out) else if kind = 2 then dynR most F out else rFail 13
/-- Blocks up to the last one. -/
def blkG (most : Int) (F : Nat) : Nat → List UInt8 → Rd (List UInt8)
  | 0, _ => rFail 3
  | f + 1, out => rBind (rBits 1) fun last => rBind (rBits 2) fun kind => rBind (blockR most F kind out) fun out' => if last ≠ 0 then rPure out' else blkG most F f out'
def inflS (s : ByteArray) (most : Int) : Except Int (List UInt8 × Nat) := blkG most (8 * s.size + 1) (8 * s.size + 1) [] s 0

/-! What stands behind. -/
def Under {α : Type} (m m' : Rd α) : Prop := ∀ s s' p r, Pre s s' → m s p = r → r ≠ .error 3 → m' s' p = r
section
variable {α β : Type}
theorem Stable.under {m : Rd α} (h : Stable m) : Under m m := h
theorem Under.none (m : Rd α) : Under (rFail 3) m := fun _ _ _ _ _ h hr => absurd h.symm hr
theorem Under.bind {m m' : Rd α} {f f' : α → Rd β} (hm : Under m m') (hf : ∀ a, Under (f a) (f' a)) : Under (rBind m f) (rBind m' f') := by
  intro s s' p r hp h hr
  unfold rBind at h ⊢
  cases e : m s p with
  | error x =>
    rw [e] at h
    rw [hm s s' p _ hp e (fun h2 => by injection h2 with h2; subst h2; exact hr h.symm)]
    exact h
  | ok y =>
    rw [e] at h
    rw [hm s s' p _ hp e (by simp)]
    exact hf y.1 s s' y.2 r hp h hr
theorem Under.when {c : Prop} [Decidable c] {e : Int} {m m' : Rd α} (hm : Under m m') : Under (rWhen c e m) (rWhen c e m') := by
  unfold rWhen; split
  · exact Stable.fail e
  · exact hm
theorem Under.ite {c : Prop} [Decidable c] {m m' k k' : Rd α} (hm : Under m m') (hk : Under k k') : Under (if c then m else k) (if c then m' else k') := by
  split
  · exact hm
  · exact hk
end
theorem symG_under (l d : List Int) (most : Int) : ∀ f f' out, f ≤ f' → Under (symG l d most f out) (symG l d most f' out)
  | 0, _, _, _ => Under.none _
  | f + 1, f' + 1, out, h => by
    refine Under.bind (rNext_stable l).under fun t => Under.ite (Stable.pure _) (Under.ite (Under.when (symG_under l d most f f' _ (by omega))) (Under.when ?_))
    exact Under.bind (rBits_stable _).under fun x => Under.bind (rNext_stable d).under fun u => Under.when (Under.bind (rBits_stable _).under fun y => Under.when (Under.when (symG_under l d most f f' _ (by omega))))
theorem lenG_under (small : List Int) (total : Nat) : ∀ f f' acc, f ≤ f' → Under (lenG small total f acc) (lenG small total f' acc)
  | 0, _, _, _ => Under.none _
  | f + 1, f' + 1, acc, h => by
    refine Under.ite (Stable.pure _) (Under.bind (rNext_stable small).under fun t => Under.ite (lenG_under small total f f' _ (by omega)) (Under.ite (Under.when ?_) (Under.ite ?_ ?_)))
    all_goals exact Under.bind (rBits_stable _).under fun x => Under.when (lenG_under small total f f' _ (by omega))
theorem smallG_stable : ∀ (ks : List Nat) (a : List Int), Stable (smallG ks a)
  | [], a => Stable.pure a
  | k :: ks, a => Stable.bind (rBits_stable 3) fun v => smallG_stable ks _
theorem storedR_stable (most : Int) (out : List UInt8) : Stable (storedR most out) :=
  Stable.bind (rBytes_stable 2) fun a => Stable.bind (rBytes_stable 2) fun b => Stable.when (Stable.bind (rBytes_stable _) fun x => Stable.when (Stable.pure _))
theorem blockR_under (most : Int) {F F' : Nat} (h : F ≤ F') (kind : Nat) (out : List UInt8) : Under (blockR most F kind out) (blockR most F' kind out) := by
  unfold blockR
  refine Under.ite (storedR_stable most out).under (Under.ite (Under.when (Under.when (symG_under _ _ _ _ _ _ h))) (Under.ite ?_ (Stable.fail 13)))
  exact Under.bind (rBits_stable 5).under fun a => Under.bind (rBits_stable 5).under fun b => Under.bind (rBits_stable 4).under fun c => Under.bind (smallG_stable _ _).under fun small =>
    Under.when (Under.bind (lenG_under _ _ _ _ _ h) fun ls => Under.when (Under.when (symG_under _ _ _ _ _ _ h)))
theorem blkG_under (most : Int) {F F' : Nat} (hF : F ≤ F') : ∀ f f' out, f ≤ f' → Under (blkG most F f out) (blkG most F' f' out)
  | 0, _, _, _ => Under.none _
  | f + 1, f' + 1, out, h =>
    Under.bind (rBits_stable 1).under fun last => Under.bind (rBits_stable 2).under fun kind => Under.bind (blockR_under most hF kind out) fun out' => Under.ite (Stable.pure _) (blkG_under most hF f f' out' (by omega))
/-- What stands behind a stream makes no difference. -/
theorem infl_front {s s' : ByteArray} (h : Pre s s') (most : Int) (he : inflS s most ≠ .error 3) : inflS s' most = inflS s most :=
  blkG_under most (by have := h.size; omega) _ _ _ (by have := h.size; omega) s s' 0 _ h rfl he

/-! Reading stays within the bytes. -/
theorem Adv.ite {α : Type} {c : Prop} [Decidable c] {m k : Rd α} (hm : Adv m) (hk : Adv k) : Adv (if c then m else k) := by
  split
  · exact hm
  · exact hk
theorem symG_adv (l d : List Int) (most : Int) : ∀ f out, Adv (symG l d most f out)
  | 0, _ => Adv.fail 3
  | f + 1, out => Adv.bind (rNext_adv l) fun t => Adv.ite (Adv.pure _) (Adv.ite (Adv.when (symG_adv l d most f _)) (Adv.when (Adv.bind (rBits_adv _) fun x => Adv.bind (rNext_adv d) fun u =>
      Adv.when (Adv.bind (rBits_adv _) fun y => Adv.when (Adv.when (symG_adv l d most f _))))))
theorem lenG_adv (small : List Int) (total : Nat) : ∀ f acc, Adv (lenG small total f acc)
  | 0, _ => Adv.fail 3
  | f + 1, acc => by
    refine Adv.ite (Adv.pure _) (Adv.bind (rNext_adv small) fun t => Adv.ite (lenG_adv small total f _) (Adv.ite (Adv.when ?_) (Adv.ite ?_ ?_)))
    all_goals exact Adv.bind (rBits_adv _) fun x => Adv.when (lenG_adv small total f _)
theorem smallG_adv : ∀ (ks : List Nat) (a : List Int), Adv (smallG ks a)
  | [], a => Adv.pure a
  | k :: ks, a => Adv.bind (rBits_adv 3) fun v => smallG_adv ks _
theorem blockR_adv (most : Int) (F kind : Nat) (out : List UInt8) : Adv (blockR most F kind out) := by
  unfold blockR
  refine Adv.ite (Adv.bind (rBytes_adv 2) fun a => Adv.bind (rBytes_adv 2) fun b => Adv.when (Adv.bind (rBytes_adv _) fun x => Adv.when (Adv.pure _))) (Adv.ite (Adv.when (Adv.when (symG_adv _ _ _ _ _))) (Adv.ite ?_ (Adv.fail 13)))
  exact Adv.bind (rBits_adv 5) fun a => Adv.bind (rBits_adv 5) fun b => Adv.bind (rBits_adv 4) fun c => Adv.bind (smallG_adv _ _) fun small =>
    Adv.when (Adv.bind (lenG_adv _ _ _ _) fun ls => Adv.when (Adv.when (symG_adv _ _ _ _ _)))
theorem blkG_adv (most : Int) (F : Nat) : ∀ f out, Adv (blkG most F f out)
  | 0, _ => Adv.fail 3
  | f + 1, out => Adv.bind (rBits_adv 1) fun last => Adv.bind (rBits_adv 2) fun kind => Adv.bind (blockR_adv most F kind out) fun out' => Adv.ite (Adv.pure _) (blkG_adv most F f out')
theorem infl_within {s : ByteArray} {most : Int} {a : List UInt8} {q : Nat} (h : inflS s most = .ok (a, q)) : q ≤ 8 * s.size := (blkG_adv most _ _ _ s 0 a q (Nat.zero_le _) h).2
/-- A stream that is cut off is told to end too early. -/
theorem infl_cut {s s1 : ByteArray} {most : Int} {a : List UInt8} {q : Nat} (h : inflS s most = .ok (a, q)) (hp : Pre s1 s) (hk : s1.size < (q + 7) / 8) : inflS s1 most = .error 3 := by
  apply Classical.byContradiction; intro hc
  have := infl_front hp most hc
  rw [h] at this
  have := infl_within this.symm
  omega

/-! Bounds. -/
def Grow (most : Int) (out : List UInt8) (m : Rd (List UInt8)) : Prop := ∀ s p a q, m s p = .ok (a, q) → out.length ≤ a.length ∧ ((a.length : Int) ≤ most ∨ a = out)
/-- With a lower bound: the same, or too great. -/
def Cmp (most : Int) (out : List UInt8) (m m' : Rd (List UInt8)) : Prop := ∀ s p a q, m s p = .ok (a, q) → (m' s p = .ok (a, q) ∧ ((a.length : Int) ≤ most ∨ a = out)) ∨ (m' s p = .error 5 ∧ most < (a.length : Int))
section
variable {α : Type} {most : Int} {out : List UInt8}
theorem ok_bind {β : Type} {m : Rd α} {f : α → Rd β} {s : ByteArray} {p : Nat} {r : β × Nat} (h : rBind m f s p = .ok r) : ∃ y, m s p = .ok y ∧ f y.1 s y.2 = .ok r := by
  unfold rBind at h
  cases e : m s p with
  | error x => rw [e] at h; cases h
  | ok y => rw [e] at h; exact ⟨y, rfl, h⟩
theorem ok_when {c : Prop} [Decidable c] {e : Int} {m : Rd α} {s : ByteArray} {p : Nat} {r : α × Nat} (h : rWhen c e m s p = .ok r) : ¬ c ∧ m s p = .ok r := by
  unfold rWhen at h
  by_cases hc : c
  · rw [if_pos hc] at h; cases h
  · rw [if_neg hc] at h; exact ⟨hc, h⟩
theorem bind_ok {β : Type} {m : Rd α} {f : α → Rd β} {s : ByteArray} {p : Nat} {y : α × Nat} (h : m s p = .ok y) : rBind m f s p = f y.1 s y.2 := by unfold rBind; rw [h]
theorem when_not {c : Prop} [Decidable c] {e : Int} {m : Rd α} {s : ByteArray} {p : Nat} (h : ¬ c) : rWhen c e m s p = m s p := by unfold rWhen; rw [if_neg h]
theorem when_yes {c : Prop} [Decidable c] {e : Int} {m : Rd α} {s : ByteArray} {p : Nat} (h : c) : rWhen c e m s p = .error e := by unfold rWhen; rw [if_pos h]; rfl
theorem Grow.bind {m : Rd α} {f : α → Rd (List UInt8)} (hf : ∀ a, Grow most out (f a)) : Grow most out (rBind m f) := fun s p a q h => by
  obtain ⟨y, _, h2⟩ := ok_bind h
  exact hf _ _ _ _ _ h2
theorem Grow.when {c : Prop} [Decidable c] {e : Int} {m : Rd (List UInt8)} (hm : ¬ c → Grow most out m) : Grow most out (rWhen c e m) := fun s p a q h => by
  obtain ⟨hc, h2⟩ := ok_when h
  exact hm hc _ _ _ _ h2
theorem Grow.ite {c : Prop} [Decidable c] {m k : Rd (List UInt8)} (hm : Grow most out m) (hk : Grow most out k) : Grow most out (if c then m else k) := by
  split
  · exact hm
  · exact hk
theorem Grow.fail (e : Int) : Grow most out (rFail e) := fun s p a q h => by cases h
theorem Grow.pure : Grow most out (rPure out) := fun s p a q h => by
  unfold rPure at h; injection h with h; injection h with h1 h2
  subst h1; exact ⟨Nat.le_refl _, .inr rfl⟩
theorem Grow.step {out' : List UInt8} {m : Rd (List UInt8)} (hl : out.length ≤ out'.length) (hm : (out'.length : Int) ≤ most) (h : Grow most out' m) : Grow most out m := fun s p a q e => by
  obtain ⟨h1, h2⟩ := h s p a q e
  refine ⟨by omega, ?_⟩
  rcases h2 with h2 | h2
  · exact .inl h2
  · subst h2; exact .inl hm
theorem Cmp.bind {m : Rd α} {f f' : α → Rd (List UInt8)} (hf : ∀ a, Cmp most out (f a) (f' a)) : Cmp most out (rBind m f) (rBind m f') := fun s p a q h => by
  obtain ⟨y, h1, h2⟩ := ok_bind h
  rw [bind_ok h1]
  exact hf _ _ _ _ _ h2
theorem Cmp.when {c : Prop} [Decidable c] {e : Int} {m m' : Rd (List UInt8)} (hm : Cmp most out m m') : Cmp most out (rWhen c e m) (rWhen c e m') := fun s p a q h => by
  obtain ⟨hc, h2⟩ := ok_when h
  rw [when_not hc]
  exact hm _ _ _ _ h2
theorem Cmp.ite {c : Prop} [Decidable c] {m m' k k' : Rd (List UInt8)} (hm : Cmp most out m m') (hk : Cmp most out k k') : Cmp most out (if c then m else k) (if c then m' else k') := by
  split
  · exact hm
  · exact hk
theorem Cmp.fail (e : Int) (m' : Rd (List UInt8)) : Cmp most out (rFail e) m' := fun s p a q h => by cases h
theorem Cmp.pure : Cmp most out (rPure out) (rPure out) := fun s p a q h => by
  have h' := h
  unfold rPure at h; injection h with h; injection h with h1 h2
  subst h1; exact .inl ⟨h', .inr rfl⟩
/-- Where the bound is asked. -/
theorem Cmp.guard {out' : List UInt8} {k M : Int} {m m' : Rd (List UInt8)} (hl : (out'.length : Int) = k) (hg : Grow M out' m) (h : Cmp most out' m m') : Cmp most out (rWhen (M < k) 5 m) (rWhen (most < k) 5 m') := fun s p a q e => by
  obtain ⟨hc, h2⟩ := ok_when e
  by_cases hm : most < k
  · rw [when_yes hm]
    have := (hg _ _ _ _ h2).1
    exact .inr ⟨rfl, by omega⟩
  · rw [when_not hm]
    rcases h _ _ _ _ h2 with ⟨h3, h4⟩ | h3
    · refine .inl ⟨h3, ?_⟩
      rcases h4 with h4 | h4
      · exact .inl h4
      · subst h4; exact .inl (by omega)
    · exact .inr h3
end
theorem symG_grow (l d : List Int) (most : Int) : ∀ f out, Grow most out (symG l d most f out)
  | 0, _ => Grow.fail 3
  | f + 1, out => by
    refine Grow.bind fun t => Grow.ite Grow.pure (Grow.ite (Grow.when fun hc => ?_) (Grow.when fun _ => Grow.bind fun x => Grow.bind fun u => Grow.when fun _ => Grow.bind fun y => Grow.when fun _ => Grow.when fun hc => ?_))
    · exact Grow.step (by simp) (by simp; omega) (symG_grow l d most f _)
    · exact Grow.step (by rw [length_matchOut]; omega) (by rw [length_matchOut]; omega) (symG_grow l d most f _)
theorem symG_cmp (l d : List Int) (M most : Int) : ∀ f out, Cmp most out (symG l d M f out) (symG l d most f out)
  | 0, _ => Cmp.fail 3 _
  | f + 1, out => by
    refine Cmp.bind fun t => Cmp.ite Cmp.pure (Cmp.ite ?_ (Cmp.when (Cmp.bind fun x => Cmp.bind fun u => Cmp.when (Cmp.bind fun y => Cmp.when ?_))))
    · exact Cmp.guard (by simp) (symG_grow l d M f _) (symG_cmp l d M most f _)
    · exact Cmp.guard (by rw [length_matchOut]; omega) (symG_grow l d M f _) (symG_cmp l d M most f _)
theorem bytes_len {s : ByteArray} {p n : Nat} {x : ByteArray} {q : Nat} (h : rBytes n s p = .ok (x, q)) : x.data.toList.length = n := by
  unfold rBytes at h
  by_cases h0 : bytesErr s p n = 0
  · rw [if_neg (by simpa using h0)] at h
    injection h with h; injection h with h1 h2
    subst h1
    unfold bytesVal
    rw [if_pos h0]
    unfold bytesErr at h0
    rw [if_neg (by omega)] at h0
    by_cases h2 : (s.size - (p + 7) / 8 : Nat) < (n : Int)
    · rw [if_pos h2] at h0; omega
    · have hz : s.data.toList.length = s.size := Array.length_toList
      show ((s.data.toList.drop ((p + 7) / 8)).take (n : Int).toNat).length = n
      rw [List.length_take, List.length_drop, Int.toNat_natCast]; omega
  · rw [if_pos h0] at h; cases h
theorem storedR_grow (most : Int) (out : List UInt8) : Grow most out (storedR most out) := by
  refine Grow.bind fun a => Grow.bind fun b => Grow.when fun _ => fun s p r q h => ?_
  obtain ⟨y, h1, h2⟩ := ok_bind h
  obtain ⟨hc, h3⟩ := ok_when h2
  have hl := bytes_len h1
  unfold rPure at h3; injection h3 with h3; injection h3 with h4 h5
  subst h4
  rw [List.length_append, hl]
  exact ⟨by omega, .inl (by omega)⟩
theorem storedR_cmp (M most : Int) (out : List UInt8) : Cmp most out (storedR M out) (storedR most out) := by
  refine Cmp.bind fun a => Cmp.bind fun b => Cmp.when fun s p r q h => ?_
  obtain ⟨y, h1, h2⟩ := ok_bind h
  obtain ⟨hc, h3⟩ := ok_when h2
  have hl := bytes_len h1
  rw [bind_ok h1]
  have h3' := h3
  unfold rPure at h3; injection h3 with h3; injection h3 with h4 h5
  subst h4
  by_cases hm : most < (out.length : Int) + (wordOf a : Nat)
  · rw [when_yes hm]; exact .inr ⟨rfl, by rw [List.length_append, hl]; omega⟩
  · rw [when_not hm]; exact .inl ⟨h3', .inl (by rw [List.length_append, hl]; omega)⟩
theorem blockR_grow (most : Int) (F kind : Nat) (out : List UInt8) : Grow most out (blockR most F kind out) := by
  unfold blockR
  refine Grow.ite (storedR_grow most out) (Grow.ite (Grow.when fun _ => Grow.when fun _ => symG_grow _ _ _ _ _) (Grow.ite ?_ (Grow.fail 13)))
  exact Grow.bind fun a => Grow.bind fun b => Grow.bind fun c => Grow.bind fun small => Grow.when fun _ => Grow.bind fun ls => Grow.when fun _ => Grow.when fun _ => symG_grow _ _ _ _ _
theorem blockR_cmp (M most : Int) (F kind : Nat) (out : List UInt8) : Cmp most out (blockR M F kind out) (blockR most F kind out) := by
  unfold blockR
  refine Cmp.ite (storedR_cmp M most out) (Cmp.ite (Cmp.when (Cmp.when (symG_cmp _ _ _ _ _ _))) (Cmp.ite ?_ (Cmp.fail 13 _)))
  exact Cmp.bind fun a => Cmp.bind fun b => Cmp.bind fun c => Cmp.bind fun small => Cmp.when (Cmp.bind fun ls => Cmp.when (Cmp.when (symG_cmp _ _ _ _ _ _)))
theorem blkG_grow (most : Int) (F : Nat) : ∀ f out, Grow most out (blkG most F f out)
  | 0, _ => Grow.fail 3
  | f + 1, out => Grow.bind fun last => Grow.bind fun kind => fun s p a q h => by
    obtain ⟨y, h1, h2⟩ := ok_bind h
    obtain ⟨g1, g2⟩ := blockR_grow most F kind out _ _ _ _ h1
    have h3 : Grow most y.1 (if last ≠ 0 then rPure y.1 else blkG most F f y.1) := Grow.ite Grow.pure (blkG_grow most F f y.1)
    obtain ⟨g3, g4⟩ := h3 _ _ _ _ h2
    refine ⟨by omega, ?_⟩
    rcases g4 with g4 | g4
    · exact .inl g4
    · rw [g4]; exact g2
theorem blkG_cmp (M most : Int) (F : Nat) : ∀ f out, Cmp most out (blkG M F f out) (blkG most F f out)
  | 0, _ => Cmp.fail 3 _
  | f + 1, out => Cmp.bind fun last => Cmp.bind fun kind => fun s p a q h => by
    obtain ⟨y, h1, h2⟩ := ok_bind h
    have h3 : Cmp most y.1 (if last ≠ 0 then rPure y.1 else blkG M F f y.1) (if last ≠ 0 then rPure y.1 else blkG most F f y.1) := Cmp.ite Cmp.pure (blkG_cmp M most F f y.1)
    have g3 : Grow M y.1 (if last ≠ 0 then rPure y.1 else blkG M F f y.1) := Grow.ite Grow.pure (blkG_grow M F f y.1)
    have gl := (g3 _ _ _ _ h2).1
    rcases blockR_cmp M most F kind out _ _ _ _ h1 with ⟨e1, e2⟩ | ⟨e1, e2⟩
    · rw [bind_ok e1]
      rcases h3 _ _ _ _ h2 with ⟨k1, k2⟩ | k
      · refine .inl ⟨k1, ?_⟩
        rcases k2 with k2 | k2
        · exact .inl k2
        · rw [k2]; exact e2
      · exact .inr k
    · right
      refine ⟨?_, by omega⟩
      unfold rBind; rw [e1]
/-- A bound that is met refuses the stream, a greater one makes no difference. -/
theorem infl_bound {s : ByteArray} {M most : Int} {a : List UInt8} {q : Nat} (h : inflS s M = .ok (a, q)) : (inflS s most = .ok (a, q) ∧ ((a.length : Int) ≤ most ∨ a = [])) ∨ (inflS s most = .error 5 ∧ most < (a.length : Int)) :=
  blkG_cmp M most _ _ _ s 0 a q h
theorem infl_most {s : ByteArray} {most : Int} {a : List UInt8} {q : Nat} (h : inflS s most = .ok (a, q)) : (a.length : Int) ≤ most ∨ a = [] := (blkG_grow most _ _ _ s 0 a q h).2
end Go.Proofs.YtobmghjpfkdooaaDoor
/- What a stream says, step by step: one law for each way that a step may go; the fixed lengths; how great the numbers of matches get. -/
set_option linter.unusedVariables false
namespace Go.Proofs.YtobmghjpfkdooaaDoor

theorem rBits_val {n p : Nat} {s : ByteArray} (h : bitsErr s p n = 0) : rBits n s p = .ok (bitsVal s p n, bitsGo s p n) := by unfold rBits; rw [if_neg (by simpa using h)]
theorem rBits_err {n p : Nat} {s : ByteArray} (h : bitsErr s p n ≠ 0) : rBits n s p = .error (bitsErr s p n) := by unfold rBits; rw [if_pos h]
theorem rBytes_val {n p : Nat} {s : ByteArray} (h : bytesErr s p n = 0) : rBytes n s p = .ok (bytesVal s p n, bytesGo s p n) := by unfold rBytes; rw [if_neg (by simpa using h)]
theorem rBytes_err {n p : Nat} {s : ByteArray} (h : bytesErr s p n ≠ 0) : rBytes n s p = .error (bytesErr s p n) := by unfold rBytes; rw [if_pos h]
theorem rNext_val {l : List Int} {p t p1 : Nat} {s : ByteArray} (h : nextS l s p = (t, 0, p1)) : rNext l s p = .ok (t, p1) := by unfold rNext; rw [h]; rfl
theorem rNext_err {l : List Int} {p t p1 : Nat} {e : Int} {s : ByteArray} (h : nextS l s p = (t, e, p1)) (he : e ≠ 0) : rNext l s p = .error e := by unfold rNext; rw [h]; exact if_pos he
section
variable {α β : Type} {m : Rd α} {f : α → Rd β} {s : ByteArray} {p q : Nat} {a : α} {e : Int}
theorem bind_val (h : m s p = .ok (a, q)) : rBind m f s p = f a s q := by unfold rBind; rw [h]
theorem bind_err (h : m s p = .error e) : rBind m f s p = .error e := by unfold rBind; rw [h]
end

section
variable {l d : List Int} {most : Int} {f p p1 t : Nat} {out : List UInt8} {s : ByteArray}
theorem sym_err {e : Int} (h : nextS l s p = (t, e, p1)) (he : e ≠ 0) : symG l d most (f + 1) out s p = .error e := bind_err (rNext_err h he)
theorem sym_end (h : nextS l s p = (256, 0, p1)) : symG l d most (f + 1) out s p = .ok (out, p1) := bind_val (rNext_val h)
theorem sym_lit_big (h : nextS l s p = (t, 0, p1)) (ht : t < 256) (hm : most < (out.length : Int) + 1) : symG l d most (f + 1) out s p = .error 5 := by
  refine (bind_val (rNext_val h)).trans ?_
  rw [if_neg (by omega), if_pos ht, when_yes hm]
theorem sym_lit (h : nextS l s p = (t, 0, p1)) (ht : t < 256) (hm : ¬ most < (out.length : Int) + 1) : symG l d most (f + 1) out s p = symG l d most f (out ++ [UInt8.ofNat t]) s p1 := by
  refine (bind_val (rNext_val h)).trans ?_
  rw [if_neg (by omega), if_pos ht, when_not hm]
theorem sym_code (h : nextS l s p = (t, 0, p1)) (ht : 285 < t) : symG l d most (f + 1) out s p = .error 12 := by
  refine (bind_val (rNext_val h)).trans ?_
  rw [if_neg (by omega), if_neg (by omega), when_yes ht]
/-- A match: what follows its symbol. -/
def matchR (l d : List Int) (most : Int) (f : Nat) (out : List UInt8) (t : Nat) : Rd (List UInt8) :=
  rBind (rBits (lenBits t)) fun x => rBind (rNext d) fun u => rWhen (29 < u) 12 (rBind (rBits (dstBits u)) fun y =>
    rWhen (out.length < dstBase u + y) 15 (rWhen (most < (out.length : Int) + ((lenBase t + x : Nat) : Int)) 5 (symG l d most f (matchOut (dstBase u + y) (lenBase t + x) out))))
theorem sym_match (h : nextS l s p = (t, 0, p1)) (h1 : 256 < t) (h2 : t ≤ 285) : symG l d most (f + 1) out s p = matchR l d most f out t s p1 := by
  refine (bind_val (rNext_val h)).trans ?_
  rw [if_neg (by omega), if_neg (by omega), when_not (by omega)]; rfl
variable {u p2 p3 : Nat}
theorem match_len_err (he : bitsErr s p1 (lenBits t) ≠ 0) : matchR l d most f out t s p1 = .error (bitsErr s p1 (lenBits t)) := bind_err (rBits_err he)
theorem match_dst_err {e : Int} (h0 : bitsErr s p1 (lenBits t) = 0) (h : nextS d s (bitsGo s p1 (lenBits t)) = (u, e, p3)) (he : e ≠ 0) : matchR l d most f out t s p1 = .error e :=
  (bind_val (rBits_val h0)).trans (bind_err (rNext_err h he))
theorem match_dst_code (h0 : bitsErr s p1 (lenBits t) = 0) (h : nextS d s (bitsGo s p1 (lenBits t)) = (u, 0, p3)) (hu : 29 < u) : matchR l d most f out t s p1 = .error 12 :=
  (bind_val (rBits_val h0)).trans ((bind_val (rNext_val h)).trans (when_yes hu))
theorem match_bits_err (h0 : bitsErr s p1 (lenBits t) = 0) (h : nextS d s (bitsGo s p1 (lenBits t)) = (u, 0, p3)) (hu : ¬ 29 < u) (he : bitsErr s p3 (dstBits u) ≠ 0) : matchR l d most f out t s p1 = .error (bitsErr s p3 (dstBits u)) :=
  (bind_val (rBits_val h0)).trans ((bind_val (rNext_val h)).trans ((when_not hu).trans (bind_err (rBits_err he))))
theorem match_far (h0 : bitsErr s p1 (lenBits t) = 0) (h : nextS d s (bitsGo s p1 (lenBits t)) = (u, 0, p3)) (hu : ¬ 29 < u) (he : bitsErr s p3 (dstBits u) = 0) (hf : out.length < dstBase u + bitsVal s p3 (dstBits u)) : matchR l d most f out t s p1 = .error 15 :=
  (bind_val (rBits_val h0)).trans ((bind_val (rNext_val h)).trans ((when_not hu).trans ((bind_val (rBits_val he)).trans (when_yes hf))))
theorem match_big (h0 : bitsErr s p1 (lenBits t) = 0) (h : nextS d s (bitsGo s p1 (lenBits t)) = (u, 0, p3)) (hu : ¬ 29 < u) (he : bitsErr s p3 (dstBits u) = 0) (hf : ¬ out.length < dstBase u + bitsVal s p3 (dstBits u))
    (hb : most < (out.length : Int) + ((lenBase t + bitsVal s p1 (lenBits t) : Nat) : Int)) : matchR l d most f out t s p1 = .error 5 :=
  (bind_val (rBits_val h0)).trans ((bind_val (rNext_val h)).trans ((when_not hu).trans ((bind_val (rBits_val he)).trans ((when_not hf).trans (when_yes hb)))))
theorem match_goes (h0 : bitsErr s p1 (lenBits t) = 0) (h : nextS d s (bitsGo s p1 (lenBits t)) = (u, 0, p3)) (hu : ¬ 29 < u) (he : bitsErr s p3 (dstBits u) = 0) (hf : ¬ out.length < dstBase u + bitsVal s p3 (dstBits u))
    (hb : ¬ most < (out.length : Int) + ((lenBase t + bitsVal s p1 (lenBits t) : Nat) : Int)) :
    matchR l d most f out t s p1 = symG l d most f (matchOut (dstBase u + bitsVal s p3 (dstBits u)) (lenBase t + bitsVal s p1 (lenBits t)) out) s (bitsGo s p3 (dstBits u)) :=
  (bind_val (rBits_val h0)).trans ((bind_val (rNext_val h)).trans ((when_not hu).trans ((bind_val (rBits_val he)).trans ((when_not hf).trans (when_not hb)))))
theorem next_adv (hp : p ≤ 8 * s.size) (h : nextS l s p = (t, 0, p1)) : p < p1 ∧ p1 ≤ 8 * s.size := rNext_adv' l hp (rNext_val h)
end

/-! The numbers of matches. -/
theorem lenBits_le {t : Nat} (h1 : 256 < t) (h2 : t ≤ 285) : lenBits t ≤ 5 := by unfold lenBits; split <;> omega
theorem dstBits_le {u : Nat} (h : u ≤ 29) : dstBits u ≤ 13 := by unfold dstBits; split <;> omega
theorem lenBase_all : ∀ k, k < 29 → 3 ≤ lenBase (257 + k) ∧ lenBase (257 + k) ≤ 258 ∧ lenBase (257 + k) + 2 ^ lenBits (257 + k) ≤ 259 := by decide +kernel
theorem lenBase_le {t : Nat} (h1 : 256 < t) (h2 : t ≤ 285) : 3 ≤ lenBase t ∧ lenBase t ≤ 258 ∧ lenBase t + 2 ^ lenBits t ≤ 259 := by
  have := lenBase_all (t - 257) (by omega)
  rwa [show 257 + (t - 257) = t from by omega] at this
theorem dstBase_all : ∀ u, u < 30 → 1 ≤ dstBase u ∧ dstBase u + 2 ^ dstBits u ≤ 32769 := by decide +kernel
theorem dstBase_le {u : Nat} (h : u ≤ 29) : 1 ≤ dstBase u ∧ dstBase u + 2 ^ dstBits u ≤ 32769 := dstBase_all u (by omega)
theorem lenBase_succ {t : Nat} (h : 257 ≤ t) (h2 : t + 1 < 285) : lenBase (t + 1) = lenBase t + 2 ^ lenBits t := by
  unfold lenBase
  rw [if_neg (by omega), if_neg (by omega), show t + 1 - 257 = (t - 257) + 1 from by omega, List.range_succ, List.map_append, List.sum_append]
  simp only [List.map_cons, List.map_nil, List.sum_cons, List.sum_nil]
  rw [show 257 + (t - 257) = t from by omega]; omega
theorem dstBase_succ (u : Nat) : dstBase (u + 1) = dstBase u + 2 ^ dstBits u := by
  unfold dstBase
  rw [List.range_succ, List.map_append, List.sum_append]
  simp only [List.map_cons, List.map_nil, List.sum_cons, List.sum_nil]; omega
theorem bitsVal_lt (s : ByteArray) (p n : Nat) : bitsVal s p n < 2 ^ n := by
  unfold bitsVal; split
  · rw [Int.toNat_natCast]; exact bitsAt_lt _ _ _
  · exact Nat.two_pow_pos _
theorem chk_fixL : chk fixL = 0 := by decide +kernel
theorem chk_fixD : chk fixD = 0 := by decide +kernel

/-! Lengths in the small code. -/
section
variable {small : List Int} {total f p p1 t : Nat} {acc : List Int} {s : ByteArray}
theorem len_done (h : total ≤ acc.length) : lenG small total (f + 1) acc s p = .ok (acc, p) := by rw [lenG, if_pos h]; rfl
theorem len_open (h : acc.length < total) : lenG small total (f + 1) acc s p = rBind (rNext small) (fun t =>
    if t < 16 then lenG small total f (acc ++ [(t : Int)]) else
    if t = 16 then rWhen (acc.length = 0) 12 (rBind (rBits 2) fun x => rWhen (total < acc.length + (3 + x)) 12 (lenG small total f (acc ++ List.replicate (3 + x) (acc.getD (acc.length - 1) 0)))) else
    if t = 17 then rBind (rBits 3) fun x => rWhen (total < acc.length + (3 + x)) 12 (lenG small total f (acc ++ List.replicate (3 + x) 0)) else
    rBind (rBits 7) fun x => rWhen (total < acc.length + (11 + x)) 12 (lenG small total f (acc ++ List.replicate (11 + x) 0))) s p := by rw [lenG, if_neg (by omega)]
theorem len_err {e : Int} (h : acc.length < total) (hn : nextS small s p = (t, e, p1)) (he : e ≠ 0) : lenG small total (f + 1) acc s p = .error e := (len_open h).trans (bind_err (rNext_err hn he))
theorem len_one (h : acc.length < total) (hn : nextS small s p = (t, 0, p1)) (ht : t < 16) : lenG small total (f + 1) acc s p = lenG small total f (acc ++ [(t : Int)]) s p1 := by
  rw [len_open h, bind_val (rNext_val hn), if_pos ht]
theorem len_none (h : acc.length < total) (hn : nextS small s p = (16, 0, p1)) (h0 : acc.length = 0) : lenG small total (f + 1) acc s p = .error 12 := by
  rw [len_open h, bind_val (rNext_val hn), if_neg (by omega), if_pos rfl, when_yes h0]
/-- A repetition: of what, its least number, its bits. -/
def repR (small : List Int) (total f : Nat) (acc : List Int) (v : Int) (least bits : Nat) : Rd (List Int) := rBind (rBits bits) fun x => rWhen (total < acc.length + (least + x)) 12 (lenG small total f (acc ++ List.replicate (least + x) v))
theorem len_again (h : acc.length < total) (hn : nextS small s p = (16, 0, p1)) (h0 : acc.length ≠ 0) : lenG small total (f + 1) acc s p = repR small total f acc (acc.getD (acc.length - 1) 0) 3 2 s p1 := by
  rw [len_open h, bind_val (rNext_val hn), if_neg (by omega), if_pos rfl, when_not h0]; rfl
theorem len_zeros (h : acc.length < total) (hn : nextS small s p = (17, 0, p1)) : lenG small total (f + 1) acc s p = repR small total f acc 0 3 3 s p1 := by
  rw [len_open h, bind_val (rNext_val hn), if_neg (by omega), if_neg (by omega), if_pos rfl]; rfl
theorem len_many (h : acc.length < total) (hn : nextS small s p = (t, 0, p1)) (ht : 17 < t) : lenG small total (f + 1) acc s p = repR small total f acc 0 11 7 s p1 := by
  rw [len_open h, bind_val (rNext_val hn), if_neg (by omega), if_neg (by omega), if_neg (by omega)]; rfl
variable {v : Int} {least bits : Nat}
theorem rep_err (he : bitsErr s p1 bits ≠ 0) : repR small total f acc v least bits s p1 = .error (bitsErr s p1 bits) := bind_err (rBits_err he)
theorem rep_far (he : bitsErr s p1 bits = 0) (h : total < acc.length + (least + bitsVal s p1 bits)) : repR small total f acc v least bits s p1 = .error 12 := (bind_val (rBits_val he)).trans (when_yes h)
theorem rep_goes (he : bitsErr s p1 bits = 0) (h : ¬ total < acc.length + (least + bitsVal s p1 bits)) :
    repR small total f acc v least bits s p1 = lenG small total f (acc ++ List.replicate (least + bitsVal s p1 bits) v) s (bitsGo s p1 bits) := (bind_val (rBits_val he)).trans (when_not h)
end
end Go.Proofs.YtobmghjpfkdooaaDoor
/- What a stream says, block by block: one law for each way that a block may go. -/
set_option linter.unusedVariables false
namespace Go.Proofs.YtobmghjpfkdooaaDoor

section
variable {most : Int} {out : List UInt8} {s : ByteArray} {p F f : Nat}
/-- Where a stored block's numbers end. -/
def p1Of (s : ByteArray) (p : Nat) : Nat := bytesGo s p (2 : Nat)
theorem stored_err1 (he : bytesErr s p (2 : Nat) ≠ 0) : storedR most out s p = .error (bytesErr s p (2 : Nat)) := bind_err (rBytes_err he)
theorem stored_err2 (h1 : bytesErr s p (2 : Nat) = 0) (he : bytesErr s (bytesGo s p (2 : Nat)) (2 : Nat) ≠ 0) : storedR most out s p = .error (bytesErr s (bytesGo s p (2 : Nat)) (2 : Nat)) := (bind_val (rBytes_val h1)).trans (bind_err (rBytes_err he))
theorem stored_not (h1 : bytesErr s p (2 : Nat) = 0) (h2 : bytesErr s (bytesGo s p (2 : Nat)) (2 : Nat) = 0) (hw : wordOf (bytesVal s (bytesGo s p (2 : Nat)) (2 : Nat)) ≠ 65535 - wordOf (bytesVal s p (2 : Nat))) : storedR most out s p = .error 14 :=
  (bind_val (rBytes_val h1)).trans ((bind_val (rBytes_val h2)).trans (when_yes hw))
/-- The bytes of a stored block. -/
def storedK (most : Int) (out : List UInt8) (n : Nat) : Rd (List UInt8) := rBind (rBytes n) fun x => rWhen (most < (out.length : Int) + (n : Nat)) 5 (rPure (out ++ x.data.toList))
theorem stored_goes (h1 : bytesErr s p (2 : Nat) = 0) (h2 : bytesErr s (bytesGo s p (2 : Nat)) (2 : Nat) = 0) (hw : ¬ wordOf (bytesVal s (bytesGo s p (2 : Nat)) (2 : Nat)) ≠ 65535 - wordOf (bytesVal s p (2 : Nat))) :
    storedR most out s p = storedK most out (wordOf (bytesVal s p (2 : Nat))) s (bytesGo s (bytesGo s p (2 : Nat)) (2 : Nat)) :=
  (bind_val (rBytes_val h1)).trans ((bind_val (rBytes_val h2)).trans (when_not hw))
variable {n : Nat}
theorem storedK_err (he : bytesErr s p n ≠ 0) : storedK most out n s p = .error (bytesErr s p n) := bind_err (rBytes_err he)
theorem storedK_big (he : bytesErr s p n = 0) (hb : most < (out.length : Int) + (n : Nat)) : storedK most out n s p = .error 5 := (bind_val (rBytes_val he)).trans (when_yes hb)
theorem storedK_goes (he : bytesErr s p n = 0) (hb : ¬ most < (out.length : Int) + (n : Nat)) : storedK most out n s p = .ok (out ++ (bytesVal s p n).data.toList, bytesGo s p n) := (bind_val (rBytes_val he)).trans (when_not hb)

theorem tables_err1 {α : Type} {l d : List Int} {m : Rd α} (h : chk l ≠ 0) : tablesR l d m s p = .error (chk l) := when_yes h
theorem tables_err2 {α : Type} {l d : List Int} {m : Rd α} (h1 : chk l = 0) (h : chk d ≠ 0) : tablesR l d m s p = .error (chk d) := (when_not (by simpa using h1)).trans (when_yes h)
theorem tables_goes {α : Type} {l d : List Int} {m : Rd α} (h1 : chk l = 0) (h2 : chk d = 0) : tablesR l d m s p = m s p := (when_not (by simpa using h1)).trans (when_not (by simpa using h2))
theorem block_fixed : blockR most F 1 out s p = symG fixL fixD most F out s p := by
  unfold blockR; rw [if_neg (by omega), if_pos rfl]; exact tables_goes chk_fixL chk_fixD
theorem block_stored : blockR most F 0 out s p = storedR most out s p := by unfold blockR; rw [if_pos rfl]
theorem block_dyn : blockR most F 2 out s p = dynR most F out s p := by unfold blockR; rw [if_neg (by omega), if_neg (by omega), if_pos rfl]
theorem block_none : blockR most F 3 out s p = .error 13 := by unfold blockR; rw [if_neg (by omega), if_neg (by omega), if_neg (by omega)]; rfl

/-! The head of a dynamic block. -/
theorem dyn_err1 (he : bitsErr s p (5 : Nat) ≠ 0) : dynR most F out s p = .error (bitsErr s p (5 : Nat)) := bind_err (rBits_err he)
def dyn1 (most : Int) (F : Nat) (out : List UInt8) (a : Nat) : Rd (List UInt8) := rBind (rBits 5) fun b => rBind (rBits 4) fun c => rBind (smallG (ordS.take (c + 4)) (List.replicate 19 0)) fun small =>
    rWhen (chk small ≠ 0) (chk small) (rBind (lenG small (a + 257 + (b + 1)) F []) fun ls => tablesR (ls.take (a + 257)) (ls.drop (a + 257)) (symG (ls.take (a + 257)) (ls.drop (a + 257)) most F out))
theorem dyn_goes1 (h : bitsErr s p (5 : Nat) = 0) : dynR most F out s p = dyn1 most F out (bitsVal s p (5 : Nat)) s (bitsGo s p (5 : Nat)) := bind_val (rBits_val h)
variable {a b c : Nat}
theorem dyn_err2 (he : bitsErr s p (5 : Nat) ≠ 0) : dyn1 most F out a s p = .error (bitsErr s p (5 : Nat)) := bind_err (rBits_err he)
def dyn2 (most : Int) (F : Nat) (out : List UInt8) (a b : Nat) : Rd (List UInt8) := rBind (rBits 4) fun c => rBind (smallG (ordS.take (c + 4)) (List.replicate 19 0)) fun small =>
    rWhen (chk small ≠ 0) (chk small) (rBind (lenG small (a + 257 + (b + 1)) F []) fun ls => tablesR (ls.take (a + 257)) (ls.drop (a + 257)) (symG (ls.take (a + 257)) (ls.drop (a + 257)) most F out))
theorem dyn_goes2 (h : bitsErr s p (5 : Nat) = 0) : dyn1 most F out a s p = dyn2 most F out a (bitsVal s p (5 : Nat)) s (bitsGo s p (5 : Nat)) := bind_val (rBits_val h)
theorem dyn_err3 (he : bitsErr s p (4 : Nat) ≠ 0) : dyn2 most F out a b s p = .error (bitsErr s p (4 : Nat)) := bind_err (rBits_err he)
def dyn3 (most : Int) (F : Nat) (out : List UInt8) (a b : Nat) (small : List Int) : Rd (List UInt8) :=
    rWhen (chk small ≠ 0) (chk small) (rBind (lenG small (a + 257 + (b + 1)) F []) fun ls => tablesR (ls.take (a + 257)) (ls.drop (a + 257)) (symG (ls.take (a + 257)) (ls.drop (a + 257)) most F out))
theorem dyn_goes3 (h : bitsErr s p (4 : Nat) = 0) : dyn2 most F out a b s p = rBind (smallG (ordS.take (bitsVal s p (4 : Nat) + 4)) (List.replicate 19 0)) (dyn3 most F out a b) s (bitsGo s p (4 : Nat)) := bind_val (rBits_val h)
variable {small ls : List Int} {k : Nat} {ks : List Nat} {q : Nat} {e : Int}
theorem small_err (he : bitsErr s p (3 : Nat) ≠ 0) : smallG (k :: ks) small s p = .error (bitsErr s p (3 : Nat)) := bind_err (rBits_err he)
theorem small_goes (h : bitsErr s p (3 : Nat) = 0) : smallG (k :: ks) small s p = smallG ks (small.set k (bitsVal s p (3 : Nat) : Nat)) s (bitsGo s p (3 : Nat)) := bind_val (rBits_val h)
theorem dyn3_err (h : chk small ≠ 0) : dyn3 most F out a b small s p = .error (chk small) := when_yes h
theorem dyn3_len_err (h : chk small = 0) (he : lenG small (a + 257 + (b + 1)) F [] s p = .error e) : dyn3 most F out a b small s p = .error e := (when_not (by simpa using h)).trans (bind_err he)
theorem dyn3_goes (h : chk small = 0) (he : lenG small (a + 257 + (b + 1)) F [] s p = .ok (ls, q)) : dyn3 most F out a b small s p = tablesR (ls.take (a + 257)) (ls.drop (a + 257)) (symG (ls.take (a + 257)) (ls.drop (a + 257)) most F out) s q :=
  (when_not (by simpa using h)).trans (bind_val he)

/-! Blocks. -/
theorem blk_err1 (he : bitsErr s p (1 : Nat) ≠ 0) : blkG most F (f + 1) out s p = .error (bitsErr s p (1 : Nat)) := bind_err (rBits_err he)
theorem blk_err2 (h1 : bitsErr s p (1 : Nat) = 0) (he : bitsErr s (bitsGo s p (1 : Nat)) (2 : Nat) ≠ 0) : blkG most F (f + 1) out s p = .error (bitsErr s (bitsGo s p (1 : Nat)) (2 : Nat)) := (bind_val (rBits_val h1)).trans (bind_err (rBits_err he))
/-- Behind a block's kind. -/
def blkK (most : Int) (F f last kind : Nat) (out : List UInt8) : Rd (List UInt8) := rBind (blockR most F kind out) fun out' => if last ≠ 0 then rPure out' else blkG most F f out'
theorem blk_goes (h1 : bitsErr s p (1 : Nat) = 0) (h2 : bitsErr s (bitsGo s p (1 : Nat)) (2 : Nat) = 0) :
    blkG most F (f + 1) out s p = blkK most F f (bitsVal s p (1 : Nat)) (bitsVal s (bitsGo s p (1 : Nat)) (2 : Nat)) out s (bitsGo s (bitsGo s p (1 : Nat)) (2 : Nat)) := (bind_val (rBits_val h1)).trans (bind_val (rBits_val h2))
variable {last kind : Nat} {out' : List UInt8}
theorem blkK_err (h : blockR most F kind out s p = .error e) : blkK most F f last kind out s p = .error e := bind_err h
theorem blkK_last (h : blockR most F kind out s p = .ok (out', q)) (hl : last ≠ 0) : blkK most F f last kind out s p = .ok (out', q) := by
  refine (bind_val h).trans ?_
  rw [if_pos hl]; rfl
theorem blkK_more (h : blockR most F kind out s p = .ok (out', q)) (hl : last = 0) : blkK most F f last kind out s p = blkG most F f out' s q := by
  refine (bind_val h).trans ?_
  rw [if_neg (by simpa using hl)]
end
/-- What Inflate tells: the bytes, how many bytes the stream has, and what is wrong. -/
def inflT (s : ByteArray) (most : Int) : List UInt8 × Nat × Int := match inflS s most with
  | .error e => ([], 0, e)
  | .ok (a, q) => (a, (q + 7) / 8, 0)
theorem inflT_err {s : ByteArray} {most e : Int} (h : inflS s most = .error e) : inflT s most = ([], 0, e) := by unfold inflT; rw [h]
theorem inflT_ok {s : ByteArray} {most : Int} {a : List UInt8} {q : Nat} (h : inflS s most = .ok (a, q)) : inflT s most = (a, (q + 7) / 8, 0) := by unfold inflT; rw [h]
end Go.Proofs.YtobmghjpfkdooaaDoor
/- What Inflate tells: the plain side of the statements on what stands behind and on bounds. -/
set_option linter.unusedVariables false
namespace Go.Proofs.YtobmghjpfkdooaaDoor

/-- An error that is told is an error. -/
def Hard {α : Type} (m : Rd α) : Prop := ∀ s p, m s p ≠ .error 0
section
variable {α β : Type}
theorem Hard.pure (a : α) : Hard (rPure a) := fun _ _ h => by cases h
theorem Hard.fail {e : Int} (he : e ≠ 0) : Hard (rFail e : Rd α) := fun _ _ h => by
  unfold rFail at h; injection h with h; exact he h
theorem Hard.bind {m : Rd α} {f : α → Rd β} (hm : Hard m) (hf : ∀ a, Hard (f a)) : Hard (rBind m f) := fun s p h => by
  unfold rBind at h
  cases e : m s p with
  | error x => rw [e] at h; injection h with h; subst h; exact hm s p e
  | ok y => rw [e] at h; exact hf _ _ _ h
theorem Hard.when {c : Prop} [Decidable c] {e : Int} {m : Rd α} (he : c → e ≠ 0) (hm : Hard m) : Hard (rWhen c e m) := by
  unfold rWhen
  split
  · rename_i h; exact Hard.fail (he h)
  · exact hm
theorem Hard.ite {c : Prop} [Decidable c] {m k : Rd α} (hm : Hard m) (hk : Hard k) : Hard (if c then m else k) := by
  split
  · exact hm
  · exact hk
theorem rBits_hard (n : Nat) : Hard (rBits n) := fun s p h => by
  unfold rBits at h
  by_cases h0 : bitsErr s p n = 0
  · rw [if_neg (by simpa using h0)] at h; cases h
  · rw [if_pos h0] at h; injection h with h; exact h0 h
theorem rBytes_hard (n : Nat) : Hard (rBytes n) := fun s p h => by
  unfold rBytes at h
  by_cases h0 : bytesErr s p n = 0
  · rw [if_neg (by simpa using h0)] at h; cases h
  · rw [if_pos h0] at h; injection h with h; exact h0 h
theorem rNext_hard (l : List Int) : Hard (rNext l) := fun s p h => by
  unfold rNext at h
  by_cases h0 : (nextS l s p).2.1 = 0
  · rw [if_neg (by simpa using h0)] at h; cases h
  · rw [if_pos h0] at h; injection h with h; exact h0 h
end
theorem symG_hard (l d : List Int) (most : Int) : ∀ f out, Hard (symG l d most f out)
  | 0, _ => Hard.fail (by decide)
  | f + 1, out => Hard.bind (rNext_hard l) fun t => Hard.ite (Hard.pure _) (Hard.ite (Hard.when (fun _ => by decide) (symG_hard l d most f _)) (Hard.when (fun _ => by decide) (Hard.bind (rBits_hard _) fun x => Hard.bind (rNext_hard d) fun u =>
      Hard.when (fun _ => by decide) (Hard.bind (rBits_hard _) fun y => Hard.when (fun _ => by decide) (Hard.when (fun _ => by decide) (symG_hard l d most f _))))))
theorem lenG_hard (small : List Int) (total : Nat) : ∀ f acc, Hard (lenG small total f acc)
  | 0, _ => Hard.fail (by decide)
  | f + 1, acc => by
    refine Hard.ite (Hard.pure _) (Hard.bind (rNext_hard small) fun t => Hard.ite (lenG_hard small total f _) (Hard.ite (Hard.when (fun _ => by decide) ?_) (Hard.ite ?_ ?_)))
    all_goals exact Hard.bind (rBits_hard _) fun x => Hard.when (fun _ => by decide) (lenG_hard small total f _)
theorem smallG_hard : ∀ (ks : List Nat) (a : List Int), Hard (smallG ks a)
  | [], a => Hard.pure a
  | k :: ks, a => Hard.bind (rBits_hard 3) fun v => smallG_hard ks _
theorem blockR_hard (most : Int) (F kind : Nat) (out : List UInt8) : Hard (blockR most F kind out) := by
  unfold blockR
  refine Hard.ite (Hard.bind (rBytes_hard 2) fun a => Hard.bind (rBytes_hard 2) fun b => Hard.when (fun _ => by decide) (Hard.bind (rBytes_hard _) fun x => Hard.when (fun _ => by decide) (Hard.pure _))) (Hard.ite (Hard.when id (Hard.when id (symG_hard _ _ _ _ _))) (Hard.ite ?_ (Hard.fail (by decide))))
  exact Hard.bind (rBits_hard 5) fun a => Hard.bind (rBits_hard 5) fun b => Hard.bind (rBits_hard 4) fun c => Hard.bind (smallG_hard _ _) fun small =>
    Hard.when id (Hard.bind (lenG_hard _ _ _ _) fun ls => Hard.when id (Hard.when id (symG_hard _ _ _ _ _)))
theorem blkG_hard (most : Int) (F : Nat) : ∀ f out, Hard (blkG most F f out)
  | 0, _ => Hard.fail (by decide)
  | f + 1, out => Hard.bind (rBits_hard 1) fun last => Hard.bind (rBits_hard 2) fun kind => Hard.bind (blockR_hard most F kind out) fun out' => Hard.ite (Hard.pure _) (blkG_hard most F f out')
section
variable {s s' s1 : ByteArray} {most M : Int}
theorem infl_open (s : ByteArray) (most : Int) : (∃ a q, inflS s most = .ok (a, q) ∧ inflT s most = (a, (q + 7) / 8, 0)) ∨ (∃ e, e ≠ 0 ∧ inflS s most = .error e ∧ inflT s most = ([], 0, e)) := by
  cases h : inflS s most with
  | ok y => left; exact ⟨y.1, y.2, rfl, inflT_ok h⟩
  | error e => right; exact ⟨e, fun e0 => blkG_hard most _ _ _ s 0 (by subst e0; exact h), rfl, inflT_err h⟩
theorem inflT_end (h : (inflT s most).2.2 = 3) : inflT s most = ([], 0, 3) := by
  rcases infl_open s most with ⟨a, q, _, e⟩ | ⟨x, _, _, e⟩
  · rw [e] at h; simp at h
  · rw [e] at h; have h2 : x = 3 := h
    rw [e, h2]
theorem inflT_front (hp : Pre s s') (h : (inflT s most).2.2 ≠ 3) : inflT s' most = inflT s most := by
  have hs : inflS s most ≠ .error 3 := fun e => h (by rw [inflT_err e])
  have := infl_front hp most hs
  unfold inflT; rw [this]
theorem inflT_size : (inflT s most).2.1 ≤ s.size ∧ ((inflT s most).1.length : Int) ≤ max most 0 := by
  rcases infl_open s most with ⟨a, q, h, e⟩ | ⟨x, _, _, e⟩
  · rw [e]
    have h1 := infl_within h
    have h2 := infl_most h
    refine ⟨by dsimp only; omega, ?_⟩
    rcases h2 with h2 | h2
    · dsimp only; omega
    · subst h2; simp; omega
  · rw [e]; exact ⟨Nat.zero_le _, by simp; omega⟩
theorem inflT_cut (h : (inflT s most).2.2 = 0) (hp : Pre s1 s) (hk : s1.size < (inflT s most).2.1) : (inflT s1 most).2.2 = 3 := by
  rcases infl_open s most with ⟨a, q, h1, e⟩ | ⟨x, hx, _, e⟩
  · rw [e] at hk
    rw [inflT_err (infl_cut h1 hp hk)]
  · rw [e] at h; exact absurd h hx
/-- A greater bound makes no difference. -/
theorem inflT_room (h : (inflT s M).2.2 = 0) (hm : ((inflT s M).1.length : Int) ≤ most) : inflT s most = inflT s M := by
  rcases infl_open s M with ⟨a, q, h1, e⟩ | ⟨x, hx, _, e⟩
  · rw [e] at hm ⊢
    rcases infl_bound (most := most) h1 with ⟨h2, _⟩ | ⟨_, h2⟩
    · exact inflT_ok h2
    · dsimp only at hm; omega
  · rw [e] at h; exact absurd h hx
/-- A bound that is met refuses the stream. -/
theorem inflT_big (h : (inflT s M).2.2 = 0) (h0 : 0 < (inflT s M).1.length) (hm : most < ((inflT s M).1.length : Int)) : (inflT s most).2.2 = 5 := by
  rcases infl_open s M with ⟨a, q, h1, e⟩ | ⟨x, hx, _, e⟩
  · rw [e] at h0 hm
    dsimp only at h0 hm
    rcases infl_bound (most := most) h1 with ⟨_, h2⟩ | ⟨h2, _⟩
    · rcases h2 with h2 | h2
      · omega
      · subst h2; simp at h0
    · rw [inflT_err h2]
  · rw [e] at h; exact absurd h hx
end
end Go.Proofs.YtobmghjpfkdooaaDoor
/- The program's steps of a stream and the document's: bits read at once or one behind the other; values of symbols out of their groups. -/
set_option linter.unusedVariables false
namespace Go.Proofs.YtobmghjpfkdooaaDoor

section
variable {α β γ : Type}
theorem bind_bind (m : Rd α) (f : α → Rd β) (g : β → Rd γ) : rBind (rBind m f) g = rBind m fun a => rBind (f a) g := by
  funext s p; unfold rBind; cases m s p <;> rfl
theorem bind_pure (a : α) (f : α → Rd β) : rBind (rPure a) f = f a := rfl
theorem bind_fail (e : Int) (f : α → Rd β) : rBind (rFail e : Rd α) f = rFail e := rfl
theorem bind_when (c : Prop) [Decidable c] (e : Int) (m : Rd α) (f : α → Rd β) : rBind (rWhen c e m) f = rWhen c e (rBind m f) := by
  unfold rWhen; split <;> rfl
theorem bind_ite (c : Prop) [Decidable c] (m k : Rd α) (f : α → Rd β) : rBind (if c then m else k) f = if c then rBind m f else rBind k f := by
  split <;> rfl
end
theorem bitsErr_nat (s : ByteArray) (p : Nat) {n : Nat} (h : n ≤ 24) : bitsErr s p (n : Int) = if 8 * s.size - p < n then 3 else 0 := by
  unfold bitsErr
  rw [if_neg (by omega)]
  by_cases h1 : 8 * s.size - p < n
  · rw [if_pos (by omega), if_pos h1]
  · rw [if_neg (by omega), if_neg h1]
theorem bitsAt_add (x p m n : Nat) : bitsAt x p (m + n) = bitsAt x p m + 2 ^ m * bitsAt x (p + m) n := by
  unfold bitsAt
  rw [Nat.pow_add, Nat.mod_mul, Nat.pow_add, ← Nat.div_div_eq_div_mul]
theorem rBits_small {n : Nat} (h : n ≤ 24) (s : ByteArray) (p : Nat) : rBits n s p = if 8 * s.size - p < n then .error 3 else .ok (bitsAt (num s.data.toList) p n, p + n) := by
  unfold rBits bitsVal bitsGo
  rw [bitsErr_nat s p h]
  by_cases h1 : 8 * s.size - p < n
  · simp [h1]
  · simp [h1]
/-- Bits that are read at once, and one behind the other. -/
theorem bits_split {α : Type} (m n : Nat) (h : m + n ≤ 24) (f : Nat → Nat → Rd α) : (rBind (rBits m) fun a => rBind (rBits n) fun b => f a b) = rBind (rBits (m + n)) fun v => f (v % 2 ^ m) (v / 2 ^ m) := by
  funext s p
  by_cases h1 : 8 * s.size - p < m
  · rw [bind_err (e := 3) (by rw [rBits_small (by omega), if_pos h1]), bind_err (e := 3) (by rw [rBits_small h, if_pos (by omega)])]
  · rw [bind_val (a := bitsAt (num s.data.toList) p m) (q := p + m) (by rw [rBits_small (by omega), if_neg h1])]
    by_cases h2 : 8 * s.size - (p + m) < n
    · rw [bind_err (e := 3) (by rw [rBits_small (by omega), if_pos h2]), bind_err (e := 3) (by rw [rBits_small h, if_pos (by omega)])]
    · rw [bind_val (a := bitsAt (num s.data.toList) (p + m) n) (q := p + m + n) (by rw [rBits_small (by omega), if_neg h2]),
        bind_val (a := bitsAt (num s.data.toList) p (m + n)) (q := p + (m + n)) (by rw [rBits_small h, if_neg (by omega)])]
      have hlt := bitsAt_lt (num s.data.toList) p m
      have e1 : bitsAt (num s.data.toList) p (m + n) % 2 ^ m = bitsAt (num s.data.toList) p m := by
        rw [bitsAt_add, Nat.add_mul_mod_self_left, Nat.mod_eq_of_lt hlt]
      have e2 : bitsAt (num s.data.toList) p (m + n) / 2 ^ m = bitsAt (num s.data.toList) (p + m) n := by
        rw [bitsAt_add, Nat.add_mul_div_left _ _ (Nat.two_pow_pos m), Nat.div_eq_of_lt hlt, Nat.zero_add]
      rw [e1, e2, Nat.add_assoc]

/-- A block's head: 3 bits at once. -/
theorem blk_head (most : Int) (F f : Nat) (out : List UInt8) : blkG most F (f + 1) out = rBind (rBits 3) fun h => blkK most F f (h % 2) (h / 2) out := by
  have h := bits_split 1 2 (by omega) fun last kind => blkK most F f last kind out
  exact h
/-- The head of a dynamic block: 14 bits at once. -/
theorem dyn_head (most : Int) (F : Nat) (out : List UInt8) : dynR most F out = rBind (rBits 14) fun v => rBind (smallG (ordS.take (4 + v / 1024)) (List.replicate 19 0)) (dyn3 most F out (v % 32) (v / 32 % 32)) := by
  have h1 := fun a : Nat => bits_split 5 4 (by omega) fun b c => rBind (smallG (ordS.take (c + 4)) (List.replicate 19 0)) (dyn3 most F out a b)
  have h2 := bits_split 5 9 (by omega) fun a v => rBind (smallG (ordS.take (v / 2 ^ 5 + 4)) (List.replicate 19 0)) (dyn3 most F out a (v % 2 ^ 5))
  have h3 : dynR most F out = rBind (rBits 5) fun a => rBind (rBits (5 + 4)) fun v => rBind (smallG (ordS.take (v / 2 ^ 5 + 4)) (List.replicate 19 0)) (dyn3 most F out a (v % 2 ^ 5)) := by
    show (rBind (rBits 5) fun a => _) = _
    congr 1
    funext a
    exact h1 a
  rw [h3]
  refine h2.trans ?_
  congr 1
  funext v
  rw [show v / 2 ^ 5 / 2 ^ 5 + 4 = 4 + v / 1024 from by omega]

/-- A length's symbol, its bits read. -/
def rLen (t : Nat) : Rd Nat := rWhen (285 < t) 12 (rBind (rBits (lenBits t)) fun x => rPure (lenBase t + x))
/-- A distance. -/
def rDst (d : List Int) : Rd Nat := rBind (rNext d) fun u => rWhen (29 < u) 12 (rBind (rBits (dstBits u)) fun y => rPure (dstBase u + y))
def rMatch (d : List Int) (most : Int) (t : Nat) (out : List UInt8) : Rd (List UInt8) := rBind (rLen t) fun n => rBind (rDst d) fun far =>
  rWhen (out.length < far) 15 (rWhen (most < (out.length : Int) + (n : Nat)) 5 (rPure (matchOut far n out)))
def rProd (d : List Int) (most : Int) (t : Nat) (out : List UInt8) : Rd (List UInt8) := if 256 < t then rMatch d most t out else rWhen (most < (out.length : Int) + 1) 5 (rPure (out ++ [UInt8.ofNat t]))
theorem sym_step (l d : List Int) (most : Int) (f : Nat) (out : List UInt8) : symG l d most (f + 1) out = rBind (rNext l) fun t => if t = 256 then rPure out else rBind (rProd d most t out) (symG l d most f) := by
  show (rBind (rNext l) fun t => _) = _
  congr 1
  funext t
  by_cases h1 : t = 256
  · rw [if_pos h1, if_pos h1]
  · rw [if_neg h1, if_neg h1]
    unfold rProd
    by_cases h2 : t < 256
    · rw [if_pos h2, if_neg (by omega), bind_when, bind_pure]
    · rw [if_neg h2, if_pos (by omega)]
      unfold rMatch rLen rDst
      simp only [bind_bind, bind_when, bind_pure]

/-- A symbol's value out of its group. -/
def extBits (k g : Nat) : Nat := if k < 2 * g then 0 else k / g - 1
def extVal (k g x : Nat) : Nat := if k < 2 * g then k else (g + k % g) * 2 ^ (k / g - 1) + x
def rExt (k g : Nat) : Rd Nat := rBind (rBits (extBits k g)) fun x => rPure (extVal k g x)
theorem ext_len_all : ∀ k, k < 28 → lenBits (257 + k) = extBits k 4 ∧ ∀ x, x < 32 → lenBase (257 + k) + x = if k < 8 then 3 + extVal k 4 x + x else 3 + extVal k 4 x := by decide +kernel
theorem bits_zero {s : ByteArray} {p : Nat} : rBits 0 s p = .ok (0, p) := by
  rw [rBits_small (by omega), if_neg (by omega), bitsAt_zero]; rfl
theorem ext_len {t : Nat} (h1 : 256 < t) (h2 : t < 285) : rLen t = rBind (rExt (t - 257) 4) fun n => rPure (3 + n) := by
  funext s p
  obtain ⟨e1, e2⟩ := ext_len_all (t - 257) (by omega)
  rw [show 257 + (t - 257) = t from by omega] at e1 e2
  unfold rLen rExt
  rw [when_not (by omega), bind_bind, e1]
  by_cases hk : t - 257 < 8
  · have e0 : extBits (t - 257) 4 = 0 := by unfold extBits; rw [if_pos (by omega)]
    rw [e0, bind_val bits_zero, bind_val bits_zero, bind_pure, e2 0 (by omega), if_pos hk]; rfl
  · unfold rBind
    cases h : rBits (extBits (t - 257) 4) s p with
    | error e => rfl
    | ok y =>
      obtain ⟨x, q⟩ := y
      have hb : extBits (t - 257) 4 ≤ 5 := by unfold extBits; split <;> omega
      have hx : x < 32 := by
        rw [rBits_small (by omega)] at h
        split at h
        · cases h
        · injection h with h; injection h with h _
          subst h
          exact Nat.lt_of_lt_of_le (bitsAt_lt _ _ _) (Nat.pow_le_pow_right (by decide) hb)
      show rPure _ s q = rPure _ s q
      rw [e2 x hx, if_neg hk]
theorem rLen_top : rLen 285 = rPure 258 := by
  funext s p
  unfold rLen
  rw [when_not (by omega), show lenBits 285 = 0 from by decide +kernel, bind_val bits_zero, show lenBase 285 = 258 from by decide +kernel]
theorem rLen_far {t : Nat} (h : 285 < t) : rLen t = rFail 12 := by
  funext s p
  exact when_yes h
theorem ext_dst_all : ∀ u, u < 30 → dstBits u = extBits u 2 ∧ dstBase u = if u < 4 then 1 + u else 1 + extVal u 2 0 := by decide +kernel
theorem extVal_add {k g x : Nat} (h : 2 * g ≤ k) : extVal k g x = extVal k g 0 + x := by
  unfold extVal; rw [if_neg (by omega), if_neg (by omega)]; rfl
theorem ext_dst (d : List Int) : rDst d = rBind (rNext d) fun u => rWhen (29 < u) 12 (rBind (rExt u 2) fun n => rPure (1 + n)) := by
  unfold rDst
  congr 1
  funext u
  by_cases hu : 29 < u
  · unfold rWhen; rw [if_pos hu, if_pos hu]
  · funext s p
    rw [when_not hu, when_not hu]
    obtain ⟨e1, e2⟩ := ext_dst_all u (by omega)
    unfold rExt
    rw [bind_bind, e1]
    by_cases hk : u < 4
    · have e0 : extBits u 2 = 0 := by unfold extBits; rw [if_pos (by omega)]
      rw [e0, bind_val bits_zero, bind_val bits_zero, bind_pure, e2, if_pos hk]
      show rPure _ s p = rPure _ s p
      unfold extVal; rw [if_pos (by omega)]; rfl
    · congr 1
      funext x
      show rPure _ = rPure _
      rw [e2, if_neg hk, extVal_add (x := x) (by omega)]
      congr 1
      omega

/-- The head of a stored block: 4 bytes at once. -/
def wordAt (a : ByteArray) (i : Nat) : Nat := (a.data.toList.getD i 0).toNat + 256 * (a.data.toList.getD (i + 1) 0).toNat
theorem bytesErr_nat (s : ByteArray) (p n : Nat) : bytesErr s p (n : Int) = if s.size - (p + 7) / 8 < n then 3 else 0 := by
  unfold bytesErr
  rw [if_neg (by omega)]
  by_cases h1 : s.size - (p + 7) / 8 < n
  · rw [if_pos (by omega), if_pos h1]
  · rw [if_neg (by omega), if_neg h1]
theorem rBytes_nat (n : Nat) (s : ByteArray) (p : Nat) : rBytes n s p = if s.size - (p + 7) / 8 < n then .error 3 else .ok (⟨((s.data.toList.drop ((p + 7) / 8)).take n).toArray⟩, 8 * ((p + 7) / 8 + n)) := by
  unfold rBytes bytesVal bytesGo
  rw [bytesErr_nat s p n]
  by_cases h1 : s.size - (p + 7) / 8 < n
  · simp [h1]
  · rw [if_neg h1, if_neg h1]
    simp only [if_true, ne_eq, not_true_eq_false, if_false, Int.toNat_natCast]
    rw [if_neg (show ¬ (n : Int) < 0 by omega)]
theorem stored_head (most : Int) (out : List UInt8) : storedR most out = rBind (rBytes 4) fun h => rWhen (wordAt h 2 ≠ 65535 - wordAt h 0) 14 (storedK most out (wordAt h 0)) := by
  funext s p
  by_cases h1 : s.size - (p + 7) / 8 < 2
  · have k2 : rBytes 2 s p = .error 3 := by rw [rBytes_nat, if_pos h1]
    have k4 : rBytes 4 s p = .error 3 := by rw [rBytes_nat, if_pos (by omega)]
    exact (bind_err k2).trans (bind_err k4).symm
  · have k1 : rBytes 2 s p = .ok (⟨((s.data.toList.drop ((p + 7) / 8)).take 2).toArray⟩, 8 * ((p + 7) / 8 + 2)) := by rw [rBytes_nat, if_neg h1]
    have hp : (8 * ((p + 7) / 8 + 2) + 7) / 8 = (p + 7) / 8 + 2 := by omega
    refine (bind_val k1).trans ?_
    by_cases h2 : s.size - ((p + 7) / 8 + 2) < 2
    · have k2 : rBytes 2 s (8 * ((p + 7) / 8 + 2)) = .error 3 := by rw [rBytes_nat, hp, if_pos h2]
      have k4 : rBytes 4 s p = .error 3 := by rw [rBytes_nat, if_pos (by omega)]
      exact (bind_err k2).trans (bind_err k4).symm
    · have k2 : rBytes 2 s (8 * ((p + 7) / 8 + 2)) = .ok (⟨((s.data.toList.drop ((p + 7) / 8 + 2)).take 2).toArray⟩, 8 * ((p + 7) / 8 + 2 + 2)) := by rw [rBytes_nat, hp, if_neg h2]
      have k4 : rBytes 4 s p = .ok (⟨((s.data.toList.drop ((p + 7) / 8)).take 4).toArray⟩, 8 * ((p + 7) / 8 + 4)) := by rw [rBytes_nat, if_neg (by omega)]
      refine (bind_val k2).trans (Eq.trans ?_ (bind_val k4).symm)
      have hlen : 4 ≤ (s.data.toList.drop ((p + 7) / 8)).length := by
        have hz : s.data.toList.length = s.size := Array.length_toList
        rw [List.length_drop]; omega
      rw [← List.drop_drop]
      generalize s.data.toList.drop ((p + 7) / 8) = l at *
      match l, hlen with
      | x0 :: x1 :: x2 :: x3 :: r, _ => rfl
end Go.Proofs.YtobmghjpfkdooaaDoor
