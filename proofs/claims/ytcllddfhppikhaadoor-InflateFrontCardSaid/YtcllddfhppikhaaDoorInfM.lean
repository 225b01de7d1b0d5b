/- What a stream says, as a plain function: reading steps one behind the other; what stands behind makes no difference; bounds. -/
import Derived.Test.YtcllddfhppikhaaDoorNextW
import Derived.Test.YtcllddfhppikhaaDoorReadB
namespace Go.Proofs.YtcllddfhppikhaaDoor
set_option maxRecDepth 100000

/-- A step that reads: an error, or a value and where reading goes on. -/
abbrev Rd (α : Type) := ByteArray → Nat → Except Int (α × Nat)
def rPure {α : Type} (a : α) : Rd α := fun _ p => .ok (a, p)
def rFail {α : Type} (e : Int) : Rd α := fun _ _ => .error e
def rBind {α β : Type} (m : Rd α) (f : α → Rd β) : Rd β := fun s p => match m s p with
  | .error e => .error e
  | .ok (a, q) => f a s q
def rBits (n : Nat) : Rd Nat := fun s p => if bitsErr s p n ≠ 0 then .error (bitsErr s p n) else .ok (bitsVal s p n, bitsGo s p n)
def rBytes (n : Nat) : Rd ByteArray := fun s p => if bytesErr s p n ≠ 0 then .error (bytesErr s p n) else .ok (bytesVal s p n, bytesGo s p n)
def rNext (l : List Int) : Rd Nat := fun s p => if (nextS l s p).2.1 ≠ 0 then .error (nextS l s p).2.1 else .ok ((nextS l s p).1, (nextS l s p).2.2)
def rWhen {α : Type} (c : Prop) [Decidable c] (e : Int) (m : Rd α) : Rd α := if c then rFail e else m

/-- The one is a beginning of the other. -/
def Pre (s s' : ByteArray) : Prop := s.data.toList <+: s'.data.toList
theorem Pre.size {s s' : ByteArray} (h : Pre s s') : s.size ≤ s'.size := by
  have := h.length_le
  simpa using this
/-- What is met within the bytes that are there is met with more of them. -/
def Stable {α : Type} (m : Rd α) : Prop := ∀ s s' p r, Pre s s' → m s p = r → r ≠ .error 3 → m s' p = r
/-- Reading goes on, and stays within the bytes. -/
def Adv {α : Type} (m : Rd α) : Prop := ∀ s p a q, p ≤ 8 * s.size → m s p = .ok (a, q) → p ≤ q ∧ q ≤ 8 * s.size
section
variable {α β : Type}
theorem Stable.pure (a : α) : Stable (rPure a) := fun _ _ _ _ _ h _ => h
theorem Stable.fail (e : Int) : Stable (rFail e : Rd α) := fun _ _ _ _ _ h _ => h
theorem Stable.bind {m : Rd α} {f : α → Rd β} (hm : Stable m) (hf : ∀ a, Stable (f a)) : Stable (rBind m f) := by
  intro s s' p r hp h hr
  unfold rBind at h ⊢
  cases e : m s p with
  | error x =>
    rw [e] at h
    rw [hm s s' p _ hp e (fun h2 => by injection h2 with h2; subst h2; exact hr h.symm)]
    exact h
  | ok y =>
    rw [e] at h
    rw [hm s s' p _ hp e (by simp)]
    exact hf y.1 s s' y.2 r hp h hr
theorem Stable.when {c : Prop} [Decidable c] {e : Int} {m : Rd α} (hm : Stable m) : Stable (rWhen c e m) := by
  unfold rWhen; split
  · exact Stable.fail e
  · exact hm
theorem Adv.pure (a : α) : Adv (rPure a) := fun _ _ _ _ hp h => by
  unfold rPure at h; injection h with h; injection h with h1 h2; omega
theorem Adv.fail (e : Int) : Adv (rFail e : Rd α) := fun _ _ _ _ _ h => by unfold rFail at h; cases h
theorem Adv.bind {m : Rd α} {f : α → Rd β} (hm : Adv m) (hf : ∀ a, Adv (f a)) : Adv (rBind m f) := by
  intro s p a q hp h
  unfold rBind at h
  cases e : m s p with
  | error x => rw [e] at h; cases h
  | ok y =>
    rw [e] at h
    obtain ⟨h1, h2⟩ := hm s p y.1 y.2 hp e
    obtain ⟨h3, h4⟩ := hf y.1 s y.2 a q h2 h
    exact ⟨by omega, h4⟩
theorem Adv.when {c : Prop} [Decidable c] {e : Int} {m : Rd α} (hm : Adv m) : Adv (rWhen c e m) := by
  unfold rWhen; split
  · exact Adv.fail e
  · exact hm
end
theorem num_pre {s s' : ByteArray} (h : Pre s s') : ∃ k, num s'.data.toList = num s.data.toList + 256 ^ s.size * k := by
  obtain ⟨t, ht⟩ := h
  exact ⟨num t, by rw [← ht, num_append]; rfl⟩
theorem bits_pre {s s' : ByteArray} (h : Pre s s') {p : Nat} {n : Int} (he : bitsErr s p n ≠ 3) : bitsErr s' p n = bitsErr s p n ∧ bitsVal s' p n = bitsVal s p n ∧ bitsGo s' p n = bitsGo s p n := by
  have hs := h.size
  have he2 : bitsErr s' p n = bitsErr s p n := by
    unfold bitsErr at he ⊢
    by_cases h1 : n < 0 ∨ 24 < n
    · rw [if_pos h1, if_pos h1]
    · rw [if_neg h1] at he ⊢
      rw [if_neg h1]
      by_cases h2 : (8 * s.size - p : Nat) < n
      · rw [if_pos h2] at he; exact absurd rfl he
      · rw [if_neg h2, if_neg (by omega)]
  refine ⟨he2, ?_, by unfold bitsGo; rw [he2]⟩
  unfold bitsVal
  rw [he2]
  by_cases h0 : bitsErr s p n = 0
  · rw [if_pos h0, if_pos h0]
    by_cases hn0 : n.toNat = 0
    · rw [hn0, bitsAt_zero, bitsAt_zero]
    · have hb : p + n.toNat ≤ 8 * s.size := by
        unfold bitsErr at h0
        by_cases h1 : n < 0 ∨ 24 < n
        · rw [if_pos h1] at h0; omega
        · rw [if_neg h1] at h0
          by_cases h2 : (8 * s.size - p : Nat) < n
          · rw [if_pos h2] at h0; omega
          · omega
      obtain ⟨k, hk⟩ := num_pre h
      rw [hk, p256, ← bitsAt_mod _ p n.toNat _ hb, Nat.add_mul_mod_self_left, bitsAt_mod _ p n.toNat _ hb]
  · rw [if_neg h0, if_neg h0]
theorem bytes_pre {s s' : ByteArray} (h : Pre s s') {p : Nat} {n : Int} (he : bytesErr s p n ≠ 3) : bytesErr s' p n = bytesErr s p n ∧ bytesVal s' p n = bytesVal s p n ∧ bytesGo s' p n = bytesGo s p n := by
  have hs := h.size
  have he2 : bytesErr s' p n = bytesErr s p n := by
    unfold bytesErr at he ⊢
    by_cases h1 : n < 0
    · rw [if_pos h1, if_pos h1]
    · rw [if_neg h1] at he ⊢
      rw [if_neg h1]
      by_cases h2 : (s.size - (p + 7) / 8 : Nat) < n
      · rw [if_pos h2] at he; exact absurd rfl he
      · rw [if_neg h2, if_neg (by omega)]
  refine ⟨he2, ?_, by unfold bytesGo; rw [he2]⟩
  unfold bytesVal
  rw [he2]
  by_cases h0 : bytesErr s p n = 0
  · rw [if_pos h0, if_pos h0]
    have hb : n.toNat ≤ s.size - (p + 7) / 8 := by
      unfold bytesErr at h0
      by_cases h1 : n < 0
      · rw [if_pos h1] at h0; omega
      · rw [if_neg h1] at h0
        by_cases h2 : (s.size - (p + 7) / 8 : Nat) < n
        · rw [if_pos h2] at h0; omega
        · omega
    obtain ⟨t, ht⟩ := h
    have hz : s.data.toList.length = s.size := Array.length_toList
    congr 2
    rw [← ht]
    by_cases hp : (p + 7) / 8 ≤ s.size
    · rw [List.drop_append_of_le_length (by omega), List.take_append_of_le_length (by rw [List.length_drop]; omega)]
    · have : n.toNat = 0 := by omega
      rw [this, List.take_zero, List.take_zero]
  · rw [if_neg h0, if_neg h0]
theorem rBits_stable (n : Nat) : Stable (rBits n) := by
  intro s s' p r hp h hr
  unfold rBits at h ⊢
  by_cases he : bitsErr s p n = 3
  · rw [if_pos (by rw [he]; decide), he] at h; exact absurd h.symm hr
  · obtain ⟨h1, h2, h3⟩ := bits_pre hp he
    rw [h1, h2, h3]; exact h
theorem rBytes_stable (n : Nat) : Stable (rBytes n) := by
  intro s s' p r hp h hr
  unfold rBytes at h ⊢
  by_cases he : bytesErr s p n = 3
  · rw [if_pos (by rw [he]; decide), he] at h; exact absurd h.symm hr
  · obtain ⟨h1, h2, h3⟩ := bytes_pre hp he
    rw [h1, h2, h3]; exact h
theorem nextG_pre {s s' : ByteArray} (hp : Pre s s') (l : List Int) : ∀ f n c p, (nextG l s f n c p).2.1 ≠ 3 → nextG l s' f n c p = nextG l s f n c p
  | 0, _, _, _, _ => rfl
  | f + 1, n, c, p, h => by
    rw [nextG_succ] at h ⊢
    rw [nextG_succ]
    by_cases he : bitsErr s p 1 = 3
    · rw [if_pos (by rw [he]; decide), he] at h; exact absurd rfl h
    · obtain ⟨h1, h2, h3⟩ := bits_pre hp he
      rw [h1, h2, h3]
      by_cases h0 : bitsErr s p 1 ≠ 0
      · rw [if_pos h0, if_pos h0]
      · rw [if_neg h0] at h ⊢
        rw [if_neg h0]
        cases e : findS l n (2 * c + bitsVal s p 1) with
        | some i => rfl
        | none =>
          rw [e] at h
          exact nextG_pre hp l f (n + 1) _ _ h
theorem rNext_stable (l : List Int) : Stable (rNext l) := by
  intro s s' p r hp h hr
  unfold rNext at h ⊢
  by_cases he : (nextS l s p).2.1 = 3
  · rw [if_pos (by rw [he]; decide), he] at h; exact absurd h.symm hr
  · have e : nextS l s' p = nextS l s p := nextG_pre hp l _ _ _ _ he
    rw [e]; exact h
theorem bits_adv {s : ByteArray} {p : Nat} {n : Int} (hp : p ≤ 8 * s.size) (h0 : bitsErr s p n = 0) : p ≤ bitsGo s p n ∧ bitsGo s p n ≤ 8 * s.size ∧ bitsGo s p n = p + n.toNat := by
  unfold bitsGo
  rw [if_pos h0]
  unfold bitsErr at h0
  by_cases h1 : n < 0 ∨ 24 < n
  · rw [if_pos h1] at h0; omega
  · rw [if_neg h1] at h0
    by_cases h2 : (8 * s.size - p : Nat) < n
    · rw [if_pos h2] at h0; omega
    · omega
theorem rBits_adv (n : Nat) : Adv (rBits n) := by
  intro s p a q hp h
  unfold rBits at h
  by_cases h0 : bitsErr s p n = 0
  · rw [if_neg (by simpa using h0)] at h
    injection h with h; injection h with h1 h2
    subst h2
    have := bits_adv hp h0
    exact ⟨this.1, this.2.1⟩
  · rw [if_pos h0] at h; cases h
theorem rBytes_adv (n : Nat) : Adv (rBytes n) := by
  intro s p a q hp h
  unfold rBytes at h
  by_cases h0 : bytesErr s p n = 0
  · rw [if_neg (by simpa using h0)] at h
    injection h with h; injection h with h1 h2
    subst h2
    unfold bytesGo
    rw [if_neg (by omega), if_pos h0]
    unfold bytesErr at h0
    rw [if_neg (by omega)] at h0
    by_cases h2 : (s.size - (p + 7) / 8 : Nat) < (n : Int)
    · rw [if_pos h2] at h0; omega
    · omega
  · rw [if_pos h0] at h; cases h
theorem nextG_adv {s : ByteArray} (l : List Int) : ∀ f n c p, p ≤ 8 * s.size → (nextG l s f n c p).2.1 = 0 → p < (nextG l s f n c p).2.2 ∧ (nextG l s f n c p).2.2 ≤ 8 * s.size
  | 0, _, _, _, _, h => by rw [nextG_zero] at h; simp at h
  | f + 1, n, c, p, hp, h => by
    rw [nextG_succ] at h ⊢
    by_cases h0 : bitsErr s p 1 = 0
    · rw [if_neg (by simpa using h0)] at h ⊢
      obtain ⟨h1, h2, h3⟩ := bits_adv hp h0
      have h4 : bitsGo s p 1 = p + 1 := h3
      cases e : findS l n (2 * c + bitsVal s p 1) with
      | some i => exact ⟨by show p < bitsGo s p 1; omega, h2⟩
      | none =>
        rw [e] at h
        have := nextG_adv l f (n + 1) _ _ h2 h
        exact ⟨by have h5 := this.1; show p < (nextG l s f (n + 1) _ (bitsGo s p 1)).2.2; omega, this.2⟩
    · rw [if_pos h0] at h; exact absurd h h0
theorem rNext_adv' (l : List Int) {s : ByteArray} {p a q : Nat} (hp : p ≤ 8 * s.size) (h : rNext l s p = .ok (a, q)) : p < q ∧ q ≤ 8 * s.size := by
  unfold rNext at h
  by_cases h0 : (nextS l s p).2.1 = 0
  · rw [if_neg (by simpa using h0)] at h
    injection h with h; injection h with h1 h2
    subst h2
    exact nextG_adv l _ _ _ _ hp h0
  · rw [if_pos h0] at h; cases h
theorem rNext_adv (l : List Int) : Adv (rNext l) := fun s p a q hp h => by
  have := rNext_adv' l hp h; omega
end Go.Proofs.YtcllddfhppikhaaDoor
