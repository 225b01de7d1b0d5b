/- What Inflate tells: the plain side of the statements on what stands behind and on bounds. -/
import Derived.Test.YtcllddfhppikhaaDoorInfU
set_option linter.unusedVariables false
namespace Go.Proofs.YtcllddfhppikhaaDoor
set_option maxRecDepth 100000

/-- An error that is told is an error. -/
def Hard {α : Type} (m : Rd α) : Prop := ∀ s p, m s p ≠ .error 0
section
variable {α β : Type}
theorem Hard.pure (a : α) : Hard (rPure a) := fun _ _ h => by cases h
theorem Hard.fail {e : Int} (he : e ≠ 0) : Hard (rFail e : Rd α) := fun _ _ h => by
  unfold rFail at h; injection h with h; exact he h
theorem Hard.bind {m : Rd α} {f : α → Rd β} (hm : Hard m) (hf : ∀ a, Hard (f a)) : Hard (rBind m f) := fun s p h => by
  unfold rBind at h
  cases e : m s p with
  | error x => rw [e] at h; injection h with h; subst h; exact hm s p e
  | ok y => rw [e] at h; exact hf _ _ _ h
theorem Hard.when {c : Prop} [Decidable c] {e : Int} {m : Rd α} (he : c → e ≠ 0) (hm : Hard m) : Hard (rWhen c e m) := by
  unfold rWhen
  split
  · rename_i h; exact Hard.fail (he h)
  · exact hm
theorem Hard.ite {c : Prop} [Decidable c] {m k : Rd α} (hm : Hard m) (hk : Hard k) : Hard (if c then m else k) := by
  split
  · exact hm
  · exact hk
theorem rBits_hard (n : Nat) : Hard (rBits n) := fun s p h => by
  unfold rBits at h
  by_cases h0 : bitsErr s p n = 0
  · rw [if_neg (by simpa using h0)] at h; cases h
  · rw [if_pos h0] at h; injection h with h; exact h0 h
theorem rBytes_hard (n : Nat) : Hard (rBytes n) := fun s p h => by
  unfold rBytes at h
  by_cases h0 : bytesErr s p n = 0
  · rw [if_neg (by simpa using h0)] at h; cases h
  · rw [if_pos h0] at h; injection h with h; exact h0 h
theorem rNext_hard (l : List Int) : Hard (rNext l) := fun s p h => by
  unfold rNext at h
  by_cases h0 : (nextS l s p).2.1 = 0
  · rw [if_neg (by simpa using h0)] at h; cases h
  · rw [if_pos h0] at h; injection h with h; exact h0 h
end
theorem symG_hard (l d : List Int) (most : Int) : ∀ f out, Hard (symG l d most f out)
  | 0, _ => Hard.fail (by decide)
  | f + 1, out => Hard.bind (rNext_hard l) fun t => Hard.ite (Hard.pure _) (Hard.ite (Hard.when (fun _ => by decide) (symG_hard l d most f _)) (Hard.when (fun _ => by decide) (Hard.bind (rBits_hard _) fun x => Hard.bind (rNext_hard d) fun u =>
      Hard.when (fun _ => by decide) (Hard.bind (rBits_hard _) fun y => Hard.when (fun _ => by decide) (Hard.when (fun _ => by decide) (symG_hard l d most f _))))))
theorem lenG_hard (small : List Int) (total : Nat) : ∀ f acc, Hard (lenG small total f acc)
  | 0, _ => Hard.fail (by decide)
  | f + 1, acc => by
    refine Hard.ite (Hard.pure _) (Hard.bind (rNext_hard small) fun t => Hard.ite (lenG_hard small total f _) (Hard.ite (Hard.when (fun _ => by decide) ?_) (Hard.ite ?_ ?_)))
    all_goals exact Hard.bind (rBits_hard _) fun x => Hard.when (fun _ => by decide) (lenG_hard small total f _)
theorem smallG_hard : ∀ (ks : List Nat) (a : List Int), Hard (smallG ks a)
  | [], a => Hard.pure a
  | k :: ks, a => Hard.bind (rBits_hard 3) fun v => smallG_hard ks _
theorem blockR_hard (most : Int) (F kind : Nat) (out : List UInt8) : Hard (blockR most F kind out) := by
  unfold blockR
  refine Hard.ite (Hard.bind (rBytes_hard 2) fun a => Hard.bind (rBytes_hard 2) fun b => Hard.when (fun _ => by decide) (Hard.bind (rBytes_hard _) fun x => Hard.when (fun _ => by decide) (Hard.pure _))) (Hard.ite (Hard.when id (Hard.when id (symG_hard _ _ _ _ _))) (Hard.ite ?_ (Hard.fail (by decide))))
  exact Hard.bind (rBits_hard 5) fun a => Hard.bind (rBits_hard 5) fun b => Hard.bind (rBits_hard 4) fun c => Hard.bind (smallG_hard _ _) fun small =>
    Hard.when id (Hard.bind (lenG_hard _ _ _ _) fun ls => Hard.when id (Hard.when id (symG_hard _ _ _ _ _)))
theorem blkG_hard (most : Int) (F : Nat) : ∀ f out, Hard (blkG most F f out)
  | 0, _ => Hard.fail (by decide)
  | f + 1, out => Hard.bind (rBits_hard 1) fun last => Hard.bind (rBits_hard 2) fun kind => Hard.bind (blockR_hard most F kind out) fun out' => Hard.ite (Hard.pure _) (blkG_hard most F f out')
section
variable {s s' s1 : ByteArray} {most M : Int}
theorem infl_open (s : ByteArray) (most : Int) : (∃ a q, inflS s most = .ok (a, q) ∧ inflT s most = (a, (q + 7) / 8, 0)) ∨ (∃ e, e ≠ 0 ∧ inflS s most = .error e ∧ inflT s most = ([], 0, e)) := by
  cases h : inflS s most with
  | ok y => left; exact ⟨y.1, y.2, rfl, inflT_ok h⟩
  | error e => right; exact ⟨e, fun e0 => blkG_hard most _ _ _ s 0 (by subst e0; exact h), rfl, inflT_err h⟩
theorem inflT_end (h : (inflT s most).2.2 = 3) : inflT s most = ([], 0, 3) := by
  rcases infl_open s most with ⟨a, q, _, e⟩ | ⟨x, _, _, e⟩
  · rw [e] at h; simp at h
  · rw [e] at h; have h2 : x = 3 := h
    rw [e, h2]
theorem inflT_front (hp : Pre s s') (h : (inflT s most).2.2 ≠ 3) : inflT s' most = inflT s most := by
  have hs : inflS s most ≠ .error 3 := fun e => h (by rw [inflT_err e])
  have := infl_front hp most hs
  unfold inflT; rw [this]
theorem inflT_size : (inflT s most).2.1 ≤ s.size ∧ ((inflT s most).1.length : Int) ≤ max most 0 := by
  rcases infl_open s most with ⟨a, q, h, e⟩ | ⟨x, _, _, e⟩
  · rw [e]
    have h1 := infl_within h
    have h2 := infl_most h
    refine ⟨by dsimp only; omega, ?_⟩
    rcases h2 with h2 | h2
    · dsimp only; omega
    · subst h2; simp; omega
  · rw [e]; exact ⟨Nat.zero_le _, by simp; omega⟩
theorem inflT_cut (h : (inflT s most).2.2 = 0) (hp : Pre s1 s) (hk : s1.size < (inflT s most).2.1) : (inflT s1 most).2.2 = 3 := by
  rcases infl_open s most with ⟨a, q, h1, e⟩ | ⟨x, hx, _, e⟩
  · rw [e] at hk
    rw [inflT_err (infl_cut h1 hp hk)]
  · rw [e] at h; exact absurd h hx
/-- A greater bound makes no difference. -/
theorem inflT_room (h : (inflT s M).2.2 = 0) (hm : ((inflT s M).1.length : Int) ≤ most) : inflT s most = inflT s M := by
  rcases infl_open s M with ⟨a, q, h1, e⟩ | ⟨x, hx, _, e⟩
  · rw [e] at hm ⊢
    rcases infl_bound (most := most) h1 with ⟨h2, _⟩ | ⟨_, h2⟩
    · exact inflT_ok h2
    · dsimp only at hm; omega
  · rw [e] at h; exact absurd h hx
/-- A bound that is met refuses the stream. -/
theorem inflT_big (h : (inflT s M).2.2 = 0) (h0 : 0 < (inflT s M).1.length) (hm : most < ((inflT s M).1.length : Int)) : (inflT s most).2.2 = 5 := by
  rcases infl_open s M with ⟨a, q, h1, e⟩ | ⟨x, hx, _, e⟩
  · rw [e] at h0 hm
    dsimp only at h0 hm
    rcases infl_bound (most := most) h1 with ⟨_, h2⟩ | ⟨h2, _⟩
    · rcases h2 with h2 | h2
      · omega
      · subst h2; simp at h0
    · rw [inflT_err h2]
  · rw [e] at h; exact absurd h hx
end
end Go.Proofs.YtcllddfhppikhaaDoor
