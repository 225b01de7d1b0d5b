/- Plain laws of the coins of counts, sorted. -/
import Derived.Test.YtmafcmfafcjokaaSortM
namespace Go.Proofs.Ytmafcmfafcjokaa
/-- The coins of the symbols below k, in the order of the symbols. -/
def coins0 (l : List Int) : Nat → List (Nat × Nat)
  | 0 => []
  | k + 1 => if 0 < l.getD k 0 then coins0 l k ++ [(k, (l.getD k 0).toNat)] else coins0 l k
/-- Where a coin goes: behind all that are no more. -/
def spot (c : Nat) : List (Nat × Nat) → Nat
  | [] => 0
  | x :: cs => if x.2 ≤ c then spot c cs + 1 else 0
def ins (cs : List (Nat × Nat)) (c : Nat × Nat) : List (Nat × Nat) := cs.take (spot c.2 cs) ++ c :: cs.drop (spot c.2 cs)
/-- The coins of the symbols below k, sorted. -/
def csOf (l : List Int) : Nat → List (Nat × Nat)
  | 0 => []
  | k + 1 => if 0 < l.getD k 0 then ins (csOf l k) (k, (l.getD k 0).toNat) else csOf l k
theorem mem_coins0 {l : List Int} {x : Nat × Nat} : ∀ {k : Nat}, x ∈ coins0 l k ↔ x.1 < k ∧ 0 < l.getD x.1 0 ∧ x.2 = (l.getD x.1 0).toNat
  | 0 => by simp [coins0]
  | k + 1 => by
    rw [coins0]
    split
    · rename_i h
      rw [List.mem_append, mem_coins0, List.mem_singleton]
      constructor
      · rintro (⟨h1, h2, h3⟩ | rfl)
        · exact ⟨by omega, h2, h3⟩
        · exact ⟨by simp, h, rfl⟩
      · rintro ⟨h1, h2, h3⟩
        by_cases e : x.1 = k
        · right; cases x; simp at e h3 ⊢; subst e; exact ⟨rfl, h3⟩
        · left; exact ⟨by omega, h2, h3⟩
    · rename_i h
      rw [mem_coins0]
      constructor
      · rintro ⟨h1, h2, h3⟩; exact ⟨by omega, h2, h3⟩
      · rintro ⟨h1, h2, h3⟩
        refine ⟨?_, h2, h3⟩
        have : x.1 ≠ k := fun e => h (by rw [← e]; exact h2)
        omega
theorem coins0_asc (l : List Int) : ∀ k, (coins0 l k).Pairwise fun x y => x.1 < y.1
  | 0 => List.Pairwise.nil
  | k + 1 => by
    rw [coins0]; split
    · refine List.pairwise_append.2 ⟨coins0_asc l k, List.pairwise_singleton _ _, fun a ha b hb => ?_⟩
      have h1 := (mem_coins0.1 ha).1
      have : b = (k, (l.getD k 0).toNat) := by simpa using hb
      subst this; exact h1
    · exact coins0_asc l k
theorem length_coins0 (l : List Int) : ∀ k, (coins0 l k).length ≤ k
  | 0 => Nat.le_refl _
  | k + 1 => by rw [coins0]; have := length_coins0 l k; split <;> simp <;> omega
theorem spot_le (c : Nat) : ∀ cs : List (Nat × Nat), spot c cs ≤ cs.length
  | [] => Nat.le_refl _
  | x :: cs => by rw [spot]; have := spot_le c cs; split <;> simp; exact this
theorem spot_before (c : Nat) : ∀ (cs : List (Nat × Nat)) (i : Nat) (h : i < cs.length), i < spot c cs → cs[i].2 ≤ c
  | x :: cs, i, h, hi => by
    rw [spot] at hi
    split at hi
    · rename_i hx
      cases i with
      | zero => exact hx
      | succ i => exact spot_before c cs i (by simpa using h) (by omega)
    · omega
theorem spot_at (c : Nat) : ∀ (cs : List (Nat × Nat)) (h : spot c cs < cs.length), c < cs[spot c cs].2
  | x :: cs, h => by
    by_cases hx : x.2 ≤ c
    · have e : spot c (x :: cs) = spot c cs + 1 := by rw [spot, if_pos hx]
      simp only [e] at h ⊢
      simpa using spot_at c cs (by simpa using h)
    · have e : spot c (x :: cs) = 0 := by rw [spot, if_neg hx]
      simp only [e] at h ⊢
      simp; omega
theorem ins_perm (cs : List (Nat × Nat)) (c : Nat × Nat) : (ins cs c).Perm (cs ++ [c]) := by
  unfold ins
  have h := List.take_append_drop (spot c.2 cs) cs
  conv => rhs; rw [← h]
  rw [List.append_assoc]
  exact List.Perm.append_left _ (List.perm_append_singleton c _).symm
theorem ins_srt {cs : List (Nat × Nat)} {c : Nat × Nat} (h : Srt cs) (hc : ∀ x ∈ cs, x.1 < c.1) : Srt (ins cs c) := by
  unfold ins
  have hs : Srt (cs.take (spot c.2 cs) ++ cs.drop (spot c.2 cs)) := by rw [List.take_append_drop]; exact h
  have hp := List.pairwise_append.1 hs
  refine List.pairwise_append.2 ⟨hp.1, List.pairwise_cons.2 ⟨fun y hy => ?_, hp.2.1⟩, fun a ha b hb => ?_⟩
  · -- what stands behind is more
    have hlt : spot c.2 cs < cs.length := by
      apply Classical.byContradiction; intro hn
      rw [List.drop_of_length_le (by omega)] at hy; cases hy
    have hat := spot_at c.2 cs hlt
    rw [List.drop_eq_getElem_cons hlt] at hy
    rcases List.mem_cons.1 hy with rfl | hy
    · exact .inl hat
    · have h2 := hp.2.1
      rw [List.drop_eq_getElem_cons hlt] at h2
      have h3 := (List.pairwise_cons.1 h2).1 y hy
      left
      unfold lx at h3
      omega
  · rcases List.mem_cons.1 hb with rfl | hb
    · obtain ⟨i, hi, rfl⟩ := List.mem_take_iff_getElem.1 ha
      have h1 := spot_before b.2 cs i (by omega) (by omega)
      have h2 := hc _ (List.getElem_mem (show i < cs.length by omega))
      unfold lx; omega
    · exact hp.2.2 a ha b hb
theorem csOf_ok (l : List Int) : ∀ k, Srt (csOf l k) ∧ (csOf l k).Perm (coins0 l k)
  | 0 => ⟨List.Pairwise.nil, List.Perm.refl _⟩
  | k + 1 => by
    obtain ⟨h1, h2⟩ := csOf_ok l k
    rw [csOf, coins0]
    split
    · refine ⟨ins_srt h1 (fun x hx => (mem_coins0.1 (h2.mem_iff.1 hx)).1), (ins_perm _ _).trans (h2.append_right _)⟩
    · exact ⟨h1, h2⟩
theorem csOf_eq {l : List Int} {k : Nat} {S : List (Nat × Nat)} (h : Srt S) (hp : S.Perm (coins0 l k)) : S = csOf l k :=
  h.unique (csOf_ok l k).1 (hp.trans (csOf_ok l k).2.symm)
theorem mem_csOf {l : List Int} {x : Nat × Nat} {k : Nat} : x ∈ csOf l k ↔ x.1 < k ∧ 0 < l.getD x.1 0 ∧ x.2 = (l.getD x.1 0).toNat := by
  rw [(csOf_ok l k).2.mem_iff, mem_coins0]
theorem length_csOf (l : List Int) (k : Nat) : (csOf l k).length = (coins0 l k).length := (csOf_ok l k).2.length_eq
end Go.Proofs.Ytmafcmfafcjokaa
