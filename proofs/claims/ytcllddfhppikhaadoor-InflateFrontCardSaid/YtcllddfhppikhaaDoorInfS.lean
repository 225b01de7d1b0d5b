/- What a stream says: the plain function, and its plain laws: what stands behind, streams that are cut off, bounds. -/
import Derived.Test.YtcllddfhppikhaaDoorInfM
set_option linter.unusedVariables false
namespace Go.Proofs.YtcllddfhppikhaaDoor
set_option maxRecDepth 100000

def lenBits (t : Nat) : Nat := if t < 265 ∨ t = 285 then 0 else (t - 261) / 4
def lenBase (t : Nat) : Nat := if t = 285 then 258 else 3 + ((List.range (t - 257)).map fun k => 2 ^ lenBits (257 + k)).sum
def dstBits (t : Nat) : Nat := if t < 4 then 0 else t / 2 - 1
def dstBase (t : Nat) : Nat := 1 + ((List.range t).map fun k => 2 ^ dstBits k).sum
/-- A match: byte by byte. -/
def matchOut (far : Nat) : Nat → List UInt8 → List UInt8
  | 0, out => out
  | n + 1, out => matchOut far n (out ++ [out.getD (out.length - far) 0])
theorem length_matchOut (far : Nat) : ∀ n out, (matchOut far n out).length = out.length + n
  | 0, _ => rfl
  | n + 1, out => by rw [matchOut, length_matchOut far n]; simp; omega
def wordOf (a : ByteArray) : Nat := (a.data.toList.getD 0 0).toNat + 256 * (a.data.toList.getD 1 0).toNat
def storedR (most : Int) (out : List UInt8) : Rd (List UInt8) :=
  rBind (rBytes 2) fun a => rBind (rBytes 2) fun b => rWhen (wordOf b ≠ 65535 - wordOf a) 14 (rBind (rBytes (wordOf a)) fun x =>
    rWhen (most < (out.length : Int) + (wordOf a : Nat)) 5 (rPure (out ++ x.data.toList)))
/-- A block of symbols. -/
def symG (l d : List Int) (most : Int) : Nat → List UInt8 → Rd (List UInt8)
  | 0, _ => rFail 3
  | f + 1, out => rBind (rNext l) fun t =>
    if t = 256 then rPure out else
    if t < 256 then rWhen (most < (out.length : Int) + 1) 5 (symG l d most f (out ++ [UInt8.ofNat t])) else
    rWhen (285 < t) 12 (rBind (rBits (lenBits t)) fun x => rBind (rNext d) fun u => rWhen (29 < u) 12 (rBind (rBits (dstBits u)) fun y =>
      rWhen (out.length < dstBase u + y) 15 (rWhen (most < (out.length : Int) + ((lenBase t + x : Nat) : Int)) 5 (symG l d most f (matchOut (dstBase u + y) (lenBase t + x) out)))))
def tablesR {α : Type} (l d : List Int) (m : Rd α) : Rd α := rWhen (chk l ≠ 0) (chk l) (rWhen (chk d ≠ 0) (chk d) m)
def fixL : List Int := List.replicate 144 8 ++ List.replicate 112 9 ++ List.replicate 24 7 ++ List.replicate 8 8
def fixD : List Int := List.replicate 32 5
def ordS : List Nat := [16, 17, 18, 0, 8, 7, 9, 6, 10, 5, 11, 4, 12, 3, 13, 2, 14, 1, 15]
def smallG : List Nat → List Int → Rd (List Int)
  | [], a => rPure a
  | k :: ks, a => rBind (rBits 3) fun v => smallG ks (a.set k (v : Nat))
/-- The lengths that are told in the small code. -/
def lenG (small : List Int) (total : Nat) : Nat → List Int → Rd (List Int)
  | 0, _ => rFail 3
  | f + 1, acc => if total ≤ acc.length then rPure acc else rBind (rNext small) fun t =>
    if t < 16 then lenG small total f (acc ++ [(t : Int)]) else
    if t = 16 then rWhen (acc.length = 0) 12 (rBind (rBits 2) fun x => rWhen (total < acc.length + (3 + x)) 12 (lenG small total f (acc ++ List.replicate (3 + x) (acc.getD (acc.length - 1) 0)))) else
    if t = 17 then rBind (rBits 3) fun x => rWhen (total < acc.length + (3 + x)) 12 (lenG small total f (acc ++ List.replicate (3 + x) 0)) else
    rBind (rBits 7) fun x => rWhen (total < acc.length + (11 + x)) 12 (lenG small total f (acc ++ List.replicate (11 + x) 0))
def dynR (most : Int) (F : Nat) (out : List UInt8) : Rd (List UInt8) :=
  rBind (rBits 5) fun a => rBind (rBits 5) fun b => rBind (rBits 4) fun c => rBind (smallG (ordS.take (c + 4)) (List.replicate 19 0)) fun small =>
    rWhen (chk small ≠ 0) (chk small) (rBind (lenG small (a + 257 + (b + 1)) F []) fun ls =>
      tablesR (ls.take (a + 257)) (ls.drop (a + 257)) (symG (ls.take (a + 257)) (ls.drop (a + 257)) most F out))
def blockR (most : Int) (F kind : Nat) (out : List UInt8) : Rd (List UInt8) :=
  if kind = 0 then storedR most out else if kind = 1 then tablesR fixL fixD (symG fixL fixD most F out) else if kind = 2 then dynR most F out else rFail 13
/-- Blocks up to the last one. -/
def blkG (most : Int) (F : Nat) : Nat → List UInt8 → Rd (List UInt8)
  | 0, _ => rFail 3
  | f + 1, out => rBind (rBits 1) fun last => rBind (rBits 2) fun kind => rBind (blockR most F kind out) fun out' => if last ≠ 0 then rPure out' else blkG most F f out'
def inflS (s : ByteArray) (most : Int) : Except Int (List UInt8 × Nat) := blkG most (8 * s.size + 1) (8 * s.size + 1) [] s 0

/-! What stands behind. -/
def Under {α : Type} (m m' : Rd α) : Prop := ∀ s s' p r, Pre s s' → m s p = r → r ≠ .error 3 → m' s' p = r
section
variable {α β : Type}
theorem Stable.under {m : Rd α} (h : Stable m) : Under m m := h
theorem Under.none (m : Rd α) : Under (rFail 3) m := fun _ _ _ _ _ h hr => absurd h.symm hr
theorem Under.bind {m m' : Rd α} {f f' : α → Rd β} (hm : Under m m') (hf : ∀ a, Under (f a) (f' a)) : Under (rBind m f) (rBind m' f') := by
  intro s s' p r hp h hr
  unfold rBind at h ⊢
  cases e : m s p with
  | error x =>
    rw [e] at h
    rw [hm s s' p _ hp e (fun h2 => by injection h2 with h2; subst h2; exact hr h.symm)]
    exact h
  | ok y =>
    rw [e] at h
    rw [hm s s' p _ hp e (by simp)]
    exact hf y.1 s s' y.2 r hp h hr
theorem Under.when {c : Prop} [Decidable c] {e : Int} {m m' : Rd α} (hm : Under m m') : Under (rWhen c e m) (rWhen c e m') := by
  unfold rWhen; split
  · exact Stable.fail e
  · exact hm
theorem Under.ite {c : Prop} [Decidable c] {m m' k k' : Rd α} (hm : Under m m') (hk : Under k k') : Under (if c then m else k) (if c then m' else k') := by
  split
  · exact hm
  · exact hk
end
theorem symG_under (l d : List Int) (most : Int) : ∀ f f' out, f ≤ f' → Under (symG l d most f out) (symG l d most f' out)
  | 0, _, _, _ => Under.none _
  | f + 1, f' + 1, out, h => by
    refine Under.bind (rNext_stable l).under fun t => Under.ite (Stable.pure _) (Under.ite (Under.when (symG_under l d most f f' _ (by omega))) (Under.when ?_))
    exact Under.bind (rBits_stable _).under fun x => Under.bind (rNext_stable d).under fun u => Under.when (Under.bind (rBits_stable _).under fun y => Under.when (Under.when (symG_under l d most f f' _ (by omega))))
theorem lenG_under (small : List Int) (total : Nat) : ∀ f f' acc, f ≤ f' → Under (lenG small total f acc) (lenG small total f' acc)
  | 0, _, _, _ => Under.none _
  | f + 1, f' + 1, acc, h => by
    refine Under.ite (Stable.pure _) (Under.bind (rNext_stable small).under fun t => Under.ite (lenG_under small total f f' _ (by omega)) (Under.ite (Under.when ?_) (Under.ite ?_ ?_)))
    all_goals exact Under.bind (rBits_stable _).under fun x => Under.when (lenG_under small total f f' _ (by omega))
theorem smallG_stable : ∀ (ks : List Nat) (a : List Int), Stable (smallG ks a)
  | [], a => Stable.pure a
  | k :: ks, a => Stable.bind (rBits_stable 3) fun v => smallG_stable ks _
theorem storedR_stable (most : Int) (out : List UInt8) : Stable (storedR most out) :=
  Stable.bind (rBytes_stable 2) fun a => Stable.bind (rBytes_stable 2) fun b => Stable.when (Stable.bind (rBytes_stable _) fun x => Stable.when (Stable.pure _))
theorem blockR_under (most : Int) {F F' : Nat} (h : F ≤ F') (kind : Nat) (out : List UInt8) : Under (blockR most F kind out) (blockR most F' kind out) := by
  unfold blockR
  refine Under.ite (storedR_stable most out).under (Under.ite (Under.when (Under.when (symG_under _ _ _ _ _ _ h))) (Under.ite ?_ (Stable.fail 13)))
  exact Under.bind (rBits_stable 5).under fun a => Under.bind (rBits_stable 5).under fun b => Under.bind (rBits_stable 4).under fun c => Under.bind (smallG_stable _ _).under fun small =>
    Under.when (Under.bind (lenG_under _ _ _ _ _ h) fun ls => Under.when (Under.when (symG_under _ _ _ _ _ _ h)))
theorem blkG_under (most : Int) {F F' : Nat} (hF : F ≤ F') : ∀ f f' out, f ≤ f' → Under (blkG most F f out) (blkG most F' f' out)
  | 0, _, _, _ => Under.none _
  | f + 1, f' + 1, out, h =>
    Under.bind (rBits_stable 1).under fun last => Under.bind (rBits_stable 2).under fun kind => Under.bind (blockR_under most hF kind out) fun out' => Under.ite (Stable.pure _) (blkG_under most hF f f' out' (by omega))
/-- What stands behind a stream makes no difference. -/
theorem infl_front {s s' : ByteArray} (h : Pre s s') (most : Int) (he : inflS s most ≠ .error 3) : inflS s' most = inflS s most :=
  blkG_under most (by have := h.size; omega) _ _ _ (by have := h.size; omega) s s' 0 _ h rfl he

/-! Reading stays within the bytes. -/
theorem Adv.ite {α : Type} {c : Prop} [Decidable c] {m k : Rd α} (hm : Adv m) (hk : Adv k) : Adv (if c then m else k) := by
  split
  · exact hm
  · exact hk
theorem symG_adv (l d : List Int) (most : Int) : ∀ f out, Adv (symG l d most f out)
  | 0, _ => Adv.fail 3
  | f + 1, out => Adv.bind (rNext_adv l) fun t => Adv.ite (Adv.pure _) (Adv.ite (Adv.when (symG_adv l d most f _)) (Adv.when (Adv.bind (rBits_adv _) fun x => Adv.bind (rNext_adv d) fun u =>
      Adv.when (Adv.bind (rBits_adv _) fun y => Adv.when (Adv.when (symG_adv l d most f _))))))
theorem lenG_adv (small : List Int) (total : Nat) : ∀ f acc, Adv (lenG small total f acc)
  | 0, _ => Adv.fail 3
  | f + 1, acc => by
    refine Adv.ite (Adv.pure _) (Adv.bind (rNext_adv small) fun t => Adv.ite (lenG_adv small total f _) (Adv.ite (Adv.when ?_) (Adv.ite ?_ ?_)))
    all_goals exact Adv.bind (rBits_adv _) fun x => Adv.when (lenG_adv small total f _)
theorem smallG_adv : ∀ (ks : List Nat) (a : List Int), Adv (smallG ks a)
  | [], a => Adv.pure a
  | k :: ks, a => Adv.bind (rBits_adv 3) fun v => smallG_adv ks _
theorem blockR_adv (most : Int) (F kind : Nat) (out : List UInt8) : Adv (blockR most F kind out) := by
  unfold blockR
  refine Adv.ite (Adv.bind (rBytes_adv 2) fun a => Adv.bind (rBytes_adv 2) fun b => Adv.when (Adv.bind (rBytes_adv _) fun x => Adv.when (Adv.pure _))) (Adv.ite (Adv.when (Adv.when (symG_adv _ _ _ _ _))) (Adv.ite ?_ (Adv.fail 13)))
  exact Adv.bind (rBits_adv 5) fun a => Adv.bind (rBits_adv 5) fun b => Adv.bind (rBits_adv 4) fun c => Adv.bind (smallG_adv _ _) fun small =>
    Adv.when (Adv.bind (lenG_adv _ _ _ _) fun ls => Adv.when (Adv.when (symG_adv _ _ _ _ _)))
theorem blkG_adv (most : Int) (F : Nat) : ∀ f out, Adv (blkG most F f out)
  | 0, _ => Adv.fail 3
  | f + 1, out => Adv.bind (rBits_adv 1) fun last => Adv.bind (rBits_adv 2) fun kind => Adv.bind (blockR_adv most F kind out) fun out' => Adv.ite (Adv.pure _) (blkG_adv most F f out')
theorem infl_within {s : ByteArray} {most : Int} {a : List UInt8} {q : Nat} (h : inflS s most = .ok (a, q)) : q ≤ 8 * s.size := (blkG_adv most _ _ _ s 0 a q (Nat.zero_le _) h).2
/-- A stream that is cut off is told to end too early. -/
theorem infl_cut {s s1 : ByteArray} {most : Int} {a : List UInt8} {q : Nat} (h : inflS s most = .ok (a, q)) (hp : Pre s1 s) (hk : s1.size < (q + 7) / 8) : inflS s1 most = .error 3 := by
  apply Classical.byContradiction; intro hc
  have := infl_front hp most hc
  rw [h] at this
  have := infl_within this.symm
  omega

/-! Bounds. -/
def Grow (most : Int) (out : List UInt8) (m : Rd (List UInt8)) : Prop := ∀ s p a q, m s p = .ok (a, q) → out.length ≤ a.length ∧ ((a.length : Int) ≤ most ∨ a = out)
/-- With a lower bound: the same, or too great. -/
def Cmp (most : Int) (out : List UInt8) (m m' : Rd (List UInt8)) : Prop := ∀ s p a q, m s p = .ok (a, q) → (m' s p = .ok (a, q) ∧ ((a.length : Int) ≤ most ∨ a = out)) ∨ (m' s p = .error 5 ∧ most < (a.length : Int))
section
variable {α : Type} {most : Int} {out : List UInt8}
theorem ok_bind {β : Type} {m : Rd α} {f : α → Rd β} {s : ByteArray} {p : Nat} {r : β × Nat} (h : rBind m f s p = .ok r) : ∃ y, m s p = .ok y ∧ f y.1 s y.2 = .ok r := by
  unfold rBind at h
  cases e : m s p with
  | error x => rw [e] at h; cases h
  | ok y => rw [e] at h; exact ⟨y, rfl, h⟩
theorem ok_when {c : Prop} [Decidable c] {e : Int} {m : Rd α} {s : ByteArray} {p : Nat} {r : α × Nat} (h : rWhen c e m s p = .ok r) : ¬ c ∧ m s p = .ok r := by
  unfold rWhen at h
  by_cases hc : c
  · rw [if_pos hc] at h; cases h
  · rw [if_neg hc] at h; exact ⟨hc, h⟩
theorem bind_ok {β : Type} {m : Rd α} {f : α → Rd β} {s : ByteArray} {p : Nat} {y : α × Nat} (h : m s p = .ok y) : rBind m f s p = f y.1 s y.2 := by unfold rBind; rw [h]
theorem when_not {c : Prop} [Decidable c] {e : Int} {m : Rd α} {s : ByteArray} {p : Nat} (h : ¬ c) : rWhen c e m s p = m s p := by unfold rWhen; rw [if_neg h]
theorem when_yes {c : Prop} [Decidable c] {e : Int} {m : Rd α} {s : ByteArray} {p : Nat} (h : c) : rWhen c e m s p = .error e := by unfold rWhen; rw [if_pos h]; rfl
theorem Grow.bind {m : Rd α} {f : α → Rd (List UInt8)} (hf : ∀ a, Grow most out (f a)) : Grow most out (rBind m f) := fun s p a q h => by
  obtain ⟨y, _, h2⟩ := ok_bind h
  exact hf _ _ _ _ _ h2
theorem Grow.when {c : Prop} [Decidable c] {e : Int} {m : Rd (List UInt8)} (hm : ¬ c → Grow most out m) : Grow most out (rWhen c e m) := fun s p a q h => by
  obtain ⟨hc, h2⟩ := ok_when h
  exact hm hc _ _ _ _ h2
theorem Grow.ite {c : Prop} [Decidable c] {m k : Rd (List UInt8)} (hm : Grow most out m) (hk : Grow most out k) : Grow most out (if c then m else k) := by
  split
  · exact hm
  · exact hk
theorem Grow.fail (e : Int) : Grow most out (rFail e) := fun s p a q h => by cases h
theorem Grow.pure : Grow most out (rPure out) := fun s p a q h => by
  unfold rPure at h; injection h with h; injection h with h1 h2
  subst h1; exact ⟨Nat.le_refl _, .inr rfl⟩
theorem Grow.step {out' : List UInt8} {m : Rd (List UInt8)} (hl : out.length ≤ out'.length) (hm : (out'.length : Int) ≤ most) (h : Grow most out' m) : Grow most out m := fun s p a q e => by
  obtain ⟨h1, h2⟩ := h s p a q e
  refine ⟨by omega, ?_⟩
  rcases h2 with h2 | h2
  · exact .inl h2
  · subst h2; exact .inl hm
theorem Cmp.bind {m : Rd α} {f f' : α → Rd (List UInt8)} (hf : ∀ a, Cmp most out (f a) (f' a)) : Cmp most out (rBind m f) (rBind m f') := fun s p a q h => by
  obtain ⟨y, h1, h2⟩ := ok_bind h
  rw [bind_ok h1]
  exact hf _ _ _ _ _ h2
theorem Cmp.when {c : Prop} [Decidable c] {e : Int} {m m' : Rd (List UInt8)} (hm : Cmp most out m m') : Cmp most out (rWhen c e m) (rWhen c e m') := fun s p a q h => by
  obtain ⟨hc, h2⟩ := ok_when h
  rw [when_not hc]
  exact hm _ _ _ _ h2
theorem Cmp.ite {c : Prop} [Decidable c] {m m' k k' : Rd (List UInt8)} (hm : Cmp most out m m') (hk : Cmp most out k k') : Cmp most out (if c then m else k) (if c then m' else k') := by
  split
  · exact hm
  · exact hk
theorem Cmp.fail (e : Int) (m' : Rd (List UInt8)) : Cmp most out (rFail e) m' := fun s p a q h => by cases h
theorem Cmp.pure : Cmp most out (rPure out) (rPure out) := fun s p a q h => by
  have h' := h
  unfold rPure at h; injection h with h; injection h with h1 h2
  subst h1; exact .inl ⟨h', .inr rfl⟩
/-- Where the bound is asked. -/
theorem Cmp.guard {out' : List UInt8} {k M : Int} {m m' : Rd (List UInt8)} (hl : (out'.length : Int) = k) (hg : Grow M out' m) (h : Cmp most out' m m') : Cmp most out (rWhen (M < k) 5 m) (rWhen (most < k) 5 m') := fun s p a q e => by
  obtain ⟨hc, h2⟩ := ok_when e
  by_cases hm : most < k
  · rw [when_yes hm]
    have := (hg _ _ _ _ h2).1
    exact .inr ⟨rfl, by omega⟩
  · rw [when_not hm]
    rcases h _ _ _ _ h2 with ⟨h3, h4⟩ | h3
    · refine .inl ⟨h3, ?_⟩
      rcases h4 with h4 | h4
      · exact .inl h4
      · subst h4; exact .inl (by omega)
    · exact .inr h3
end
theorem symG_grow (l d : List Int) (most : Int) : ∀ f out, Grow most out (symG l d most f out)
  | 0, _ => Grow.fail 3
  | f + 1, out => by
    refine Grow.bind fun t => Grow.ite Grow.pure (Grow.ite (Grow.when fun hc => ?_) (Grow.when fun _ => Grow.bind fun x => Grow.bind fun u => Grow.when fun _ => Grow.bind fun y => Grow.when fun _ => Grow.when fun hc => ?_))
    · exact Grow.step (by simp) (by simp; omega) (symG_grow l d most f _)
    · exact Grow.step (by rw [length_matchOut]; omega) (by rw [length_matchOut]; omega) (symG_grow l d most f _)
theorem symG_cmp (l d : List Int) (M most : Int) : ∀ f out, Cmp most out (symG l d M f out) (symG l d most f out)
  | 0, _ => Cmp.fail 3 _
  | f + 1, out => by
    refine Cmp.bind fun t => Cmp.ite Cmp.pure (Cmp.ite ?_ (Cmp.when (Cmp.bind fun x => Cmp.bind fun u => Cmp.when (Cmp.bind fun y => Cmp.when ?_))))
    · exact Cmp.guard (by simp) (symG_grow l d M f _) (symG_cmp l d M most f _)
    · exact Cmp.guard (by rw [length_matchOut]; omega) (symG_grow l d M f _) (symG_cmp l d M most f _)
theorem bytes_len {s : ByteArray} {p n : Nat} {x : ByteArray} {q : Nat} (h : rBytes n s p = .ok (x, q)) : x.data.toList.length = n := by
  unfold rBytes at h
  by_cases h0 : bytesErr s p n = 0
  · rw [if_neg (by simpa using h0)] at h
    injection h with h; injection h with h1 h2
    subst h1
    unfold bytesVal
    rw [if_pos h0]
    unfold bytesErr at h0
    rw [if_neg (by omega)] at h0
    by_cases h2 : (s.size - (p + 7) / 8 : Nat) < (n : Int)
    · rw [if_pos h2] at h0; omega
    · have hz : s.data.toList.length = s.size := Array.length_toList
      show ((s.data.toList.drop ((p + 7) / 8)).take (n : Int).toNat).length = n
      rw [List.length_take, List.length_drop, Int.toNat_natCast]; omega
  · rw [if_pos h0] at h; cases h
theorem storedR_grow (most : Int) (out : List UInt8) : Grow most out (storedR most out) := by
  refine Grow.bind fun a => Grow.bind fun b => Grow.when fun _ => fun s p r q h => ?_
  obtain ⟨y, h1, h2⟩ := ok_bind h
  obtain ⟨hc, h3⟩ := ok_when h2
  have hl := bytes_len h1
  unfold rPure at h3; injection h3 with h3; injection h3 with h4 h5
  subst h4
  rw [List.length_append, hl]
  exact ⟨by omega, .inl (by omega)⟩
theorem storedR_cmp (M most : Int) (out : List UInt8) : Cmp most out (storedR M out) (storedR most out) := by
  refine Cmp.bind fun a => Cmp.bind fun b => Cmp.when fun s p r q h => ?_
  obtain ⟨y, h1, h2⟩ := ok_bind h
  obtain ⟨hc, h3⟩ := ok_when h2
  have hl := bytes_len h1
  rw [bind_ok h1]
  have h3' := h3
  unfold rPure at h3; injection h3 with h3; injection h3 with h4 h5
  subst h4
  by_cases hm : most < (out.length : Int) + (wordOf a : Nat)
  · rw [when_yes hm]; exact .inr ⟨rfl, by rw [List.length_append, hl]; omega⟩
  · rw [when_not hm]; exact .inl ⟨h3', .inl (by rw [List.length_append, hl]; omega)⟩
theorem blockR_grow (most : Int) (F kind : Nat) (out : List UInt8) : Grow most out (blockR most F kind out) := by
  unfold blockR
  refine Grow.ite (storedR_grow most out) (Grow.ite (Grow.when fun _ => Grow.when fun _ => symG_grow _ _ _ _ _) (Grow.ite ?_ (Grow.fail 13)))
  exact Grow.bind fun a => Grow.bind fun b => Grow.bind fun c => Grow.bind fun small => Grow.when fun _ => Grow.bind fun ls => Grow.when fun _ => Grow.when fun _ => symG_grow _ _ _ _ _
theorem blockR_cmp (M most : Int) (F kind : Nat) (out : List UInt8) : Cmp most out (blockR M F kind out) (blockR most F kind out) := by
  unfold blockR
  refine Cmp.ite (storedR_cmp M most out) (Cmp.ite (Cmp.when (Cmp.when (symG_cmp _ _ _ _ _ _))) (Cmp.ite ?_ (Cmp.fail 13 _)))
  exact Cmp.bind fun a => Cmp.bind fun b => Cmp.bind fun c => Cmp.bind fun small => Cmp.when (Cmp.bind fun ls => Cmp.when (Cmp.when (symG_cmp _ _ _ _ _ _)))
theorem blkG_grow (most : Int) (F : Nat) : ∀ f out, Grow most out (blkG most F f out)
  | 0, _ => Grow.fail 3
  | f + 1, out => Grow.bind fun last => Grow.bind fun kind => fun s p a q h => by
    obtain ⟨y, h1, h2⟩ := ok_bind h
    obtain ⟨g1, g2⟩ := blockR_grow most F kind out _ _ _ _ h1
    have h3 : Grow most y.1 (if last ≠ 0 then rPure y.1 else blkG most F f y.1) := Grow.ite Grow.pure (blkG_grow most F f y.1)
    obtain ⟨g3, g4⟩ := h3 _ _ _ _ h2
    refine ⟨by omega, ?_⟩
    rcases g4 with g4 | g4
    · exact .inl g4
    · rw [g4]; exact g2
theorem blkG_cmp (M most : Int) (F : Nat) : ∀ f out, Cmp most out (blkG M F f out) (blkG most F f out)
  | 0, _ => Cmp.fail 3 _
  | f + 1, out => Cmp.bind fun last => Cmp.bind fun kind => fun s p a q h => by
    obtain ⟨y, h1, h2⟩ := ok_bind h
    have h3 : Cmp most y.1 (if last ≠ 0 then rPure y.1 else blkG M F f y.1) (if last ≠ 0 then rPure y.1 else blkG most F f y.1) := Cmp.ite Cmp.pure (blkG_cmp M most F f y.1)
    have g3 : Grow M y.1 (if last ≠ 0 then rPure y.1 else blkG M F f y.1) := Grow.ite Grow.pure (blkG_grow M F f y.1)
    have gl := (g3 _ _ _ _ h2).1
    rcases blockR_cmp M most F kind out _ _ _ _ h1 with ⟨e1, e2⟩ | ⟨e1, e2⟩
    · rw [bind_ok e1]
      rcases h3 _ _ _ _ h2 with ⟨k1, k2⟩ | k
      · refine .inl ⟨k1, ?_⟩
        rcases k2 with k2 | k2
        · exact .inl k2
        · rw [k2]; exact e2
      · exact .inr k
    · right
      refine ⟨?_, by omega⟩
      unfold rBind; rw [e1]
/-- A bound that is met refuses the stream, a greater one makes no difference. -/
theorem infl_bound {s : ByteArray} {M most : Int} {a : List UInt8} {q : Nat} (h : inflS s M = .ok (a, q)) : (inflS s most = .ok (a, q) ∧ ((a.length : Int) ≤ most ∨ a = [])) ∨ (inflS s most = .error 5 ∧ most < (a.length : Int)) :=
  blkG_cmp M most _ _ _ s 0 a q h
theorem infl_most {s : ByteArray} {most : Int} {a : List UInt8} {q : Nat} (h : inflS s most = .ok (a, q)) : (a.length : Int) ≤ most ∨ a = [] := (blkG_grow most _ _ _ s 0 a q h).2
end Go.Proofs.YtcllddfhppikhaaDoor
