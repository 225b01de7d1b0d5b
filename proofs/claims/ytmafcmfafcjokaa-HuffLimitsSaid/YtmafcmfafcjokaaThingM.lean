/- Plain laws of rows of things that list how often each symbol stands in them: they tell the same lengths. -/
import Derived.Test.YtmafcmfafcjokaaBestM
namespace Go.Proofs.Ytmafcmfafcjokaa

section
variable {α β : Type}
def mrgGIn (key : α → Nat) (c : α) (f : List α → List α) : List α → List α
  | [] => c :: f []
  | p :: ps => if key p < key c then p :: mrgGIn key c f ps else c :: f (p :: ps)
/-- A merge by keys, the first list's ahead where they are equal. -/
def mrgG (key : α → Nat) : List α → List α → List α
  | [], ps => ps
  | c :: cs, ps => mrgGIn key c (mrgG key cs) ps
theorem mrgG_nil (key : α → Nat) (ps : List α) : mrgG key [] ps = ps := rfl
theorem mrgG_none (key : α → Nat) : ∀ cs : List α, mrgG key cs [] = cs
  | [] => rfl
  | c :: cs => by show c :: mrgG key cs [] = _; rw [mrgG_none key cs]
theorem mrgG_lt {key : α → Nat} {c p : α} {cs ps : List α} (h : key p < key c) : mrgG key (c :: cs) (p :: ps) = p :: mrgG key (c :: cs) ps := by
  show mrgGIn key c (mrgG key cs) (p :: ps) = _; rw [mrgGIn, if_pos h]; rfl
theorem mrgG_ge {key : α → Nat} {c p : α} {cs ps : List α} (h : ¬ key p < key c) : mrgG key (c :: cs) (p :: ps) = c :: mrgG key cs (p :: ps) := by
  show mrgGIn key c (mrgG key cs) (p :: ps) = _; rw [mrgGIn, if_neg h]
theorem mrgG_rec {key : α → Nat} {P : List α → List α → Prop} (h1 : ∀ ps, P [] ps) (h2 : ∀ cs, P cs []) (h3 : ∀ c cs p ps, key p < key c → P (c :: cs) ps → P (c :: cs) (p :: ps)) (h4 : ∀ c cs p ps, ¬ key p < key c → P cs (p :: ps) → P (c :: cs) (p :: ps)) :
    ∀ cs ps, P cs ps := by
  intro cs ps
  induction h : cs.length + ps.length generalizing cs ps with
  | zero =>
    cases cs with
    | nil => exact h1 ps
    | cons c cs => simp at h
  | succ n ih =>
    cases cs with
    | nil => exact h1 ps
    | cons c cs =>
      cases ps with
      | nil => exact h2 _
      | cons p ps =>
        by_cases hp : key p < key c
        · exact h3 _ _ _ _ hp (ih _ _ (by simp at h ⊢; omega))
        · exact h4 _ _ _ _ hp (ih _ _ (by simp at h ⊢; omega))
theorem mrgG_map {key : α → Nat} {key2 : β → Nat} (f : α → β) (hk : ∀ a, key2 (f a) = key a) (cs ps : List α) : (mrgG key cs ps).map f = mrgG key2 (cs.map f) (ps.map f) := by
  induction cs, ps using mrgG_rec (key := key) with
  | h1 ps => rfl
  | h2 cs => rw [mrgG_none, List.map_nil, mrgG_none]
  | h3 c cs p ps h ih => rw [mrgG_lt h, List.map_cons, ih, List.map_cons, List.map_cons, mrgG_lt (by rw [hk, hk]; exact h)]
  | h4 c cs p ps h ih => rw [mrgG_ge h, List.map_cons, ih, List.map_cons, List.map_cons, mrgG_ge (by rw [hk, hk]; exact h)]
theorem length_mrgG (key : α → Nat) (cs ps : List α) : (mrgG key cs ps).length = cs.length + ps.length := by
  induction cs, ps using mrgG_rec (key := key) with
  | h1 ps => simp [mrgG_nil]
  | h2 cs => simp [mrgG_none]
  | h3 c cs p ps h ih => rw [mrgG_lt h]; simp at ih ⊢; omega
  | h4 c cs p ps h ih => rw [mrgG_ge h]; simp at ih ⊢; omega
theorem mem_mrgG {key : α → Nat} {cs ps : List α} {x : α} : x ∈ mrgG key cs ps → x ∈ cs ∨ x ∈ ps := by
  induction cs, ps using mrgG_rec (key := key) with
  | h1 ps => exact .inr
  | h2 cs => rw [mrgG_none]; exact .inl
  | h3 c cs p ps h ih =>
    rw [mrgG_lt h]; intro hx
    rcases List.mem_cons.1 hx with rfl | hx
    · exact .inr (by simp)
    · rcases ih hx with h | h
      · exact .inl h
      · exact .inr (by simp [h])
  | h4 c cs p ps h ih =>
    rw [mrgG_ge h]; intro hx
    rcases List.mem_cons.1 hx with rfl | hx
    · exact .inl (by simp)
    · rcases ih hx with h | h
      · exact .inl (by simp [h])
      · exact .inr h
/-- One step of a merge. -/
theorem mrgG_coin {key : α → Nat} {C P : List α} {i k : Nat} (hi : i < C.length) (h : P.length ≤ k ∨ ∃ hk : k < P.length, key C[i] ≤ key P[k]) : mrgG key (C.drop i) (P.drop k) = C[i] :: mrgG key (C.drop (i + 1)) (P.drop k) := by
  rw [List.drop_eq_getElem_cons hi]
  rcases h with h | ⟨hk, h⟩
  · rw [List.drop_of_length_le h, mrgG_none, mrgG_none]
  · rw [List.drop_eq_getElem_cons hk, mrgG_ge (by omega)]
theorem mrgG_pair {key : α → Nat} {C P : List α} {i k : Nat} (hk : k < P.length) (h : C.length ≤ i ∨ ∃ hi : i < C.length, key P[k] < key C[i]) : mrgG key (C.drop i) (P.drop k) = P[k] :: mrgG key (C.drop i) (P.drop (k + 1)) := by
  rw [List.drop_eq_getElem_cons hk]
  rcases h with h | ⟨hi, h⟩
  · rw [List.drop_of_length_le h]; rfl
  · rw [List.drop_eq_getElem_cons hi, mrgG_lt h]
end

/-- Weights, and how often each symbol stands in them. -/
abbrev Tg := Nat × List Int
def addV (u v : List Int) : List Int := List.zipWith (· + ·) u v
theorem addV_getD {u v : List Int} {s : Nat} (h : u.length = v.length) : (addV u v).getD s 0 = u.getD s 0 + v.getD s 0 := by
  unfold addV
  rw [List.getD_eq_getElem?_getD, List.getD_eq_getElem?_getD, List.getD_eq_getElem?_getD, List.getElem?_zipWith]
  by_cases hs : s < u.length
  · rw [List.getElem?_eq_getElem hs, List.getElem?_eq_getElem (by omega)]; rfl
  · rw [List.getElem?_eq_none (by omega), List.getElem?_eq_none (by omega)]; rfl
def prT : List Tg → List Tg
  | a :: b :: l => (a.1 + b.1, addV a.2 b.2) :: prT l
  | _ => []
def prN : List Nat → List Nat
  | a :: b :: l => (a + b) :: prN l
  | _ => []
theorem prs_prN : ∀ l : List (Nat × Bool), prs l = prN (l.map (·.1))
  | [] => rfl
  | [_] => rfl
  | a :: b :: l => by show _ :: prs l = _ :: prN (l.map (·.1)); rw [prs_prN l]
theorem prT_keys : ∀ l : List Tg, (prT l).map (·.1) = prN (l.map (·.1))
  | [] => rfl
  | [_] => rfl
  | a :: b :: l => by show _ :: (prT l).map (·.1) = _ :: prN (l.map (·.1)); rw [prT_keys l]
theorem length_prT : ∀ l : List Tg, (prT l).length = l.length / 2
  | [] => rfl
  | [_] => by simp [prT]
  | a :: b :: l => by simp [prT, length_prT l]; omega
theorem prT_at : ∀ (l : List Tg) (i : Nat) (h : 2 * i + 1 < l.length), (prT l)[i]'(by rw [length_prT]; omega) = (l[2 * i].1 + l[2 * i + 1].1, addV l[2 * i].2 l[2 * i + 1].2)
  | [], i, h => by simp at h
  | [_], i, h => by simp at h
  | a :: b :: l, 0, h => by simp [prT]
  | a :: b :: l, i + 1, h => by
    have := prT_at l i (by simp at h; omega)
    simpa [prT, show 2 * (i + 1) = 2 * i + 1 + 1 from by omega] using this
theorem prT_take : ∀ (l : List Tg) (i : Nat), 2 * i ≤ l.length → prT (l.take (2 * i)) = (prT l).take i
  | _, 0, _ => by simp [prT]
  | [], i + 1, h => by simp at h
  | [_], i + 1, h => by simp at h; omega
  | a :: b :: l, i + 1, h => by
    rw [show 2 * (i + 1) = 2 * i + 1 + 1 from by omega]
    simp only [List.take_succ_cons, prT]
    rw [prT_take l i (by simp at h; omega)]
def rowT (cs : List Tg) : Nat → List Tg
  | 0 => cs
  | k + 1 => mrgG (·.1) cs (prT (rowT cs k))
theorem mrgG_keys : ∀ (cs ps : List Nat), mrgG id cs ps = (mrg cs ps).map (·.1) := by
  intro cs ps
  induction cs, ps using mrg_rec with
  | h1 ps => rw [mrg_nil, List.map_map]; simp [mrgG_nil, Function.comp_def]
  | h2 cs => rw [mrg_none, mrgG_none, List.map_map]; simp [Function.comp_def]
  | h3 c cs p ps h ih => rw [mrg_lt h, mrgG_lt (by exact h), ih]; rfl
  | h4 c cs p ps h ih => rw [mrg_ge h, mrgG_ge (by exact h), ih]; rfl
theorem rowT_keys (cs : List Tg) : ∀ k, (rowT cs k).map (·.1) = (rowN (cs.map (·.1)) k).map (·.1)
  | 0 => by
    show cs.map (·.1) = (mrg (cs.map (·.1)) []).map (·.1)
    rw [mrg_none, List.map_map]; simp [Function.comp_def]
  | k + 1 => by
    show (mrgG (·.1) cs (prT (rowT cs k))).map (·.1) = (mrg (cs.map (·.1)) (prs (rowN (cs.map (·.1)) k))).map (·.1)
    rw [← mrgG_keys, mrgG_map (key := fun x : Tg => x.1) (key2 := id) (fun x : Tg => x.1) (fun _ => rfl), prT_keys, rowT_keys cs k, prs_prN]
theorem length_rowT (cs : List Tg) (k : Nat) : (rowT cs k).length = (rowN (cs.map (·.1)) k).length := by
  have := congrArg List.length (rowT_keys cs k)
  simpa using this
/-- The first items of a merge: its first coins and its first pairs. -/
theorem mrgT_first (cs ps : List Tg) (g : Tg → Int) : ∀ a, a ≤ cs.length + ps.length → (((mrgG (·.1) cs ps).take a).map g).sum = ((cs.take (tk (mrg (cs.map (·.1)) (ps.map (·.1))) a)).map g).sum + ((ps.take (a - tk (mrg (cs.map (·.1)) (ps.map (·.1))) a)).map g).sum := by
  induction cs, ps using mrgG_rec (key := fun x : Tg => x.1) with
  | h1 ps =>
    intro a ha
    have h0 : tk (mrg [] (ps.map (·.1))) a = 0 := by
      unfold tk coinsIn; rw [mrg_nil, ← List.map_take, List.filter_map]; simp
    rw [List.map_nil, h0, mrgG_nil]; simp
  | h2 cs =>
    intro a ha
    simp only [List.length_nil, Nat.add_zero] at ha
    have h0 : tk (mrg (cs.map (·.1)) []) a = a := by
      unfold tk coinsIn; rw [mrg_none, ← List.map_take, List.filter_map, List.length_map]
      rw [List.filter_eq_self.2 (by simp), List.length_take, List.length_map]; omega
    rw [List.map_nil, h0, mrgG_none]; simp
  | h3 c cs p ps h ih =>
    intro a ha
    have hm : mrg ((c :: cs).map (·.1)) ((p :: ps).map (·.1)) = (p.1, true) :: mrg ((c :: cs).map (·.1)) (ps.map (·.1)) := mrg_lt h
    rw [mrgG_lt (key := fun x : Tg => x.1) h, hm]
    cases a with
    | zero => simp [tk_zero]
    | succ a =>
      have := ih a (by simp at ha ⊢; omega)
      rw [tk_cons]
      have hle := tk_le (mrg ((c :: cs).map (·.1)) (ps.map (·.1))) a
      generalize tk (mrg ((c :: cs).map (·.1)) (ps.map (·.1))) a = T at *
      simp only [if_true, Nat.zero_add]
      rw [show a + 1 - T = (a - T) + 1 from by omega]
      simp only [List.take_succ_cons, List.map_cons, List.sum_cons]
      rw [this]
      omega
  | h4 c cs p ps h ih =>
    intro a ha
    have hm : mrg ((c :: cs).map (·.1)) ((p :: ps).map (·.1)) = (c.1, false) :: mrg (cs.map (·.1)) ((p :: ps).map (·.1)) := mrg_ge h
    rw [mrgG_ge (key := fun x : Tg => x.1) h, hm]
    cases a with
    | zero => simp [tk_zero]
    | succ a =>
      have := ih a (by simp at ha ⊢; omega)
      rw [tk_cons]
      generalize tk (mrg (cs.map (·.1)) ((p :: ps).map (·.1))) a = T at *
      simp only [Bool.false_eq_true, if_false]
      rw [show a + 1 - (1 + T) = a - T from by omega, Nat.add_comm 1]
      simp only [List.take_succ_cons, List.map_cons, List.sum_cons]
      rw [this]
      omega
/-- All lists of numbers have so many. -/
def Wide (n : Nat) (L : List Tg) : Prop := ∀ x ∈ L, x.2.length = n
theorem prT_wide {n : Nat} : ∀ {l : List Tg}, Wide n l → Wide n (prT l)
  | [], _ => by intro x hx; simp [prT] at hx
  | [_], _ => by intro x hx; simp [prT] at hx
  | a :: b :: l, h => by
    intro x hx
    simp only [prT, List.mem_cons] at hx
    rcases hx with rfl | hx
    · have h1 := h a (by simp)
      have h2 := h b (by simp)
      simp [addV, h1, h2]
    · exact prT_wide (l := l) (fun y hy => h y (by simp [hy])) x hx
theorem rowT_wide {n : Nat} {cs : List Tg} (h : Wide n cs) : ∀ k, Wide n (rowT cs k)
  | 0 => h
  | k + 1 => fun x hx => by
    rcases mem_mrgG hx with h1 | h1
    · exact h x h1
    · exact prT_wide (rowT_wide h k) x h1
theorem prT_sum {n s : Nat} : ∀ (l : List Tg) (q : Nat), Wide n l → 2 * q ≤ l.length → (((prT l).take q).map fun x => x.2.getD s 0).sum = ((l.take (2 * q)).map fun x => x.2.getD s 0).sum
  | _, 0, _, _ => by simp
  | [], q + 1, _, h => by simp at h
  | [_], q + 1, _, h => by simp at h; omega
  | a :: b :: l, q + 1, hw, h => by
    have := prT_sum (s := s) l q (fun y hy => hw y (by simp [hy])) (by simp at h; omega)
    rw [show 2 * (q + 1) = 2 * q + 1 + 1 from by omega]
    simp only [prT, List.take_succ_cons, List.sum_cons, List.map_cons, this]
    rw [addV_getD ((hw a (by simp)).trans (hw b (by simp)).symm)]
    omega
theorem rowT_sum {n s : Nat} {cs : List Tg} (hw : Wide n cs) : ∀ k a, a ≤ (rowN (cs.map (·.1)) k).length → (((rowT cs k).take a).map fun x => x.2.getD s 0).sum = ((cc (cs.map (·.1)) k a).map fun t => ((cs.take t).map fun x => x.2.getD s 0).sum).sum
  | 0, a, h => by
    have hl : (rowN (cs.map (·.1)) 0).length = cs.length := by simp [rowN, length_mrg]
    have h0 : tk (rowN (cs.map (·.1)) 0) a = a := by
      unfold tk coinsIn; rw [rowN, mrg_none, ← List.map_take, List.filter_map, List.length_map]
      rw [List.filter_eq_self.2 (by simp), List.length_take, List.length_map]; omega
    simp [cc, h0, rowT]
  | k + 1, a, h => by
    have hp := pairs_enough (cs.map (·.1)) k a h
    have e : rowN (cs.map (·.1)) (k + 1) = mrg (cs.map (·.1)) ((prT (rowT cs k)).map (·.1)) := by
      rw [prT_keys, rowT_keys, ← prs_prN]; rfl
    have hl : a ≤ cs.length + (prT (rowT cs k)).length := by
      rw [e, length_mrg] at h; simpa using h
    have h1 := mrgT_first cs (prT (rowT cs k)) (fun x => x.2.getD s 0) a hl
    rw [← e] at h1
    have h2 := prT_sum (n := n) (s := s) (rowT cs k) (a - tk (rowN (cs.map (·.1)) (k + 1)) a) (rowT_wide hw k) (by rw [length_rowT]; exact hp)
    rw [h2, rowT_sum hw k _ hp] at h1
    simp only [cc, List.map_cons, List.sum_cons]
    exact h1

/-! Coins. -/
def unitV (n s : Nat) : List Int := (List.replicate n (0 : Int)).set s 1
def coinT (n : Nat) (c : Nat × Nat) : Tg := (c.2, unitV n c.1)
theorem unitV_getD (n s t : Nat) : (unitV n s).getD t 0 = if s = t ∧ t < n then 1 else 0 := by
  unfold unitV; rw [getD_set, zeros_getD, List.length_replicate]
theorem coinT_wide (n : Nat) (cs : List (Nat × Nat)) : Wide n (cs.map (coinT n)) := by
  intro x hx
  obtain ⟨c, _, rfl⟩ := List.mem_map.1 hx
  simp [coinT, unitV]
theorem coins_keys (n : Nat) (cs : List (Nat × Nat)) : (cs.map (coinT n)).map (·.1) = cs.map (·.2) := by rw [List.map_map]; rfl
theorem units_at {n : Nat} {cs : List (Nat × Nat)} (hd : (cs.map (·.1)).Nodup) (hlt : ∀ c ∈ cs, c.1 < n) {r : Nat} (hr : r < cs.length) : ∀ t, (((cs.map (coinT n)).take t).map fun x => x.2.getD cs[r].1 0).sum = if r < t then 1 else 0
  | 0 => by simp
  | t + 1 => by
    have ih := units_at hd hlt hr t
    by_cases ht : t < cs.length
    · rw [List.take_succ_eq_append_getElem (by simpa using ht), List.map_append, List.sum_append, ih]
      simp only [List.getElem_map, List.map_cons, List.map_nil, List.sum_cons, List.sum_nil, coinT, unitV_getD]
      by_cases e : t = r
      · subst e
        rw [if_neg (by omega), if_pos ⟨rfl, hlt _ (List.getElem_mem hr)⟩, if_pos (by omega)]; rfl
      · rw [if_neg (c := _ ∧ _) (fun h => e (nodup_at hd ht hr h.1))]
        by_cases h1 : r < t
        · rw [if_pos h1, if_pos (by omega)]; rfl
        · rw [if_neg h1, if_neg (by omega)]; rfl
    · rw [List.take_of_length_le (by simp; omega)] at ih ⊢
      rw [ih, if_pos (by omega), if_pos (by omega)]
theorem units_off {n s : Nat} {cs : List (Nat × Nat)} (hs : s ∉ cs.map (·.1)) (t : Nat) : (((cs.map (coinT n)).take t).map fun x => x.2.getD s 0).sum = 0 := by
  have : ∀ L : List (Nat × Nat), s ∉ L.map (·.1) → ((L.map (coinT n)).map fun x => x.2.getD s 0).sum = 0 := by
    intro L
    induction L with
    | nil => intro _; rfl
    | cons c L ih =>
      intro h
      simp only [List.map_cons, List.mem_cons, not_or] at h
      simp only [List.map_cons, List.sum_cons, coinT, unitV_getD]
      rw [if_neg (fun e => h.1 e.1.symm)]
      have := ih h.2
      rw [Int.zero_add]; exact this
  rw [← List.map_take]
  refine this _ fun h => hs ?_
  rw [List.map_take] at h
  exact List.mem_of_mem_take h
theorem sum_rl (r : Nat) : ∀ ts : List Nat, (ts.map fun t => if r < t then (1 : Int) else 0).sum = (rl ts r : Nat)
  | [] => rfl
  | t :: ts => by
    rw [List.map_cons, List.sum_cons, sum_rl r ts, rl]
    split <;> simp
/-- What the document sums up. -/
def outs (M : Nat) (l : List Int) (i : Nat) (s : Nat) : Int := (((rowT ((csOf l l.length).map (coinT l.length)) (M - 1)).take i).map fun x => x.2.getD s 0).sum
theorem outs_lims {M : Nat} {l : List Int} (hM1 : 1 ≤ M) (hp : (csOf l l.length).length ≤ 2 ^ M) (h1 : (csOf l l.length).length ≠ 1) (s : Nat) : outs M l (2 * (csOf l l.length).length - 2) s = (lims M l).getD s 0 := by
  by_cases h0 : (csOf l l.length).length = 0
  · rw [lims_zero rfl rfl h0, zeros_getD, h0]; unfold outs; simp
  · have hn : 2 ≤ (csOf l l.length).length := by omega
    unfold outs
    have he := row_enough ((csOf l l.length).map (·.2)) (M - 1) (by rw [show M - 1 + 1 = M from by omega, List.length_map]; exact hp) (by rw [List.length_map]; exact hn)
    rw [List.length_map] at he
    rw [rowT_sum (coinT_wide l.length (csOf l l.length)) (M - 1) _ (by rw [coins_keys]; exact he), coins_keys]
    by_cases hs : s ∈ (csOf l l.length).map (·.1)
    · obtain ⟨r, hr, e⟩ := List.getElem_of_mem hs
      have hr' : r < (csOf l l.length).length := by simpa using hr
      have e' : (csOf l l.length)[r].1 = s := by simpa using e
      rw [← e', lims_rank hr']
      have : (fun t => (((csOf l l.length).map (coinT l.length)).take t |>.map fun x => x.2.getD (csOf l l.length)[r].1 0).sum) = fun t => if r < t then (1 : Int) else 0 :=
        funext fun t => units_at (csOf_nodup l _) (fun c hc => (mem_csOf.1 hc).1) hr' t
      rw [this, sum_rl]
      unfold rk lensOf
      rw [if_neg h1, List.length_map]
    · rw [lims_off hs]
      have : (fun t => (((csOf l l.length).map (coinT l.length)).take t |>.map fun x => x.2.getD s 0).sum) = fun _ => (0 : Int) :=
        funext fun t => units_off hs t
      rw [this]
      generalize cc _ _ _ = ts
      induction ts with
      | nil => rfl
      | cons t ts ih => rw [List.map_cons, List.sum_cons, ih]; rfl

/-! How great they get. -/
def Bnd (B W : Nat) (L : List Tg) : Prop := ∀ x ∈ L, x.1 ≤ W ∧ ∀ s, 0 ≤ x.2.getD s 0 ∧ x.2.getD s 0 ≤ (B : Int)
theorem prT_bnd {n B W : Nat} : ∀ {l : List Tg}, Wide n l → Bnd B W l → Bnd (2 * B) (2 * W) (prT l)
  | [], _, _ => by intro x hx; simp [prT] at hx
  | [_], _, _ => by intro x hx; simp [prT] at hx
  | a :: b :: l, hw, h => by
    intro x hx
    simp only [prT, List.mem_cons] at hx
    rcases hx with rfl | hx
    · have h1 := h a (by simp)
      have h2 := h b (by simp)
      refine ⟨by dsimp only; omega, fun s => ?_⟩
      dsimp only
      rw [addV_getD ((hw a (by simp)).trans (hw b (by simp)).symm)]
      have := h1.2 s
      have := h2.2 s
      omega
    · exact prT_bnd (l := l) (fun y hy => hw y (by simp [hy])) (fun y hy => h y (by simp [hy])) x hx
theorem Bnd.more {B B' W W' : Nat} {L : List Tg} (h : Bnd B W L) (hB : B ≤ B') (hW : W ≤ W') : Bnd B' W' L := fun x hx => ⟨by have := (h x hx).1; omega, fun s => by have := (h x hx).2 s; omega⟩
theorem rowT_bnd {n W : Nat} {cs : List Tg} (hw : Wide n cs) (h : Bnd 1 W cs) : ∀ k, Bnd (2 ^ k) (2 ^ k * W) (rowT cs k)
  | 0 => h.more (Nat.le_refl _) (by simp)
  | k + 1 => fun x hx => by
    have hp := Nat.two_pow_pos k
    rcases mem_mrgG hx with h1 | h1
    · refine h.more ?_ ?_ x h1
      · rw [Nat.pow_succ]; omega
      · exact Nat.le_trans (by simp) (Nat.mul_le_mul_right W (show 1 ≤ 2 ^ (k + 1) by rw [Nat.pow_succ]; omega))
    · refine (prT_bnd (rowT_wide hw k) (rowT_bnd hw h k)).more ?_ ?_ x h1
      · rw [Nat.pow_succ]; omega
      · rw [Nat.pow_succ, Nat.mul_comm (2 ^ k) 2, Nat.mul_assoc]; exact Nat.le_refl _
theorem coins_bnd {l : List Int} (hok : okCounts l = true) (k : Nat) : Bnd 1 1000000000 ((csOf l k).map (coinT l.length)) := by
  intro x hx
  obtain ⟨c, hc, rfl⟩ := List.mem_map.1 hx
  refine ⟨coins_le hok _ (List.mem_map_of_mem hc), fun s => ?_⟩
  simp only [coinT, unitV_getD]
  split <;> omega
theorem sum_bnd {B W : Nat} {L : List Tg} (h : Bnd B W L) (s : Nat) : ∀ i, 0 ≤ ((L.take i).map fun x => x.2.getD s 0).sum ∧ ((L.take i).map fun x => x.2.getD s 0).sum ≤ ((i * B : Nat) : Int)
  | 0 => by simp
  | i + 1 => by
    have ih := sum_bnd h s i
    by_cases hi : i < L.length
    · rw [List.take_succ_eq_append_getElem hi, List.map_append, List.sum_append]
      have := (h _ (List.getElem_mem hi)).2 s
      simp only [List.map_cons, List.map_nil, List.sum_cons, List.sum_nil]
      rw [Nat.add_mul, Nat.one_mul]; omega
    · rw [List.take_of_length_le (by omega)] at ih ⊢
      rw [Nat.add_mul]; omega
end Go.Proofs.Ytmafcmfafcjokaa
