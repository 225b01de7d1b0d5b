/- Plain mathematics of layer 8: what chunks say of an image, on lists of bytes. -/
import Derived.Test.YtgemmidkfeebfaaDoorChM
set_option linter.unusedVariables false
namespace Go.Proofs.YtgemmidkfeebfaaDoor
set_option maxRecDepth 100000
open Go

def tIHDR : List UInt8 := [73, 72, 68, 82]
def tPLTE : List UInt8 := [80, 76, 84, 69]
def tTRNS : List UInt8 := [116, 82, 78, 83]
def tIDAT : List UInt8 := [73, 68, 65, 84]
def tIEND : List UInt8 := [73, 69, 78, 68]
def tPASS : List UInt8 := [122, 122, 90, 90]
/-- Must a type be known? -/
def critT (t : List UInt8) : Bool := match t with
  | [] => false
  | b :: _ => decide (65 ≤ b.toNat ∧ b.toNat ≤ 90)
/-- May a head be? -/
def depthOk (d c : Int) : Bool := decide (c = 0 ∧ (d = 1 ∨ d = 2 ∨ d = 4 ∨ d = 8 ∨ d = 16) ∨ c = 3 ∧ (d = 1 ∨ d = 2 ∨ d = 4 ∨ d = 8) ∨ (c = 2 ∨ c = 4 ∨ c = 6) ∧ (d = 8 ∨ d = 16))
def rightH (w h d c lace : Int) : Int :=
  if w < 1 ∨ 2147483647 < w ∨ h < 1 ∨ 2147483647 < h ∨ depthOk d c = false ∨ (lace ≠ 0 ∧ lace ≠ 1) then 24 else
  if 1024 < w ∨ 1024 < h ∨ 4096 < w * h then 5 else 0
/-- What stands of an image while its chunks are gone through. -/
structure HS where
  pal : Bool
  trans : Bool
  idat : Bool
  gap : Bool
  P : List UInt8
  T : List UInt8
  D : List UInt8
def hs0 : HS := ⟨false, false, false, false, [], [], []⟩
/-- One chunk: what stands then, and how it ends, if it ends. -/
def stepH (d c : Int) (last : Bool) (k : Ck) (s : HS) : HS × Option Int :=
  if k.1 = tIHDR then (s, some 23) else
  if k.1 = tPLTE then
    if s.pal = true ∨ s.trans = true ∨ s.idat = true then (s, some 23) else
    if c = 0 ∨ c = 4 ∨ k.2.length % 3 ≠ 0 ∨ k.2.length < 3 ∨ 768 < k.2.length ∨ c = 3 ∧ 3 * 2 ^ d.toNat < k.2.length then (s, some 25) else
    ({ s with pal := true, P := k.2, gap := s.idat }, none) else
  if k.1 = tTRNS then
    if s.trans = true ∨ s.idat = true ∨ c = 3 ∧ s.pal = false then (s, some 23) else
    if c = 4 ∨ c = 6 ∨ c = 0 ∧ k.2.length ≠ 2 ∨ c = 2 ∧ k.2.length ≠ 6 ∨ c = 3 ∧ s.P.length / 3 < k.2.length then (s, some 26) else
    ({ s with trans := true, T := k.2, gap := s.idat }, none) else
  if k.1 = tIDAT then
    if c = 3 ∧ s.pal = false ∨ s.gap = true then (s, some 23) else ({ s with idat := true, D := s.D ++ k.2 }, none) else
  if k.1 = tIEND then
    if k.2.length ≠ 0 then (s, some 21) else if s.idat = false then (s, some 23) else if last = false then (s, some 4) else (s, some 0) else
  if critT k.1 = true then (s, some 27) else ({ s with gap := s.idat }, none)
/-- All chunks behind the head. -/
def runH (d c : Int) : List Ck → HS → HS × Int
  | [], s => (s, 3)
  | k :: l, s => match stepH d c l.isEmpty k s with
    | (s', some e) => (s', e)
    | (s', none) => runH d c l s'
/-- What is told of an end: on an error, nothing else. -/
def toldH (x : HS × Int) : HS × Int := if x.2 = 0 then x else (hs0, x.2)
/-- The numbers of a head's data. -/
def numsH (b : List UInt8) : List Int := [(ofL (b.take 4) : Nat), (ofL ((b.drop 4).take 4) : Nat), ((b.getD 8 0).toNat : Nat), ((b.getD 9 0).toNat : Nat), ((b.getD 12 0).toNat : Nat)]
def rightN (l : List Int) : Int := rightH (l.getD 0 0) (l.getD 1 0) (l.getD 2 0) (l.getD 3 0) (l.getD 4 0)
/-- What chunks say of an image. -/
def readT : List Ck → List Int × HS × Int
  | [] => ([], hs0, 23)
  | k :: l =>
    if k.1 ≠ tIHDR then ([], hs0, 23) else
    if k.2.length ≠ 13 ∨ k.2.getD 10 0 ≠ 0 ∨ k.2.getD 11 0 ≠ 0 then ([], hs0, 24) else
    if rightN (numsH k.2) ≠ 0 then ([], hs0, rightN (numsH k.2)) else
    if (runH ((numsH k.2).getD 2 0) ((numsH k.2).getD 3 0) l hs0).2 = 0 then (numsH k.2, runH ((numsH k.2).getD 2 0) ((numsH k.2).getD 3 0) l hs0) else
    ([], hs0, (runH ((numsH k.2).getD 2 0) ((numsH k.2).getD 3 0) l hs0).2)

theorem readT_cons (k : Ck) (l : List Ck) : readT (k :: l) =
    if k.1 ≠ tIHDR then ([], hs0, 23) else
    if k.2.length ≠ 13 ∨ k.2.getD 10 0 ≠ 0 ∨ k.2.getD 11 0 ≠ 0 then ([], hs0, 24) else
    if rightN (numsH k.2) ≠ 0 then ([], hs0, rightN (numsH k.2)) else
    if (runH ((numsH k.2).getD 2 0) ((numsH k.2).getD 3 0) l hs0).2 = 0 then (numsH k.2, runH ((numsH k.2).getD 2 0) ((numsH k.2).getD 3 0) l hs0) else
    ([], hs0, (runH ((numsH k.2).getD 2 0) ((numsH k.2).getD 3 0) l hs0).2) := rfl

/-! A chunk that need not be known. -/
theorem step_pass (d c : Int) (last : Bool) (b : List UInt8) (s : HS) : stepH d c last (tPASS, b) s = ({ s with gap := s.idat }, none) := by
  unfold stepH
  rw [if_neg (by show ¬ tPASS = tIHDR; decide), if_neg (by show ¬ tPASS = tPLTE; decide), if_neg (by show ¬ tPASS = tTRNS; decide), if_neg (by show ¬ tPASS = tIDAT; decide),
    if_neg (by show ¬ tPASS = tIEND; decide), if_neg (by show ¬ critT tPASS = true; decide)]
theorem step_dat {d c : Int} {last : Bool} {b : List UInt8} {s : HS} (hc : c ≠ 3) (hg : s.gap = false) : stepH d c last (tIDAT, b) s = ({ s with idat := true, D := s.D ++ b }, none) := by
  unfold stepH
  rw [if_neg (by show ¬ tIDAT = tIHDR; decide), if_neg (by show ¬ tIDAT = tPLTE; decide), if_neg (by show ¬ tIDAT = tTRNS; decide), if_pos (by rfl),
    if_neg (by rintro (h | h); · exact hc h.1
               · rw [hg] at h; exact Bool.noConfusion h)]
theorem step_end {d c : Int} {s : HS} (hi : s.idat = true) : stepH d c true (tIEND, []) s = (s, some 0) := by
  unfold stepH
  rw [if_neg (by show ¬ tIEND = tIHDR; decide), if_neg (by show ¬ tIEND = tPLTE; decide), if_neg (by show ¬ tIEND = tTRNS; decide), if_neg (by show ¬ tIEND = tIDAT; decide),
    if_pos (by rfl), if_neg (by simp), if_neg (by rw [hi]; simp), if_neg (by simp)]
/-- Pieces of an image, and the end. -/
theorem run_dats {d c : Int} (hc : c ≠ 3) : ∀ (ps : List (List UInt8)) (s : HS), s.gap = false → (s.idat = true ∨ ps ≠ []) →
    runH d c (ps.map (fun p => (tIDAT, p)) ++ [(tIEND, [])]) s = ({ s with idat := true, D := s.D ++ ps.flatten }, 0) := by
  intro ps
  induction ps with
  | nil =>
    intro s hg hi
    have hi' : s.idat = true := hi.resolve_right (by simp)
    show (match stepH d c true (tIEND, []) s with | (s', some e) => (s', e) | (s', none) => runH d c [] s') = _
    rw [step_end hi']
    show (s, (0 : Int)) = _
    rw [List.flatten_nil, List.append_nil, ← hi']
  | cons p ps ih =>
    intro s hg hi
    show (match stepH d c _ (tIDAT, p) s with | (s', some e) => (s', e) | (s', none) => runH d c (ps.map (fun p => (tIDAT, p)) ++ [(tIEND, [])]) s') = _
    rw [step_dat hc hg]
    show runH d c (ps.map (fun p => (tIDAT, p)) ++ [(tIEND, [])]) { s with idat := true, D := s.D ++ p } = _
    rw [ih { s with idat := true, D := s.D ++ p } hg (Or.inl rfl), List.flatten_cons, List.append_assoc]
/-- A head's chunk. -/
def hlayT (w h d c lace : Nat) : Ck := (tIHDR, fourL w ++ (fourL h ++ [UInt8.ofNat d, UInt8.ofNat c, 0, 0, UInt8.ofNat lace]))
theorem numsH_lay {w h d c lace : Nat} (hw : w < 4294967296) (hh : h < 4294967296) (hd : d < 256) (hc : c < 256) (hl : lace < 256) :
    numsH (hlayT w h d c lace).2 = [(w : Int), (h : Int), (d : Int), (c : Int), (lace : Int)] := by
  have a : ofL ((hlayT w h d c lace).2.take 4) = w := ofL_four hw
  have b : ofL (((hlayT w h d c lace).2.drop 4).take 4) = h := ofL_four hh
  have e : ((hlayT w h d c lace).2.getD 8 0).toNat = d := by show (UInt8.ofNat d).toNat = d; rw [UInt8.toNat_ofNat']; omega
  have f : ((hlayT w h d c lace).2.getD 9 0).toNat = c := by show (UInt8.ofNat c).toNat = c; rw [UInt8.toNat_ofNat']; omega
  have g : ((hlayT w h d c lace).2.getD 12 0).toNat = lace := by show (UInt8.ofNat lace).toNat = lace; rw [UInt8.toNat_ofNat']; omega
  unfold numsH
  rw [a, b, e, f, g]
theorem depthOk_small {d c : Int} (h : depthOk d c = true) : 1 ≤ d ∧ d ≤ 16 ∧ 0 ≤ c ∧ c ≤ 6 := by
  have := of_decide_eq_true h
  omega
theorem rightH_zero {w h d c lace : Int} (e : rightH w h d c lace = 0) : 1 ≤ w ∧ w ≤ 1024 ∧ 1 ≤ h ∧ h ≤ 1024 ∧ w * h ≤ 4096 ∧ depthOk d c = true ∧ (lace = 0 ∨ lace = 1) := by
  unfold rightH at e
  by_cases h1 : w < 1 ∨ 2147483647 < w ∨ h < 1 ∨ 2147483647 < h ∨ depthOk d c = false ∨ (lace ≠ 0 ∧ lace ≠ 1)
  · rw [if_pos h1] at e; exact absurd e (by decide)
  · rw [if_neg h1] at e
    by_cases h2 : 1024 < w ∨ 1024 < h ∨ 4096 < w * h
    · rw [if_pos h2] at e; exact absurd e (by decide)
    · have hd : depthOk d c = true := by
        cases hx : depthOk d c with
        | true => rfl
        | false => exact absurd (Or.inr (Or.inr (Or.inr (Or.inr (Or.inl hx))))) h1
      refine ⟨?_, ?_, ?_, ?_, ?_, hd, ?_⟩
      · exact Int.not_lt.1 fun h => h1 (Or.inl h)
      · exact Int.not_lt.1 fun h => h2 (Or.inl h)
      · exact Int.not_lt.1 fun h => h1 (Or.inr (Or.inr (Or.inl h)))
      · exact Int.not_lt.1 fun h => h2 (Or.inr (Or.inl h))
      · exact Int.not_lt.1 fun h => h2 (Or.inr (Or.inr h))
      · by_cases hl : lace = 0
        · exact Or.inl hl
        · by_cases hl1 : lace = 1
          · exact Or.inr hl1
          · exact absurd (Or.inr (Or.inr (Or.inr (Or.inr (Or.inr ⟨hl, hl1⟩))))) h1
/-- A head that may be is read as it is laid, however the bytes are cut. -/
theorem read_back {w h d c lace : Nat} (hr : rightH w h d c lace = 0) (hc : c ≠ 3) {ps : List (List UInt8)} (hp : ps ≠ []) :
    readT (hlayT w h d c lace :: (ps.map (fun p => (tIDAT, p)) ++ [(tIEND, [])])) = ([(w : Int), (h : Int), (d : Int), (c : Int), (lace : Int)], { hs0 with idat := true, D := ps.flatten }, 0) := by
  obtain ⟨h1, h2, h3, h4, _, h5, h6⟩ := rightH_zero hr
  obtain ⟨h7, h8, h9, h10⟩ := depthOk_small h5
  have hn := numsH_lay (w := w) (h := h) (d := d) (c := c) (lace := lace) (by omega) (by omega) (by omega) (by omega) (by omega)
  rw [readT_cons, hn]
  have hrn : rightN [(w : Int), (h : Int), (d : Int), (c : Int), (lace : Int)] = 0 := hr
  have hrun := run_dats (d := (d : Int)) (c := (c : Int)) (by omega) ps hs0 rfl (Or.inr hp)
  rw [if_neg (by show ¬ tIHDR ≠ tIHDR; simp), if_neg (fun h => h.elim (fun h => h rfl) fun h => h.elim (fun h => h rfl) fun h => h rfl), hrn, if_neg (by simp)]
  have hrun' : runH ([(w : Int), (h : Int), (d : Int), (c : Int), (lace : Int)].getD 2 0) ([(w : Int), (h : Int), (d : Int), (c : Int), (lace : Int)].getD 3 0)
      (ps.map (fun p => (tIDAT, p)) ++ [(tIEND, [])]) hs0 = ({ hs0 with idat := true, D := [] ++ ps.flatten }, 0) := hrun
  rw [hrun', if_pos rfl, List.nil_append]
/-! A chunk that need not be known changes nothing where it does not stand between IDATs. -/
/-- What was seen of a gap. -/
def GapOk (s : HS) : Prop := s.gap = true → s.idat = true
theorem step_other {d c : Int} {last : Bool} {k : Ck} (hk : k.1 ≠ tIDAT) (s : HS) (g : Bool) :
    stepH d c last k { s with gap := g } = stepH d c last k s ∨ ∃ e, (stepH d c last k { s with gap := g }).2 = some e ∧ (stepH d c last k s).2 = some e ∧
      (stepH d c last k { s with gap := g }).1 = { (stepH d c last k s).1 with gap := g } := by
  unfold stepH
  dsimp only
  by_cases h1 : k.1 = tIHDR
  · rw [if_pos h1, if_pos h1]; exact Or.inr ⟨23, rfl, rfl, rfl⟩
  rw [if_neg h1, if_neg h1]
  by_cases h2 : k.1 = tPLTE
  · rw [if_pos h2, if_pos h2]
    by_cases h3 : s.pal = true ∨ s.trans = true ∨ s.idat = true
    · rw [if_pos h3, if_pos h3]; exact Or.inr ⟨23, rfl, rfl, rfl⟩
    rw [if_neg h3, if_neg h3]
    by_cases h4 : c = 0 ∨ c = 4 ∨ k.2.length % 3 ≠ 0 ∨ k.2.length < 3 ∨ 768 < k.2.length ∨ c = 3 ∧ 3 * 2 ^ d.toNat < k.2.length
    · rw [if_pos h4, if_pos h4]; exact Or.inr ⟨25, rfl, rfl, rfl⟩
    rw [if_neg h4, if_neg h4]; exact Or.inl rfl
  rw [if_neg h2, if_neg h2]
  by_cases h5 : k.1 = tTRNS
  · rw [if_pos h5, if_pos h5]
    by_cases h3 : s.trans = true ∨ s.idat = true ∨ c = 3 ∧ s.pal = false
    · rw [if_pos h3, if_pos h3]; exact Or.inr ⟨23, rfl, rfl, rfl⟩
    rw [if_neg h3, if_neg h3]
    by_cases h4 : c = 4 ∨ c = 6 ∨ c = 0 ∧ k.2.length ≠ 2 ∨ c = 2 ∧ k.2.length ≠ 6 ∨ c = 3 ∧ s.P.length / 3 < k.2.length
    · rw [if_pos h4, if_pos h4]; exact Or.inr ⟨26, rfl, rfl, rfl⟩
    rw [if_neg h4, if_neg h4]; exact Or.inl rfl
  rw [if_neg h5, if_neg h5, if_neg hk, if_neg hk]
  by_cases h6 : k.1 = tIEND
  · rw [if_pos h6, if_pos h6]
    by_cases h7 : k.2.length ≠ 0
    · rw [if_pos h7, if_pos h7]; exact Or.inr ⟨21, rfl, rfl, rfl⟩
    rw [if_neg h7, if_neg h7]
    by_cases h8 : s.idat = false
    · rw [if_pos h8, if_pos h8]; exact Or.inr ⟨23, rfl, rfl, rfl⟩
    rw [if_neg h8, if_neg h8]
    by_cases h9 : last = false
    · rw [if_pos h9, if_pos h9]; exact Or.inr ⟨4, rfl, rfl, rfl⟩
    rw [if_neg h9, if_neg h9]; exact Or.inr ⟨0, rfl, rfl, rfl⟩
  rw [if_neg h6, if_neg h6]
  by_cases h10 : critT k.1 = true
  · rw [if_pos h10, if_pos h10]; exact Or.inr ⟨27, rfl, rfl, rfl⟩
  rw [if_neg h10, if_neg h10]; exact Or.inl rfl
/-- What is told but for the gap. -/
def flatH (x : HS × Int) : HS × Int := ({ x.1 with gap := false }, x.2)
theorem run_step (d c : Int) (k : Ck) (l : List Ck) (s : HS) : runH d c (k :: l) s = match stepH d c l.isEmpty k s with
    | (s', some e) => (s', e)
    | (s', none) => runH d c l s' := rfl
theorem run_gap {d c : Int} {l : List Ck} (hl : ∀ k l', l = k :: l' → k.1 ≠ tIDAT) (s : HS) (g : Bool) : flatH (runH d c l { s with gap := g }) = flatH (runH d c l s) := by
  cases l with
  | nil => rfl
  | cons k l =>
    rw [run_step, run_step]
    rcases step_other (d := d) (c := c) (last := l.isEmpty) (hl k l rfl) s g with h | ⟨e, h1, h2, h3⟩
    · rw [h]
    · rcases hx : stepH d c l.isEmpty k { s with gap := g } with ⟨s1, o1⟩
      rcases hy : stepH d c l.isEmpty k s with ⟨s2, o2⟩
      rw [hx] at h1 h3
      rw [hy] at h2 h3
      dsimp only at h1 h2 h3
      subst h1 h2 h3
      rfl
/-- No chunk but the end leans on what stands behind it. -/
theorem step_last {d c : Int} {k : Ck} (hk : k.1 ≠ tIEND) (b b' : Bool) (s : HS) : stepH d c b k s = stepH d c b' k s := by
  unfold stepH
  rw [if_neg hk, if_neg hk]
theorem step_gapOk {d c : Int} {b : Bool} {k : Ck} {s s' : HS} (hg : GapOk s) (h : stepH d c b k s = (s', none)) : GapOk s' ∧ (k.1 ≠ tIDAT → s'.gap = s'.idat) := by
  unfold stepH at h
  by_cases h1 : k.1 = tIHDR
  · rw [if_pos h1] at h; injection h with _ h; exact absurd h (by simp)
  rw [if_neg h1] at h
  by_cases h2 : k.1 = tPLTE
  · rw [if_pos h2] at h
    by_cases h3 : s.pal = true ∨ s.trans = true ∨ s.idat = true
    · rw [if_pos h3] at h; injection h with _ h; exact absurd h (by simp)
    rw [if_neg h3] at h
    by_cases h4 : c = 0 ∨ c = 4 ∨ k.2.length % 3 ≠ 0 ∨ k.2.length < 3 ∨ 768 < k.2.length ∨ c = 3 ∧ 3 * 2 ^ d.toNat < k.2.length
    · rw [if_pos h4] at h; injection h with _ h; exact absurd h (by simp)
    rw [if_neg h4] at h; injection h with h _; subst h; exact ⟨fun h => h, fun _ => rfl⟩
  rw [if_neg h2] at h
  by_cases h5 : k.1 = tTRNS
  · rw [if_pos h5] at h
    by_cases h3 : s.trans = true ∨ s.idat = true ∨ c = 3 ∧ s.pal = false
    · rw [if_pos h3] at h; injection h with _ h; exact absurd h (by simp)
    rw [if_neg h3] at h
    by_cases h4 : c = 4 ∨ c = 6 ∨ c = 0 ∧ k.2.length ≠ 2 ∨ c = 2 ∧ k.2.length ≠ 6 ∨ c = 3 ∧ s.P.length / 3 < k.2.length
    · rw [if_pos h4] at h; injection h with _ h; exact absurd h (by simp)
    rw [if_neg h4] at h; injection h with h _; subst h; exact ⟨fun h => h, fun _ => rfl⟩
  rw [if_neg h5] at h
  by_cases hd : k.1 = tIDAT
  · rw [if_pos hd] at h
    by_cases h3 : c = 3 ∧ s.pal = false ∨ s.gap = true
    · rw [if_pos h3] at h; injection h with _ h; exact absurd h (by simp)
    rw [if_neg h3] at h; injection h with h _; subst h; exact ⟨fun _ => rfl, fun hn => absurd hd hn⟩
  rw [if_neg hd] at h
  by_cases h6 : k.1 = tIEND
  · rw [if_pos h6] at h
    by_cases h7 : k.2.length ≠ 0
    · rw [if_pos h7] at h; injection h with _ h; exact absurd h (by simp)
    rw [if_neg h7] at h
    by_cases h8 : s.idat = false
    · rw [if_pos h8] at h; injection h with _ h; exact absurd h (by simp)
    rw [if_neg h8] at h
    by_cases h9 : b = false
    · rw [if_pos h9] at h; injection h with _ h; exact absurd h (by simp)
    rw [if_neg h9] at h; injection h with _ h; exact absurd h (by simp)
  rw [if_neg h6] at h
  by_cases h10 : critT k.1 = true
  · rw [if_pos h10] at h; injection h with _ h; exact absurd h (by simp)
  rw [if_neg h10] at h; injection h with h _; subst h; exact ⟨fun h => h, fun _ => rfl⟩
/-- Behind chunks that end nothing, a chunk that need not be known changes nothing. -/
theorem run_pass {d c : Int} {b : List UInt8} {post : List Ck} : ∀ (pre : List Ck) (s : HS), GapOk s → (∀ k, k ∈ pre → k.1 ≠ tIEND) →
    (pre = [] → s.gap = s.idat) → ((∀ p q, pre = p ++ [q] → q.1 = tIDAT → ∀ k l', post = k :: l' → k.1 ≠ tIDAT)) →
    flatH (runH d c (pre ++ (tPASS, b) :: post) s) = flatH (runH d c (pre ++ post) s) := by
  intro pre
  induction pre with
  | nil =>
    intro s _ _ hs _
    rw [List.nil_append, List.nil_append, run_step, step_pass]
    have e : ({ s with gap := s.idat } : HS) = s := by
      have h := hs rfl
      cases s
      dsimp only at h
      subst h
      rfl
    show flatH (runH d c post { s with gap := s.idat }) = _
    rw [e]
  | cons k pre ih =>
    intro s hg hk hs hb
    rw [List.cons_append, List.cons_append, run_step, run_step,
      step_last (hk k (List.mem_cons_self ..)) (pre ++ (tPASS, b) :: post).isEmpty (pre ++ post).isEmpty]
    rcases hx : stepH d c (pre ++ post).isEmpty k s with ⟨s', _ | e⟩
    · show flatH (runH d c (pre ++ (tPASS, b) :: post) s') = flatH (runH d c (pre ++ post) s')
      obtain ⟨g1, g2⟩ := step_gapOk hg hx
      by_cases hp : pre = []
      · subst hp
        by_cases hd : k.1 = tIDAT
        · rw [List.nil_append, List.nil_append, run_step, step_pass]
          show flatH (runH d c post { s' with gap := s'.idat }) = _
          exact run_gap (hb [] k rfl hd) s' s'.idat
        · exact ih s' g1 (fun k' h => hk k' (List.mem_cons_of_mem _ h)) (fun _ => g2 hd) (fun p q e => by
            exfalso
            have := congrArg List.length e
            rw [List.length_append] at this
            simp at this)
      · exact ih s' g1 (fun k' h => hk k' (List.mem_cons_of_mem _ h)) (fun h => absurd h hp) (fun p q e hq => hb (k :: p) q (by rw [e]; rfl) hq)
    · rfl
/-- What is told but for the gap. -/
def flatR (x : List Int × HS × Int) : List Int × HS × Int := (x.1, { x.2.1 with gap := false }, x.2.2)
theorem read_pass {b : List UInt8} {k : Ck} {pre post : List Ck} (hk : ∀ q, q ∈ pre → q.1 ≠ tIEND)
    (hb : ∀ p q, pre = p ++ [q] → q.1 = tIDAT → ∀ r l', post = r :: l' → r.1 ≠ tIDAT) :
    flatR (readT (k :: (pre ++ (tPASS, b) :: post))) = flatR (readT (k :: (pre ++ post))) := by
  rw [readT_cons, readT_cons]
  by_cases h1 : k.1 ≠ tIHDR
  · rw [if_pos h1, if_pos h1]
  rw [if_neg h1, if_neg h1]
  by_cases h2 : k.2.length ≠ 13 ∨ k.2.getD 10 0 ≠ 0 ∨ k.2.getD 11 0 ≠ 0
  · rw [if_pos h2, if_pos h2]
  rw [if_neg h2, if_neg h2]
  by_cases h3 : rightN (numsH k.2) ≠ 0
  · rw [if_pos h3, if_pos h3]
  rw [if_neg h3, if_neg h3]
  have h := run_pass (d := (numsH k.2).getD 2 0) (c := (numsH k.2).getD 3 0) (b := b) (post := post) pre hs0 (fun h => absurd h (by decide)) hk (fun _ => rfl) hb
  generalize runH ((numsH k.2).getD 2 0) ((numsH k.2).getD 3 0) (pre ++ (tPASS, b) :: post) hs0 = x at h ⊢
  generalize runH ((numsH k.2).getD 2 0) ((numsH k.2).getD 3 0) (pre ++ post) hs0 = y at h ⊢
  unfold flatH at h
  injection h with ha hb'
  rw [hb']
  by_cases h4 : y.2 = 0
  · rw [if_pos h4, if_pos h4]
    show (numsH k.2, _, x.2) = (numsH k.2, _, y.2)
    rw [hb']
    show (numsH k.2, ({ x.1 with gap := false } : HS), y.2) = (numsH k.2, ({ y.1 with gap := false } : HS), y.2)
    rw [ha]
  · rw [if_neg h4, if_neg h4]
end Go.Proofs.YtgemmidkfeebfaaDoor
