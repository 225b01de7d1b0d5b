/- Several texts in one, each with its own words ahead: Math, Four, ShM, ShN. -/
import Derived.Laws.BitsAllLaws
set_option maxRecDepth 100000
/- Plain arithmetic behind the statements on package bits: the cyclic sum and the other sum, on lists of bytes and natural numbers. -/
namespace Go.Proofs.YtgemmidkfeebfaaDoor
set_option maxRecDepth 100000
open Go

/-- One bit of the cyclic sum. -/
def crcBit (c : Nat) : Nat := if c % 2 = 1 then (c / 2) ^^^ 3988292384 else c / 2
/-- So many bits of it. -/
def crcBits : Nat → Nat → Nat
  | 0, c => c
  | n + 1, c => crcBit (crcBits n c)
/-- One byte of it. -/
def crcByte (c : Nat) (b : UInt8) : Nat := crcBits 8 (c ^^^ b.toNat)
def crcRaw (l : List UInt8) : Nat := l.foldl crcByte 4294967295
def crcSum (l : List UInt8) : Nat := crcRaw l ^^^ 4294967295

theorem xor_lt32 {a b : Nat} (ha : a < 4294967296) (hb : b < 4294967296) : a ^^^ b < 4294967296 :=
  Nat.xor_lt_two_pow (n := 32) (by omega) (by omega)
theorem crcBit_lt {c : Nat} (h : c < 4294967296) : crcBit c < 4294967296 := by
  unfold crcBit
  split
  · exact xor_lt32 (by omega) (by decide)
  · omega
theorem crcBits_lt {c : Nat} (n : Nat) (h : c < 4294967296) : crcBits n c < 4294967296 := by
  induction n with
  | zero => exact h
  | succ n ih => exact crcBit_lt ih
theorem crcByte_lt {c : Nat} (b : UInt8) (h : c < 4294967296) : crcByte c b < 4294967296 :=
  crcBits_lt 8 (xor_lt32 h (by have := b.toNat_lt; omega))
theorem crcFold_lt (l : List UInt8) : ∀ c : Nat, c < 4294967296 → l.foldl crcByte c < 4294967296 := by
  induction l with
  | nil => intro c h; exact h
  | cons b l ih => intro c h; exact ih _ (crcByte_lt b h)
theorem crcRaw_lt (l : List UInt8) : crcRaw l < 4294967296 := crcFold_lt l _ (by decide)
theorem crcSum_lt (l : List UInt8) : crcSum l < 4294967296 := xor_lt32 (crcRaw_lt l) (by decide)
theorem crcRaw_snoc (l : List UInt8) (b : UInt8) : crcRaw (l ++ [b]) = crcByte (crcRaw l) b := by
  unfold crcRaw; rw [List.foldl_append]; rfl

/-- The other sum: its two halves. -/
def adA (l : List UInt8) : Nat := l.foldl (fun a b => (a + b.toNat) % 65521) 1
def adP (l : List UInt8) : Nat × Nat := l.foldl (fun p b => ((p.1 + b.toNat) % 65521, (p.2 + (p.1 + b.toNat) % 65521) % 65521)) (1, 0)
def adSum (l : List UInt8) : Nat := 65536 * (adP l).2 + (adP l).1
theorem adP_snoc (l : List UInt8) (b : UInt8) : adP (l ++ [b]) = (((adP l).1 + b.toNat) % 65521, ((adP l).2 + ((adP l).1 + b.toNat) % 65521) % 65521) := by
  unfold adP; rw [List.foldl_append]; rfl
theorem adP_lt' (l : List UInt8) : ∀ p : Nat × Nat, p.1 < 65521 → p.2 < 65521 →
    (l.foldl (fun p b => ((p.1 + b.toNat) % 65521, (p.2 + (p.1 + b.toNat) % 65521) % 65521)) p).1 < 65521 ∧ (l.foldl (fun (p : Nat × Nat) (b : UInt8) => ((p.1 + b.toNat) % 65521, (p.2 + (p.1 + b.toNat) % 65521) % 65521)) p).2 < 65521 := by
  induction l with
  | nil => intro p h1 h2; exact ⟨h1, h2⟩
  | cons b l ih => intro p _ _; exact ih _ (Nat.mod_lt _ (by decide)) (Nat.mod_lt _ (by decide))
theorem adP_lt (l : List UInt8) : (adP l).1 < 65521 ∧ (adP l).2 < 65521 := adP_lt' l _ (by decide) (by decide)

theorem take_snoc (s : ByteArray) (k : Nat) (h : k < s.size) : s.data.toList.take (k + 1) = s.data.toList.take k ++ [s[k]] := by
  rw [List.take_succ_eq_append_getElem (by simpa using h)]; rfl
theorem take_all (s : ByteArray) : s.data.toList.take s.size = s.data.toList := List.take_of_length_le (Nat.le_of_eq (Array.length_toList.trans rfl))
end Go.Proofs.YtgemmidkfeebfaaDoor
/- Plain: a number as four bytes, strings as lists of bytes. -/
set_option linter.unusedVariables false
namespace Go.Proofs.YtgemmidkfeebfaaDoor
open Go

/-- A number as four bytes, the highest one first. -/
def fourL (n : Nat) : List UInt8 := [UInt8.ofNat (n / 16777216), UInt8.ofNat (n / 65536), UInt8.ofNat (n / 256), UInt8.ofNat n]
/-- The number of bytes, the highest one first. -/
def ofL (l : List UInt8) : Nat := l.foldl (fun n b => 256 * n + b.toNat) 0
theorem ofL_four {n : Nat} (h : n < 4294967296) : ofL (fourL n) = n := by
  have a := UInt8.toNat_ofNat' (n := n / 16777216)
  have b := UInt8.toNat_ofNat' (n := n / 65536)
  have c := UInt8.toNat_ofNat' (n := n / 256)
  have d := UInt8.toNat_ofNat' (n := n)
  show 256 * (256 * (256 * (256 * 0 + (UInt8.ofNat (n / 16777216)).toNat) + (UInt8.ofNat (n / 65536)).toNat) + (UInt8.ofNat (n / 256)).toNat) + (UInt8.ofNat n).toNat = n
  omega
theorem ofL_inj4 : ∀ {a b : List UInt8}, a.length = 4 → b.length = 4 → ofL a = ofL b → a = b
  | [a1, a2, a3, a4], [b1, b2, b3, b4], _, _, h => by
    have h' : 256 * (256 * (256 * (256 * 0 + a1.toNat) + a2.toNat) + a3.toNat) + a4.toNat = 256 * (256 * (256 * (256 * 0 + b1.toNat) + b2.toNat) + b3.toNat) + b4.toNat := h
    have l1 := a1.toNat_lt; have l2 := a2.toNat_lt; have l3 := a3.toNat_lt; have l4 := a4.toNat_lt
    have m1 := b1.toNat_lt; have m2 := b2.toNat_lt; have m3 := b3.toNat_lt; have m4 := b4.toNat_lt
    have e1 : a1.toNat = b1.toNat := by omega
    have e2 : a2.toNat = b2.toNat := by omega
    have e3 : a3.toNat = b3.toNat := by omega
    have e4 : a4.toNat = b4.toNat := by omega
    rw [UInt8.toNat_inj.1 e1, UInt8.toNat_inj.1 e2, UInt8.toNat_inj.1 e3, UInt8.toNat_inj.1 e4]
/-- Bytes as a string. -/
def strL (l : List UInt8) : ByteArray := ⟨l.toArray⟩
theorem strL_list (l : List UInt8) : (strL l).data.toList = l := by unfold strL; simp
theorem strL_size (l : List UInt8) : (strL l).size = l.length := by unfold strL; show l.toArray.size = l.length; simp
theorem strL_of (s : ByteArray) : strL s.data.toList = s := by unfold strL; apply ByteArray.ext; simp
theorem strL_append (a b : List UInt8) : strL (a ++ b) = strL a ++ strL b := by
  unfold strL
  apply ByteArray.ext
  simp
theorem ext_list (s : ByteArray) (i j : Nat) : s.extract i j = strL ((s.data.toList.take j).drop i) := by
  unfold strL
  apply ByteArray.ext
  rw [ByteArray.data_extract]
  apply Array.ext'
  rw [Array.toList_extract, List.extract_eq_take_drop]
  simp only
  rw [List.drop_take]
theorem fourL_length (n : Nat) : (fourL n).length = 4 := rfl
theorem ofL_lt4 : ∀ {a : List UInt8}, a.length = 4 → ofL a < 4294967296
  | [a1, a2, a3, a4], _ => by
    have l1 := a1.toNat_lt; have l2 := a2.toNat_lt; have l3 := a3.toNat_lt; have l4 := a4.toNat_lt
    show 256 * (256 * (256 * (256 * 0 + a1.toNat) + a2.toNat) + a3.toNat) + a4.toNat < 4294967296
    omega
theorem four_ofL {a : List UInt8} (h : a.length = 4) : fourL (ofL a) = a := ofL_inj4 (fourL_length _) h (ofL_four (ofL_lt4 h))
theorem adSum_lt (l : List UInt8) : adSum l < 4294967296 := by
  have h := adP_lt l
  unfold adSum
  omega
theorem set_ne {l : List UInt8} {k : Nat} {y : UInt8} (hk : k < l.length) (hy : y ≠ l[k]) : l.set k y ≠ l := by
  intro h
  have h1 : (l.set k y)[k]'(by rw [List.length_set]; exact hk) = y := List.getElem_set_self _
  apply hy
  rw [← h1]
  simp only [h]
end Go.Proofs.YtgemmidkfeebfaaDoor
/- Plain mathematics of layer 14: bytes in words of sixteen digits. -/
set_option linter.unusedVariables false
namespace Go.Proofs.YtgemmidkfeebfaaDoor
open Go

/-- A digit of sixteen. -/
def digitB (n : Nat) : UInt8 := if n < 10 then UInt8.ofNat (48 + n) else UInt8.ofNat (87 + n)
theorem digitB_inj {a b : Nat} (ha : a < 16) (hb : b < 16) (h : digitB a = digitB b) : a = b := by
  have h' := congrArg UInt8.toNat h
  unfold digitB at h'
  by_cases h1 : a < 10 <;> by_cases h2 : b < 10
  · rw [if_pos h1, if_pos h2, UInt8.toNat_ofNat', UInt8.toNat_ofNat'] at h'; omega
  · rw [if_pos h1, if_neg h2, UInt8.toNat_ofNat', UInt8.toNat_ofNat'] at h'; omega
  · rw [if_neg h1, if_pos h2, UInt8.toNat_ofNat', UInt8.toNat_ofNat'] at h'; omega
  · rw [if_neg h1, if_neg h2, UInt8.toNat_ofNat', UInt8.toNat_ofNat'] at h'; omega
/-- Bytes in words. -/
def hexL : List UInt8 → List UInt8
  | [] => []
  | b :: l => digitB (b.toNat / 16) :: digitB (b.toNat % 16) :: hexL l
theorem hexL_length (l : List UInt8) : (hexL l).length = 2 * l.length := by
  induction l with
  | nil => rfl
  | cons b l ih => show (hexL l).length + 1 + 1 = 2 * (l.length + 1); omega
theorem hexL_snoc (l : List UInt8) (b : UInt8) : hexL (l ++ [b]) = hexL l ++ [digitB (b.toNat / 16), digitB (b.toNat % 16)] := by
  induction l with
  | nil => rfl
  | cons c l ih => show digitB _ :: digitB _ :: hexL (l ++ [b]) = _; rw [ih]; rfl
theorem hexL_inj : ∀ {a b : List UInt8}, hexL a = hexL b → a = b := by
  intro a
  induction a with
  | nil =>
    intro b h
    cases b with
    | nil => rfl
    | cons y b => exact absurd h (by simp [hexL])
  | cons x a ih =>
    intro b h
    cases b with
    | nil => exact absurd h (by simp [hexL])
    | cons y b =>
      injection h with h1 h2
      injection h2 with h2 h3
      have hx := x.toNat_lt
      have hy := y.toNat_lt
      have e1 := digitB_inj (by omega) (by omega) h1
      have e2 := digitB_inj (by omega) (by omega) h2
      have e : x.toNat = y.toNat := by omega
      rw [UInt8.toNat_inj.1 e, ih h3]
end Go.Proofs.YtgemmidkfeebfaaDoor
/- Plain mathematics of layer 14: the hash of bytes. -/
set_option linter.unusedVariables false
namespace Go.Proofs.YtgemmidkfeebfaaDoor
open Go

/-- A word turned right. -/
def rotT (x n : Nat) : Nat := (x >>> n ||| x <<< (32 - n)) % 4294967296
theorem rotT_lt (x n : Nat) : rotT x n < 4294967296 := Nat.mod_lt _ (by decide)
def kSha : List Nat := [1116352408, 1899447441, 3049323471, 3921009573, 961987163, 1508970993, 2453635748, 2870763221, 3624381080, 310598401, 607225278, 1426881987, 1925078388, 2162078206, 2614888103, 3248222580, 3835390401, 4022224774, 264347078, 604807628, 770255983, 1249150122, 1555081692, 1996064986, 2554220882, 2821834349, 2952996808, 3210313671, 3336571891, 3584528711, 113926993, 338241895, 666307205, 773529912, 1294757372, 1396182291, 1695183700, 1986661051, 2177026350, 2456956037, 2730485921, 2820302411, 3259730800, 3345764771, 3516065817, 3600352804, 4094571909, 275423344, 430227734, 506948616, 659060556, 883997877, 958139571, 1322822218, 1537002063, 1747873779, 1955562222, 2024104815, 2227730452, 2361852424, 2428436474, 2756734187, 3204031479, 3329325298]
def hSha : List Nat := [1779033703, 3144134277, 1013904242, 2773480762, 1359893119, 2600822924, 528734635, 1541459225]
theorem kSha_length : kSha.length = 64 := by decide
/-- The word behind so many. -/
def nextWd (w : List Nat) : Nat :=
  (w.getD (w.length - 16) 0 + (rotT (w.getD (w.length - 15) 0) 7 ^^^ rotT (w.getD (w.length - 15) 0) 18 ^^^ w.getD (w.length - 15) 0 >>> 3) + w.getD (w.length - 7) 0 +
    (rotT (w.getD (w.length - 2) 0) 17 ^^^ rotT (w.getD (w.length - 2) 0) 19 ^^^ w.getD (w.length - 2) 0 >>> 10)) % 4294967296
def extWd : Nat → List Nat → List Nat
  | 0, w => w
  | n + 1, w => extWd n (w ++ [nextWd w])
/-- The sixteen words of a block. -/
def wordsB (b : List UInt8) : List Nat := (List.range 16).map fun t => ofL ((b.drop (4 * t)).take 4)
/-- One round: the eight words that stand then. -/
def shaX (v : List Nat) (k w : Nat) : Nat := (v.getD 7 0 + (rotT (v.getD 4 0) 6 ^^^ rotT (v.getD 4 0) 11 ^^^ rotT (v.getD 4 0) 25) + ((v.getD 4 0 &&& v.getD 5 0) ^^^ ((4294967295 - v.getD 4 0) &&& v.getD 6 0)) + k + w) % 4294967296
def shaY (v : List Nat) : Nat := ((rotT (v.getD 0 0) 2 ^^^ rotT (v.getD 0 0) 13 ^^^ rotT (v.getD 0 0) 22) + ((v.getD 0 0 &&& v.getD 1 0) ^^^ (v.getD 0 0 &&& v.getD 2 0) ^^^ (v.getD 1 0 &&& v.getD 2 0))) % 4294967296
def roundS (v : List Nat) (k w : Nat) : List Nat := [(shaX v k w + shaY v) % 4294967296, v.getD 0 0, v.getD 1 0, v.getD 2 0, (v.getD 3 0 + shaX v k w) % 4294967296, v.getD 4 0, v.getD 5 0, v.getD 6 0]
/-- So many rounds. -/
def roundsS (w : List Nat) (v : List Nat) (n : Nat) : List Nat := (List.range n).foldl (fun v t => roundS v (kSha.getD t 0) (w.getD t 0)) v
theorem roundsS_succ (w v : List Nat) (n : Nat) : roundsS w v (n + 1) = roundS (roundsS w v n) (kSha.getD n 0) (w.getD n 0) := by
  unfold roundsS
  rw [List.range_succ, List.foldl_append]
  rfl
def addS (h v : List Nat) : List Nat := (List.range 8).map fun i => (h.getD i 0 + v.getD i 0) % 4294967296
/-- One block. -/
def blockS (h : List Nat) (b : List UInt8) : List Nat := addS h (roundsS (extWd 48 (wordsB b)) h 64)
/-- So many blocks. -/
def blocksS : Nat → List UInt8 → List Nat → List Nat
  | 0, _, h => h
  | n + 1, s, h => blocksS n (s.drop 64) (blockS h (s.take 64))
/-- How many noughts are filled in. -/
def padN (n : Nat) : Nat := (119 - n % 64) % 64
def eightL (n : Nat) : List UInt8 := fourL (n / 4294967296) ++ fourL n
def fillT (l : List UInt8) : List UInt8 := l ++ (128 :: (List.replicate (padN l.length) 0 ++ eightL (8 * l.length)))
theorem fillT_length (l : List UInt8) : (fillT l).length % 64 = 0 ∧ (fillT l).length = l.length + padN l.length + 9 := by
  unfold fillT eightL
  simp only [List.length_append, List.length_cons, List.length_replicate, fourL_length]
  unfold padN
  omega
def outS (h : List Nat) : List UInt8 := (List.range 8).flatMap fun i => fourL (h.getD i 0)
theorem outS_length (h : List Nat) : (outS h).length = 32 := by
  unfold outS
  have : ∀ (f : Nat → List UInt8), (∀ i, (f i).length = 4) → ∀ l : List Nat, (l.flatMap f).length = 4 * l.length := by
    intro f hf l
    induction l with
    | nil => rfl
    | cons x l ih => rw [List.flatMap_cons, List.length_append, hf, ih, List.length_cons]; omega
  rw [this _ (fun i => fourL_length _)]
  rfl
/-- The hash of bytes. -/
def shaT (l : List UInt8) : List UInt8 := outS (blocksS ((fillT l).length / 64) (fillT l) hSha)
theorem shaT_length (l : List UInt8) : (shaT l).length = 32 := outS_length _
/-- Words that are less than 2^32. -/
def Small (l : List Nat) : Prop := ∀ i, l.getD i 0 < 4294967296
theorem small_hSha : Small hSha := by
  intro i
  by_cases h : i < 8
  · have : ∀ i, i < 8 → hSha.getD i 0 < 4294967296 := by decide
    exact this i h
  · rw [List.getD_eq_getElem?_getD, List.getElem?_eq_none (by show 8 ≤ i; omega)]; decide
theorem small_kSha : Small kSha := by
  intro i
  by_cases h : i < 64
  · have : ∀ i, i < 64 → kSha.getD i 0 < 4294967296 := by decide
    exact this i h
  · rw [List.getD_eq_getElem?_getD, List.getElem?_eq_none (by rw [kSha_length]; omega)]; decide
theorem small_round {v : List Nat} (hv : Small v) (k w : Nat) : Small (roundS v k w) := by
  intro i
  match i with
  | 0 => exact Nat.mod_lt _ (by decide)
  | 1 => exact hv 0
  | 2 => exact hv 1
  | 3 => exact hv 2
  | 4 => exact Nat.mod_lt _ (by decide)
  | 5 => exact hv 4
  | 6 => exact hv 5
  | 7 => exact hv 6
  | _ + 8 => show (0 : Nat) < _; decide
theorem small_rounds (w : List Nat) {v : List Nat} (hv : Small v) : ∀ n, Small (roundsS w v n)
  | 0 => hv
  | n + 1 => by rw [roundsS_succ]; exact small_round (small_rounds w hv n) _ _
theorem small_add (h v : List Nat) : Small (addS h v) := by
  intro i
  unfold addS
  simp only [List.getD_eq_getElem?_getD, List.getElem?_map]
  by_cases hi : i < 8
  · rw [List.getElem?_range hi]; exact Nat.mod_lt _ (by decide)
  · rw [List.getElem?_eq_none (by rw [List.length_range]; omega)]; show (0 : Nat) < _; decide
theorem small_snoc {w : List Nat} (hw : Small w) {x : Nat} (hx : x < 4294967296) : Small (w ++ [x]) := by
  intro i
  have h := hw i
  simp only [List.getD_eq_getElem?_getD] at h ⊢
  by_cases hi : i < w.length
  · rw [List.getElem?_append_left hi]; exact h
  · rw [List.getElem?_append_right (by omega)]
    by_cases h0 : i - w.length = 0
    · rw [h0]; exact hx
    · rw [List.getElem?_eq_none (by simp; omega)]; show (0 : Nat) < _; decide
theorem extWd_length : ∀ (n : Nat) (w : List Nat), (extWd n w).length = w.length + n
  | 0, w => rfl
  | n + 1, w => by
    show (extWd n (w ++ [nextWd w])).length = _
    rw [extWd_length n, List.length_append, List.length_singleton]; omega
theorem small_ext : ∀ (n : Nat) {w : List Nat}, Small w → Small (extWd n w)
  | 0, _, hw => hw
  | n + 1, w, hw => small_ext n (small_snoc hw (Nat.mod_lt _ (by decide)))
theorem extWd_succ : ∀ (n : Nat) (w : List Nat), extWd (n + 1) w = extWd n w ++ [nextWd (extWd n w)]
  | 0, w => rfl
  | n + 1, w => by
    show extWd (n + 1) (w ++ [nextWd w]) = _
    rw [extWd_succ n]; rfl
theorem small_words (b : List UInt8) : Small (wordsB b) := by
  intro i
  unfold wordsB
  simp only [List.getD_eq_getElem?_getD, List.getElem?_map]
  by_cases hi : i < 16
  · rw [List.getElem?_range hi]
    show ofL ((b.drop (4 * i)).take 4) < 4294967296
    have gen : ∀ l : List UInt8, l.length ≤ 4 → ofL l < 4294967296 := by
      intro l hl
      match l, hl with
      | [], _ => decide
      | [a], _ => have := a.toNat_lt; show 256 * 0 + a.toNat < _; omega
      | [a, b], _ => have := a.toNat_lt; have := b.toNat_lt; show 256 * (256 * 0 + a.toNat) + b.toNat < _; omega
      | [a, b, c], _ => have := a.toNat_lt; have := b.toNat_lt; have := c.toNat_lt; show 256 * (256 * (256 * 0 + a.toNat) + b.toNat) + c.toNat < _; omega
      | [a, b, c, d], _ => exact ofL_lt4 rfl
    exact gen _ (by rw [List.length_take]; omega)
  · rw [List.getElem?_eq_none (by rw [List.length_range]; omega)]; show (0 : Nat) < _; decide
theorem small_block (h : List Nat) (b : List UInt8) : Small (blockS h b) := small_add _ _
theorem blocksS_step (n : Nat) (s : List UInt8) (h : List Nat) : blocksS (n + 1) s h = blocksS n (s.drop 64) (blockS h (s.take 64)) := rfl
/-- A word turned, as it is laid in 32 bits. -/
theorem rotT_u32 {x n : Nat} (hx : x < 4294967296) (h1 : 1 ≤ n) (h2 : n ≤ 31) : rotT x n = x / 2 ^ n ||| x * 2 ^ (32 - n) % 4294967296 := by
  unfold rotT
  rw [show (4294967296 : Nat) = 2 ^ 32 from rfl, Nat.or_mod_two_pow, Nat.shiftRight_eq_div_pow, Nat.shiftLeft_eq]
  congr 1
  rw [Nat.mod_eq_of_lt]
  exact Nat.lt_of_le_of_lt (Nat.div_le_self _ _) hx
theorem sha_none : hexL (shaT []) = [101, 51, 98, 48, 99, 52, 52, 50, 57, 56, 102, 99, 49, 99, 49, 52, 57, 97, 102, 98, 102, 52, 99, 56, 57, 57, 54, 102, 98, 57, 50, 52, 50, 55, 97, 101, 52, 49, 101, 52, 54, 52, 57, 98, 57, 51, 52, 99, 97, 52, 57, 53, 57, 57, 49, 98, 55, 56, 53, 50, 98, 56, 53, 53] := by decide +kernel
theorem sha_abc : hexL (shaT [97, 98, 99]) = [98, 97, 55, 56, 49, 54, 98, 102, 56, 102, 48, 49, 99, 102, 101, 97, 52, 49, 52, 49, 52, 48, 100, 101, 53, 100, 97, 101, 50, 50, 50, 51, 98, 48, 48, 51, 54, 49, 97, 51, 57, 54, 49, 55, 55, 97, 57, 99, 98, 52, 49, 48, 102, 102, 54, 49, 102, 50, 48, 48, 49, 53, 97, 100] := by decide +kernel
end Go.Proofs.YtgemmidkfeebfaaDoor
