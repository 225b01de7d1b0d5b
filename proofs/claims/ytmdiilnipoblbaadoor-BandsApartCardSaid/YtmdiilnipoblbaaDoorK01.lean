/- Several texts in one: Four, ShN, ChM, HeM, BaM, BaN, FiM, LaM, PiM, Mem, ZlA, HdA, SbA, SbB, RegM, RwF, SbC, SbD, SbG, SbK, RegZ, LcA (what BandsApart, BandsCuts, BandsJoins, BandsManifest, BandsNames, BandsReads reach of them). -/
import Derived.Below
import Derived.BigQuiet
import Derived.BigRegion
import Derived.Deep.AppendLies
import Derived.Deep.Cut
import Derived.Deep.CutBlock
import Derived.Deep.CutRange
import Derived.Deep.DeepCutAuto
import Derived.Deep.Draws
import Derived.Deep.QuietTactic
import Derived.Deep.RegionLaw
import Derived.Deep.RegionWith
import Derived.Handy
import Derived.Laws.BitsAllLaws
import Derived.Laws.BitsLemmas
import Derived.Laws.BytesArg
import Derived.Laws.IdiomStrings
import Derived.Laws.MakeOwn
import Derived.Laws.OwnMore
import Derived.Laws.Rows
import Derived.Laws.StructEq
import Derived.Lib.Hide
import Derived.Maps.AppendAt
import Derived.OrdersHeld
import Derived.OrdersIn
import Derived.Outline
import Derived.OwnWalk
import Derived.OwnWalkIn
import Derived.RangeFuncCalls
import Derived.RegionTactic
import Derived.TacticsInMore
import Derived.Test.YtmdiilnipoblbaaDoorChecked
import Derived.WalkKit
set_option maxRecDepth 100000
set_option linter.unusedVariables false
set_option linter.unusedVariables false
namespace Go.Proofs.YtmdiilnipoblbaaDoor
set_option maxRecDepth 100000
open Go
/-- A number as four bytes, the highest one first. -/
def fourL (n : Nat) : List UInt8 := [UInt8.ofNat (n / 16777216), UInt8.ofNat (n / 65536), UInt8.ofNat (n / 256), UInt8.ofNat n]
/-- The number of bytes, the highest one first. -/
def ofL (l : List UInt8) : Nat := l.foldl (fun n b => 256 * n + b.toNat) 0
/-- Bytes as a string. -/
def strL (l : List UInt8) : ByteArray := ⟨l.toArray⟩
theorem strL_list (l : List UInt8) : (strL l).data.toList = l := by unfold strL; simp
theorem strL_size (l : List UInt8) : (strL l).size = l.length := by unfold strL; show l.toArray.size = l.length; simp
theorem strL_of (s : ByteArray) : strL s.data.toList = s := by unfold strL; apply ByteArray.ext; simp
theorem strL_append (a b : List UInt8) : strL (a ++ b) = strL a ++ strL b := by
  unfold strL
  apply ByteArray.ext
  simp
theorem ext_list (s : ByteArray) (i j : Nat) : s.extract i j = strL ((s.data.toList.take j).drop i) := by
  unfold strL
  apply ByteArray.ext
  rw [ByteArray.data_extract]
  apply Array.ext'
  rw [Array.toList_extract, List.extract_eq_take_drop]
  simp only
  rw [List.drop_take]
theorem fourL_length (n : Nat) : (fourL n).length = 4 := rfl
theorem ofL_lt4 : ∀ {a : List UInt8}, a.length = 4 → ofL a < 4294967296
  | [a1, a2, a3, a4], _ => by
    have l1 := a1.toNat_lt; have l2 := a2.toNat_lt; have l3 := a3.toNat_lt; have l4 := a4.toNat_lt
    show 256 * (256 * (256 * (256 * 0 + a1.toNat) + a2.toNat) + a3.toNat) + a4.toNat < 4294967296
    omega
end Go.Proofs.YtmdiilnipoblbaaDoor
set_option linter.unusedVariables false
namespace Go.Proofs.YtmdiilnipoblbaaDoor
set_option maxRecDepth 100000
open Go
/-- A word turned right. -/
def rotT (x n : Nat) : Nat := (x >>> n ||| x <<< (32 - n)) % 4294967296
theorem rotT_lt (x n : Nat) : rotT x n < 4294967296 := Nat.mod_lt _ (by decide)
def kSha : List Nat := [1116352408, 1899447441, 3049323471, 3921009573, 961987163, 1508970993, 2453635748, 2870763221, 3624381080, 310598401, 607225278, 1426881987, 1925078388, 2162078206, 2614888103, 3248222580, 3835390401, 4022224774, 264347078, 604807628, 770255983, 1249150122, 1555081692, 1996064986, 2554220882, 2821834349, 2952996808, 3210313671, 3336571891, 3584528711, 113926993, 338241895, 666307205, 773529912, 1294757372, 1396182291, 1695183700, 1986661051, 2177026350, 2456956037, 2730485921, 2820302411, 3259730800, 3345764771, 3516065817, 3600352804, 4094571909, 275423344, 430227734, 506948616, 659060556, 883997877, 958139571, 1322822218, 1537002063, 1747873779, 1955562222, 2024104815, 2227730452, 2361852424, 2428436474, 2756734187, 3204031479, 3329325298]
def hSha : List Nat := [1779033703, 3144134277, 1013904242, 2773480762, 1359893119, 2600822924, 528734635, 1541459225]
theorem kSha_length : kSha.length = 64 := by decide
/-- The word behind so many. -/
def nextWd (w : List Nat) : Nat :=
  (w.getD (w.length - 16) 0 + (rotT (w.getD (w.length - 15) 0) 7 ^^^ rotT (w.getD (w.length - 15) 0) 18 ^^^ w.getD (w.length - 15) 0 >>> 3) + w.getD (w.length - 7) 0 +
    (rotT (w.getD (w.length - 2) 0) 17 ^^^ rotT (w.getD (w.length - 2) 0) 19 ^^^ w.getD (w.length - 2) 0 >>> 10)) % 4294967296
def extWd : Nat → List Nat → List Nat
  | 0, w => w
  | n + 1, w => extWd n (w ++ [nextWd w])
/-- The sixteen words of a block. -/
def wordsB (b : List UInt8) : List Nat := (List.range 16).map fun t => ofL ((b.drop (4 * t)).take 4)
/-- One round: the eight words that stand then. -/
def shaX (v : List Nat) (k w : Nat) : Nat := (v.getD 7 0 + (rotT (v.getD 4 0) 6 ^^^ rotT (v.getD 4 0) 11 ^^^ rotT (v.getD 4 0) 25) + ((v.getD 4 0 &&& v.getD 5 0) ^^^ ((4294967295 - v.getD 4 0) &&& v.getD 6 0)) + k + w) % 4294967296
def shaY (v : List Nat) : Nat := ((rotT (v.getD 0 0) 2 ^^^ rotT (v.getD 0 0) 13 ^^^ rotT (v.getD 0 0) 22) + ((v.getD 0 0 &&& v.getD 1 0) ^^^ (v.getD 0 0 &&& v.getD 2 0) ^^^ (v.getD 1 0 &&& v.getD 2 0))) % 4294967296
def roundS (v : List Nat) (k w : Nat) : List Nat := [(shaX v k w + shaY v) % 4294967296, v.getD 0 0, v.getD 1 0, v.getD 2 0, (v.getD 3 0 + shaX v k w) % 4294967296, v.getD 4 0, v.getD 5 0, v.getD 6 0]
/-- So many rounds. -/
def roundsS (w : List Nat) (v : List Nat) (n : Nat) : List Nat := (List.range n).foldl (fun v t => roundS v (kSha.getD t 0) (w.getD t 0)) v
theorem roundsS_succ (w v : List Nat) (n : Nat) : roundsS w v (n + 1) = roundS (roundsS w v n) (kSha.getD n 0) (w.getD n 0) := by
  unfold roundsS
  rw [List.range_succ, List.foldl_append]
  rfl
def addS (h v : List Nat) : List Nat := (List.range 8).map fun i => (h.getD i 0 + v.getD i 0) % 4294967296
/-- One block. -/
def blockS (h : List Nat) (b : List UInt8) : List Nat := addS h (roundsS (extWd 48 (wordsB b)) h 64)
/-- So many blocks. -/
def blocksS : Nat → List UInt8 → List Nat → List Nat
  | 0, _, h => h
  | n + 1, s, h => blocksS n (s.drop 64) (blockS h (s.take 64))
/-- How many noughts are filled in. -/
def padN (n : Nat) : Nat := (119 - n % 64) % 64
def eightL (n : Nat) : List UInt8 := fourL (n / 4294967296) ++ fourL n
def fillT (l : List UInt8) : List UInt8 := l ++ (128 :: (List.replicate (padN l.length) 0 ++ eightL (8 * l.length)))
def outS (h : List Nat) : List UInt8 := (List.range 8).flatMap fun i => fourL (h.getD i 0)
theorem outS_length (h : List Nat) : (outS h).length = 32 := by
  unfold outS
  have : ∀ (f : Nat → List UInt8), (∀ i, (f i).length = 4) → ∀ l : List Nat, (l.flatMap f).length = 4 * l.length := by
    intro f hf l
    induction l with
    | nil => rfl
    | cons x l ih => rw [List.flatMap_cons, List.length_append, hf, ih, List.length_cons]; omega
  rw [this _ (fun i => fourL_length _)]
  rfl
/-- The hash of bytes. -/
def shaT (l : List UInt8) : List UInt8 := outS (blocksS ((fillT l).length / 64) (fillT l) hSha)
theorem shaT_length (l : List UInt8) : (shaT l).length = 32 := outS_length _
/-- Words that are less than 2^32. -/
def Small (l : List Nat) : Prop := ∀ i, l.getD i 0 < 4294967296
theorem small_hSha : Small hSha := by
  intro i
  by_cases h : i < 8
  · have : ∀ i, i < 8 → hSha.getD i 0 < 4294967296 := by decide
    exact this i h
  · rw [List.getD_eq_getElem?_getD, List.getElem?_eq_none (by show 8 ≤ i; omega)]; decide
theorem small_kSha : Small kSha := by
  intro i
  by_cases h : i < 64
  · have : ∀ i, i < 64 → kSha.getD i 0 < 4294967296 := by decide
    exact this i h
  · rw [List.getD_eq_getElem?_getD, List.getElem?_eq_none (by rw [kSha_length]; omega)]; decide
theorem small_round {v : List Nat} (hv : Small v) (k w : Nat) : Small (roundS v k w) := by
  intro i
  match i with
  | 0 => exact Nat.mod_lt _ (by decide)
  | 1 => exact hv 0
  | 2 => exact hv 1
  | 3 => exact hv 2
  | 4 => exact Nat.mod_lt _ (by decide)
  | 5 => exact hv 4
  | 6 => exact hv 5
  | 7 => exact hv 6
  | _ + 8 => show (0 : Nat) < _; decide
theorem small_rounds (w : List Nat) {v : List Nat} (hv : Small v) : ∀ n, Small (roundsS w v n)
  | 0 => hv
  | n + 1 => by rw [roundsS_succ]; exact small_round (small_rounds w hv n) _ _
theorem small_add (h v : List Nat) : Small (addS h v) := by
  intro i
  unfold addS
  simp only [List.getD_eq_getElem?_getD, List.getElem?_map]
  by_cases hi : i < 8
  · rw [List.getElem?_range hi]; exact Nat.mod_lt _ (by decide)
  · rw [List.getElem?_eq_none (by rw [List.length_range]; omega)]; show (0 : Nat) < _; decide
theorem small_snoc {w : List Nat} (hw : Small w) {x : Nat} (hx : x < 4294967296) : Small (w ++ [x]) := by
  intro i
  have h := hw i
  simp only [List.getD_eq_getElem?_getD] at h ⊢
  by_cases hi : i < w.length
  · rw [List.getElem?_append_left hi]; exact h
  · rw [List.getElem?_append_right (by omega)]
    by_cases h0 : i - w.length = 0
    · rw [h0]; exact hx
    · rw [List.getElem?_eq_none (by simp; omega)]; show (0 : Nat) < _; decide
theorem extWd_length : ∀ (n : Nat) (w : List Nat), (extWd n w).length = w.length + n
  | 0, w => rfl
  | n + 1, w => by
    show (extWd n (w ++ [nextWd w])).length = _
    rw [extWd_length n, List.length_append, List.length_singleton]; omega
theorem small_ext : ∀ (n : Nat) {w : List Nat}, Small w → Small (extWd n w)
  | 0, _, hw => hw
  | n + 1, w, hw => small_ext n (small_snoc hw (Nat.mod_lt _ (by decide)))
theorem extWd_succ : ∀ (n : Nat) (w : List Nat), extWd (n + 1) w = extWd n w ++ [nextWd (extWd n w)]
  | 0, w => rfl
  | n + 1, w => by
    show extWd (n + 1) (w ++ [nextWd w]) = _
    rw [extWd_succ n]; rfl
theorem small_words (b : List UInt8) : Small (wordsB b) := by
  intro i
  unfold wordsB
  simp only [List.getD_eq_getElem?_getD, List.getElem?_map]
  by_cases hi : i < 16
  · rw [List.getElem?_range hi]
    show ofL ((b.drop (4 * i)).take 4) < 4294967296
    have gen : ∀ l : List UInt8, l.length ≤ 4 → ofL l < 4294967296 := by
      intro l hl
      match l, hl with
      | [], _ => decide
      | [a], _ => have := a.toNat_lt; show 256 * 0 + a.toNat < _; omega
      | [a, b], _ => have := a.toNat_lt; have := b.toNat_lt; show 256 * (256 * 0 + a.toNat) + b.toNat < _; omega
      | [a, b, c], _ => have := a.toNat_lt; have := b.toNat_lt; have := c.toNat_lt; show 256 * (256 * (256 * 0 + a.toNat) + b.toNat) + c.toNat < _; omega
      | [a, b, c, d], _ => exact ofL_lt4 rfl
    exact gen _ (by rw [List.length_take]; omega)
  · rw [List.getElem?_eq_none (by rw [List.length_range]; omega)]; show (0 : Nat) < _; decide
end Go.Proofs.YtmdiilnipoblbaaDoor
set_option linter.unusedVariables false
namespace Go.Proofs.YtmdiilnipoblbaaDoor
set_option maxRecDepth 100000
open Go
/-- A chunk: its type, its data. -/
abbrev Ck := List UInt8 × List UInt8
section one
variable {t d rest : List UInt8}
end one
end Go.Proofs.YtmdiilnipoblbaaDoor
set_option linter.unusedVariables false
namespace Go.Proofs.YtmdiilnipoblbaaDoor
set_option maxRecDepth 100000
open Go
/-- May a head be? -/
def depthOk (d c : Int) : Bool := decide (c = 0 ∧ (d = 1 ∨ d = 2 ∨ d = 4 ∨ d = 8 ∨ d = 16) ∨ c = 3 ∧ (d = 1 ∨ d = 2 ∨ d = 4 ∨ d = 8) ∨ (c = 2 ∨ c = 4 ∨ c = 6) ∧ (d = 8 ∨ d = 16))
def rightH (w h d c lace : Int) : Int :=
  if w < 1 ∨ 2147483647 < w ∨ h < 1 ∨ 2147483647 < h ∨ depthOk d c = false ∨ (lace ≠ 0 ∧ lace ≠ 1) then 24 else
  if 1024 < w ∨ 1024 < h ∨ 4096 < w * h then 5 else 0
/-- What stands of an image while its chunks are gone through. -/
structure HS where
  pal : Bool
  trans : Bool
  idat : Bool
  gap : Bool
  P : List UInt8
  T : List UInt8
  D : List UInt8
def hs0 : HS := ⟨false, false, false, false, [], [], []⟩
end Go.Proofs.YtmdiilnipoblbaaDoor
set_option linter.unusedVariables false
namespace Go.Proofs.YtmdiilnipoblbaaDoor
set_option maxRecDepth 100000
open Go
/-- How many bands so many rows have. -/
def manyB (h : Nat) : Nat := (h + 7) / 8
/-- A band: eight rows, or what is left. -/
def bandB (w i : Nat) (pix : List UInt8) : List UInt8 := (pix.drop (64 * w * i)).take (64 * w)
def bandsB (w h : Nat) (pix : List UInt8) : List (List UInt8) := (List.range (manyB h)).map fun i => bandB w i pix
def sizeB (w h i : Nat) : Nat := 8 * w * min 8 (h - i * 8)
def manB (w h : Nat) (pix : List UInt8) : List UInt8 := fourL w ++ (fourL h ++ (bandsB w h pix).flatMap shaT)
theorem bandsB_length (w h : Nat) (pix : List UInt8) : (bandsB w h pix).length = manyB h := by unfold bandsB; rw [List.length_map, List.length_range]
theorem bandsB_at {w h i : Nat} {pix : List UInt8} (hi : i < manyB h) : (bandsB w h pix)[i]? = some (bandB w i pix) := by
  unfold bandsB
  rw [List.getElem?_map, List.getElem?_range hi]
  rfl
/-- What is left ahead of a band. -/
theorem left_len {w h i : Nat} {pix : List UInt8} (hp : pix.length = 8 * w * h) (hi : i * 8 ≤ h) : (pix.drop (64 * w * i)).length = 8 * w * (h - i * 8) := by
  have e : 64 * w * i = 8 * w * (i * 8) := by
    rw [Nat.mul_assoc, Nat.mul_assoc 8 w, ← Nat.mul_assoc w i 8]
    generalize w * i = z
    omega
  rw [List.length_drop, hp, e, ← Nat.mul_sub]
theorem many_lt {h i : Nat} (hi : i < manyB h) : i * 8 < h := by unfold manyB at hi; omega
theorem size_left {w h i : Nat} (hi : i < manyB h) : sizeB w h i = if 8 ≤ h - i * 8 then 64 * w else 8 * w * (h - i * 8) := by
  unfold sizeB
  split
  · rename_i h8
    rw [Nat.min_eq_left h8, Nat.mul_right_comm]
  · rename_i h8
    rw [Nat.min_eq_right (by omega)]
theorem band_len {w h i : Nat} {pix : List UInt8} (hp : pix.length = 8 * w * h) (hi : i < manyB h) : (bandB w i pix).length = sizeB w h i := by
  have hl := left_len (w := w) (i := i) hp (Nat.le_of_lt (many_lt hi))
  unfold bandB
  rw [List.length_take, hl, size_left hi]
  split
  · rename_i h8
    have : 64 * w ≤ 8 * w * (h - i * 8) := by
      rw [show 64 * w = 8 * w * 8 by omega]
      exact Nat.mul_le_mul_left _ h8
    omega
  · rename_i h8
    have : 8 * w * (h - i * 8) ≤ 64 * w := by
      rw [show 64 * w = 8 * w * 8 by omega]
      exact Nat.mul_le_mul_left _ (by omega)
    omega
theorem hashes_len (L : List (List UInt8)) : (L.flatMap shaT).length = 32 * L.length := by
  induction L with
  | nil => rfl
  | cons x L ih => rw [List.flatMap_cons, List.length_append, shaT_length, ih, List.length_cons]; omega
theorem man_len (w h : Nat) (pix : List UInt8) : (manB w h pix).length = 8 + 32 * manyB h := by
  unfold manB
  rw [List.length_append, List.length_append, fourL_length, fourL_length, hashes_len, bandsB_length]
  omega
end Go.Proofs.YtmdiilnipoblbaaDoor
set_option linter.unusedVariables false
namespace Go.Proofs.YtmdiilnipoblbaaDoor
set_option maxRecDepth 100000
open Go
/-- Which texts may be names. -/
def okName (l : List UInt8) : Prop := 1 ≤ l.length ∧ l.length ≤ 32 ∧ ∀ i, i < l.length → 33 ≤ (l.getD i 0).toNat ∧ (l.getD i 0).toNat ≤ 126
end Go.Proofs.YtmdiilnipoblbaaDoor
set_option linter.unusedVariables false
namespace Go.Proofs.YtmdiilnipoblbaaDoor
set_option maxRecDepth 100000
open Go
theorem getD_lt {s : List UInt8} {i : Nat} (h : i < s.length) : s.getD i 0 = s[i] := by
  rw [List.getD_eq_getElem?_getD, List.getElem?_eq_getElem h]; rfl
end Go.Proofs.YtmdiilnipoblbaaDoor
set_option linter.unusedVariables false
namespace Go.Proofs.YtmdiilnipoblbaaDoor
set_option maxRecDepth 100000
open Go
/-- How many of first, first and step, .. are below n. -/
def manyL (n first step : Nat) : Nat := (n - first + step - 1) / step
/-- A pass: X, Y, DX, DY. -/
structure PassL where
  x : Nat
  y : Nat
  dx : Nat
  dy : Nat
end Go.Proofs.YtmdiilnipoblbaaDoor
set_option linter.unusedVariables false
namespace Go.Proofs.YtmdiilnipoblbaaDoor
set_option maxRecDepth 100000
open Go
/-- How many samples a pixel of a colour has. -/
def samplesN (c : Nat) : Nat := if c = 0 ∨ c = 3 then 1 else if c = 4 then 2 else if c = 2 then 3 else if c = 6 then 4 else 0
end Go.Proofs.YtmdiilnipoblbaaDoor
namespace Go.Proofs.YtmdiilnipoblbaaDoor
set_option maxRecDepth 100000
open Go Go.RowKit
/-- Block b is just these cells; none is frozen. -/
def Is (w : World) (b : Nat) (t : TypeId) (cs : Array Value) : Prop := w.heap[b]? = some (.cells cs t (0, 0))
/-- Whatever is no block of S is as it was. -/
structure But (S : List Nat) (w w' : World) : Prop where
  os : w'.os = w.os
  tape : w'.tape = w.tape
  output : w'.output = w.output
  size : w.heap.size ≤ w'.heap.size
  block : ∀ k, k < w.heap.size → k ∉ S → w'.heap[k]? = w.heap[k]?
/-- A slice's address and length: it reads as these bytes. -/
def ByteRow (w : World) (A : Option Addr) (n : Nat) (l : List UInt8) : Prop :=
  l.length = n ∧ (0 < n → ∃ g o, A = some ⟨g, o, none⟩ ∧ ∀ (i : Nat) (h : i < l.length), w.cell? ⟨g, o + i, none⟩ = some (.int .u8 l[i].toNat))
/-- No cell of the slice lies in block b. -/
def Off (A : Option Addr) (b : Nat) : Prop := ∀ a, A = some a → a.block ≠ b

section
variable {w w' w'' : World} {b : Nat} {t : TypeId} {cs : Array Value} {S T : List Nat}
theorem Is.lt (h : Is w b t cs) : b < w.heap.size := (Array.getElem?_eq_some_iff.1 h).1
theorem Is.cell (h : Is w b t cs) (i : Nat) : w.cell? ⟨b, i, none⟩ = cs[i]? := by unfold Is at h; simp [World.cell?, h]
theorem Is.free (h : Is w b t cs) (i : Nat) : w.frozen? ⟨b, i, none⟩ = false := by unfold Is at h; simp [World.frozen?, h]
theorem Is.fresh (w : World) (t : TypeId) (cs : Array Value) : Is (w.alloc (.cells cs t)) w.heap.size t cs := by unfold Is World.alloc; simp
theorem Is.drew (h : Is w b t cs) : Is w.drew b t cs := h
theorem Is.drewN (h : Is w b t cs) (n : Nat) : Is (w.drewN n) b t cs := h
theorem Is.alloc (h : Is w b t cs) (o : Obj) : Is (w.alloc o) b t cs := (Below.heap_alloc w o b h.lt).trans h
theorem Is.put (h : Is w b t cs) (i : Nat) (u : Value) : Is (w.setCell ⟨b, i, none⟩ u) b t (cs.setIfInBounds i u) := by
  unfold Is at h ⊢; simp [World.setCell, Array.getElem?_modify, h]
theorem Is.far (h : Is w b t cs) {p : Addr} (hp : b ≠ p.block) (u : Value) : Is (w.setCell p u) b t cs := (Below.heap_setCell w p u b hp).trans h
theorem Is.but (h : Is w b t cs) (hw : But S w w') (hb : b ∉ S) : Is w' b t cs := (hw.block b h.lt hb).trans h
theorem Is.grown (h : Is w b t cs) {row : Option Nat} (hw : w.grownBy w' row) (hb : some b ≠ row) : Is w' b t cs := (hw.block b h.lt hb).trans h
theorem But.refl (S : List Nat) (w : World) : But S w w := ⟨rfl, rfl, rfl, Nat.le_refl _, fun _ _ _ => rfl⟩
theorem But.trans (h : But S w w') (k : But S w' w'') : But S w w'' :=
  ⟨k.os.trans h.os, k.tape.trans h.tape, k.output.trans h.output, Nat.le_trans h.size k.size, fun i hi hS => (k.block i (Nat.lt_of_lt_of_le hi h.size) hS).trans (h.block i hi hS)⟩
theorem But.drew (h : But S w w') : But S w w'.drew := ⟨h.os, h.tape, h.output, h.size, h.block⟩
theorem But.drewN (h : But S w w') (n : Nat) : But S w (w'.drewN n) := ⟨h.os, h.tape, h.output, h.size, h.block⟩
theorem But.alloc (h : But S w w') (o : Obj) : But S w (w'.alloc o) :=
  h.trans ⟨rfl, rfl, rfl, by simp, fun k hk _ => Below.heap_alloc _ _ _ hk⟩
theorem But.setCell (h : But S w w') {p : Addr} (hp : p.block ∈ S ∨ w.heap.size ≤ p.block) (u : Value) : But S w (w'.setCell p u) :=
  ⟨h.os, h.tape, h.output, by have := h.size; simpa using this, fun k hk hS => (Below.heap_setCell w' p u k (by
    rcases hp with e | e
    · intro e'; subst e'; exact hS e
    · omega)).trans (h.block k hk hS)⟩
theorem But.grown (h : But S w w') {row : Option Nat} (hw : w'.grownBy w'' row) (hr : ∀ g, row = some g → g ∈ S ∨ w.heap.size ≤ g) : But S w w'' :=
  ⟨hw.os.trans h.os, hw.tape.trans h.tape, hw.output.trans h.output, Nat.le_trans h.size hw.size, fun k hk hS => (hw.block k (Nat.lt_of_lt_of_le hk h.size) (fun e => by
    rcases hr k e.symm with g | g
    · exact hS g
    · omega)).trans (h.block k hk hS)⟩
theorem But.cell (h : But S w w') {a : Addr} {v : Value} (hc : w.cell? a = some v) (ha : a.block ∉ S) : w'.cell? a = some v :=
  (World.cell?_of_block (h.block a.block (World.block_lt_of_cell? w a hc) ha)).trans hc

variable {A : Option Addr} {n : Nat} {l : List UInt8}
theorem ByteRow.but (h : ByteRow w A n l) (hw : But S w w') (hA : ∀ k ∈ S, Off A k) : ByteRow w' A n l :=
  ⟨h.1, fun hn => by
    obtain ⟨g, o, e, hc⟩ := h.2 hn
    exact ⟨g, o, e, fun i hi => hw.cell (hc i hi) (fun hS => hA g hS _ e rfl)⟩⟩
theorem ByteRow.drew (h : ByteRow w A n l) : ByteRow w.drew A n l := h
theorem ByteRow.at (h : ByteRow w A n l) {i : Nat} (hi : i < n) : ∃ g o, A = some ⟨g, o, none⟩ ∧ w.cell? ⟨g, o + i, none⟩ = some (.int .u8 (l[i]'(by have := h.1; omega)).toNat) := by
  obtain ⟨g, o, e, hc⟩ := h.2 (by omega)
  exact ⟨g, o, e, hc i (by have := h.1; omega)⟩
end
end Go.Proofs.YtmdiilnipoblbaaDoor
set_option maxRecDepth 100000
set_option linter.unusedVariables false
namespace Go.Proofs.YtmdiilnipoblbaaDoor
set_option maxRecDepth 100000
open Go Go.RowKit
theorem conv_atZ {W : World} {g cap : Nat} {L : List UInt8} (h : ∀ j (hj : j < L.length), W.cell? ⟨g, j, none⟩ = some (.int .u8 (L[j].toNat : Int))) :
    (convert 48 9 (.slice (some ⟨g, 0, none⟩) L.length cap)).run Tryd.prog W = .ok (.string (strL L)) W := by
  refine run_convert_bytes_back W 48 9 5 ⟨g, 0, none⟩ cap L Tryd.underlying48 Tryd.underlying5 Tryd.underlying9 (fun j hj => ?_)
  have e2 : (⟨g, 0, none⟩ : Addr).add j = ⟨g, j, none⟩ := by unfold Addr.add; split <;> simp_all
  rw [e2]; exact h j hj
theorem conv_fourZ (W : World) {n a b c d : Nat} (h1 : a = n / 16777216 % 256) (h2 : b = n / 65536 % 256) (h3 : c = n / 256 % 256) (h4 : d = n % 256) :
    (convert 48 9 (.slice (some ⟨W.heap.size, 0, none⟩) 4 4)).run Tryd.prog (W.alloc (.cells #[.int .u8 a, .int .u8 b, .int .u8 c, .int .u8 d] 5)) = .ok (.string (strL (fourL n))) (W.alloc (.cells #[.int .u8 a, .int .u8 b, .int .u8 c, .int .u8 d] 5)) := by
  refine conv_atZ (L := fourL n) (cap := 4) fun j hj => ?_
  have a1 := UInt8.toNat_ofNat' (n := n / 16777216)
  have a2 := UInt8.toNat_ofNat' (n := n / 65536)
  have a3 := UInt8.toNat_ofNat' (n := n / 256)
  have a4 := UInt8.toNat_ofNat' (n := n)
  rw [World.cell?_alloc_mark]
  rw [fourL_length] at hj
  unfold fourL
  match j, hj with
  | 0, _ => show some (Value.int .u8 (a : Int)) = some (Value.int .u8 ((UInt8.ofNat (n / 16777216)).toNat : Int)); rw [a1, h1]
  | 1, _ => show some (Value.int .u8 (b : Int)) = some (Value.int .u8 ((UInt8.ofNat (n / 65536)).toNat : Int)); rw [a2, h2]
  | 2, _ => show some (Value.int .u8 (c : Int)) = some (Value.int .u8 ((UInt8.ofNat (n / 256)).toNat : Int)); rw [a3, h3]
  | 3, _ => show some (Value.int .u8 (d : Int)) = some (Value.int .u8 ((UInt8.ofNat n).toNat : Int)); rw [a4, h4]
end Go.Proofs.YtmdiilnipoblbaaDoor
set_option maxRecDepth 100000
set_option linter.unusedVariables false
namespace Go.Proofs.YtmdiilnipoblbaaDoor
set_option maxRecDepth 100000
open Go Go.RowKit
/-- How many samples a pixel of a colour has, of whatever number. -/
def samplesI (c : Int) : Int := if c = 0 ∨ c = 3 then 1 else if c = 4 then 2 else if c = 2 then 3 else if c = 6 then 4 else 0
end Go.Proofs.YtmdiilnipoblbaaDoor
set_option maxRecDepth 100000
set_option linter.unusedVariables false
namespace Go.Proofs.YtmdiilnipoblbaaDoor
set_option maxRecDepth 100000
open Go Go.RowKit
/-- Whether a number is a depth. -/
def depB (d : Int) : Bool := decide (d = 1 ∨ d = 2 ∨ d = 4 ∨ d = 8 ∨ d = 16)
end Go.Proofs.YtmdiilnipoblbaaDoor
set_option maxRecDepth 100000
set_option linter.unusedVariables false
namespace Go.Proofs.YtmdiilnipoblbaaDoor
set_option maxRecDepth 100000
open Go Go.RowKit
def nCells (L : List Nat) : List Value := L.map fun x => .int .i64 (x : Nat)
/-- A slice reads as these numbers. -/
def Nums (w : World) (A : Option Addr) (n : Nat) (L : List Nat) : Prop :=
  L.length = n ∧ (0 < n → ∃ g o, A = some ⟨g, o, none⟩ ∧ g < w.heap.size ∧ ∀ (i : Nat) (h : i < L.length), w.cell? ⟨g, o + i, none⟩ = some (.int .i64 (L[i] : Nat)))
theorem Nums.nil (w : World) (A : Option Addr) : Nums w A 0 [] := ⟨rfl, fun h => absurd h (by omega)⟩
theorem Nums.but {w w' : World} {A : Option Addr} {n : Nat} {L : List Nat} (h : Nums w A n L) (hw : But [] w w') : Nums w' A n L :=
  ⟨h.1, fun hn => by
    obtain ⟨g, o, e, hg, hc⟩ := h.2 hn
    exact ⟨g, o, e, Nat.lt_of_lt_of_le hg hw.size, fun i hi => hw.cell (hc i hi) (by simp)⟩⟩
theorem Nums.at {w : World} {A : Option Addr} {n : Nat} {L : List Nat} (h : Nums w A n L) {i : Nat} (hi : i < n) : ∃ g o x, A = some ⟨g, o, none⟩ ∧ g < w.heap.size ∧ L[i]? = some x ∧ w.cell? ⟨g, o + i, none⟩ = some (.int .i64 (x : Nat)) := by
  obtain ⟨g, o, e, hg, hc⟩ := h.2 (by omega)
  have hl : i < L.length := by have := h.1; omega
  exact ⟨g, o, L[i], e, hg, List.getElem?_eq_getElem hl, hc i hl⟩
/-- Numbers of the call's own. -/
def OwnN (w : World) (base : Nat) (v : Value) (L : List Nat) : Prop := w.ownsRow base 3 1 v L.length (nCells L)
theorem OwnN.nil (w : World) (base : Nat) : OwnN w base (.slice none 0 0) [] := World.ownsRow_nil _ _ _ _
theorem OwnN.but {w w' : World} {base : Nat} {v : Value} {L : List Nat} (h : OwnN w base v L) (hw : But [] w w') : OwnN w' base v L := by
  obtain ⟨h1, h2⟩ := h
  refine ⟨h1, ?_⟩
  rcases h2 with h2 | ⟨g, cap, cur, rfl, hg, hh, r⟩
  · exact .inl h2
  · have hlt : g < w.heap.size := (Array.getElem?_eq_some_iff.1 hh).1
    exact .inr ⟨g, cap, cur, rfl, hg, (hw.block g hlt (by simp)).trans hh, r⟩
theorem OwnN.shape {w : World} {base : Nat} {v : Value} {L : List Nat} (h : OwnN w base v L) : ∃ A c, v = .slice A L.length c ∧ L.length ≤ c := by
  rcases h.2 with ⟨rfl, e⟩ | ⟨g, cap, cur, rfl, _, _, hc, _⟩
  · have : L = [] := List.eq_nil_of_length_eq_zero e
    subst this
    exact ⟨none, 0, rfl, Nat.le_refl _⟩
  · exact ⟨_, cap, rfl, hc⟩
theorem OwnN.lt {w : World} {base : Nat} {v : Value} {L : List Nat} (h : OwnN w base v L) : ∀ g, v.ownBlock = some g → base ≤ g := fun g e => (World.ownsRow.lt h g e).1
end Go.Proofs.YtmdiilnipoblbaaDoor
set_option linter.unusedVariables false
namespace Go.Proofs.YtmdiilnipoblbaaDoor
set_option maxRecDepth 100000
open Go
section
variable {P : Program} {ops : Array Oper} {Q : Exit → Act → World → Prop} {md : Region.Mode} {S : World → Prop} {R : World → World → Prop}
/-- An operation's outcome, with a word on the state that it leaves. -/
theorem wpOp_tag {j : Nat} {oj : Oper} (hj : ops[j]? = some oj) {K : Act → World → Prop} {a : Act} {w : World} (C : Act → Prop)
    (hput : ∀ u, C (a.put oj.dst u)) (hdef : ∀ d u, C (({ a with defers := d :: a.defers } : Act).put oj.dst u)) (h : wpOp P ops Q j K a w) :
    wpOp P ops Q j (fun b w1 => C b ∧ K b w1) a w := by
  unfold wpOp at *
  simp only [hj] at *
  by_cases hw : Region.wanted oj (yielded ops a.tmps) = true
  · rw [if_pos hw] at h ⊢
    rcases h with h | h
    · left
      unfold Oper.wp at *
      cases hr : (execOp a.eval oj).run P w with
      | ok n w1 =>
        rw [hr] at h
        cases n with
        | value u => exact ⟨hput u, h⟩
        | skip => exact ⟨hput _, h⟩
        | defer d => exact ⟨hdef d _, h⟩
        | enter f args =>
          refine Calls.mono h fun e w2 he => ?_
          cases e with
          | returned u => exact ⟨hput u, he⟩
          | panicked c => exact he
          | outgrown => exact he
        | row r args => exact Rows.mono h fun u w2 he => ⟨hput u, he⟩
        | _ => exact h
      | halt x w1 =>
        rw [hr] at h
        cases x <;> exact h
    · exact .inr h
  · rw [if_neg hw] at h ⊢
    exact ⟨hput _, h⟩
/-- In every world that meets S the operation gives v, and leaves a world that meets S and is no more than R away. -/
def YieldsR (P : Program) (ops : Array Oper) (S : World → Prop) (R : World → World → Prop) (o : Oper) (v : Value) (a : Act) : Prop :=
  (Region.wanted o (yielded ops a.tmps) = true ∧ ∀ w, S w → ((∃ w1, (execOp a.eval o).run P w = .ok (.value v) w1 ∧ S w1 ∧ R w w1) ∨
    ∃ f args, (execOp a.eval o).run P w = .ok (.enter f args) w ∧ Calls P f args w fun e w1 => e = .returned v ∧ S w1 ∧ R w w1)) ∨
  (Region.wanted o (yielded ops a.tmps) = false ∧ v = undef)
theorem YieldsR.of_same {o : Oper} {v : Value} {a a' : Act} (hy : YieldsR P ops S R o v a) (he : execOp a'.eval o = execOp a.eval o)
    (hw : Region.wanted o (yielded ops a'.tmps) = Region.wanted o (yielded ops a.tmps)) : YieldsR P ops S R o v a' := by
  unfold YieldsR at *
  rw [he, hw]
  exact hy
theorem YieldsR.wpOp {i : Nat} {o : Oper} {v : Value} {a : Act} (hi : ops[i]? = some o) (hy : YieldsR P ops S R o v a) (hrefl : ∀ w, R w w)
    {K : Act → World → Prop} {w : World} (hS : S w) (h : ∀ w1, S w1 → R w w1 → K (a.put o.dst v) w1) : wpOp P ops Q i K a w := by
  unfold Go.wpOp
  simp only [hi]
  rcases hy with ⟨hw, hv⟩ | ⟨hw, rfl⟩
  · rw [if_pos hw]
    left
    unfold Oper.wp
    rcases hv w hS with ⟨w1, hr, h1, h2⟩ | ⟨f, args, hr, hc⟩
    · rw [hr]; exact h w1 h1 h2
    · rw [hr]
      refine Calls.mono hc fun e w1 he => ?_
      obtain ⟨rfl, h1, h2⟩ := he
      exact h w1 h1 h2
  · rw [if_neg (by simp [hw])]
    exact h w hS (hrefl w)
/-- Whatever order is picked from here on, and whatever is made anew meanwhile. -/
def wpM (P : Program) (md : Region.Mode) (ops : Array Oper) (Q : Exit → Act → World → Prop) (S : World → Prop) (R : World → World → Prop) : Nat → Array Bool → Act → World → Prop
  | 0, listed, a, w => Region.ready md ops listed = [] ∧ ∀ w1, R w w1 → S w1 → Q .normal a w1
  | f + 1, listed, a, w => ∀ w1, R w w1 → S w1 → (Region.ready md ops listed = [] → Q .normal a w1) ∧
      ∀ i ∈ Region.ready md ops listed, wpOp P ops Q i (fun a' w' => S w' ∧ wpM P md ops Q S R f (listed.setIfInBounds i true) a' w') a w1
theorem wpM_mono (htr : ∀ x y z, R x y → R y z → R x z) : ∀ {f : Nat} {listed : Array Bool} {a : Act} {w w' : World}, wpM P md ops Q S R f listed a w → R w w' → wpM P md ops Q S R f listed a w'
  | 0, _, _, _, _, h, hr => ⟨h.1, fun w1 h1 h2 => h.2 w1 (htr _ _ _ hr h1) h2⟩
  | _ + 1, _, _, _, _, h, hr => fun w1 h1 h2 => h w1 (htr _ _ _ hr h1) h2
theorem wpAny_of_m (hrefl : ∀ w, R w w) : ∀ (f : Nat) (listed : Array Bool) (a : Act) (w : World), S w → wpM P md ops Q S R f listed a w → wpAny P md ops Q f listed a w
  | 0, _, _, w, hS, h => ⟨h.1, h.2 w (hrefl w) hS⟩
  | f + 1, _, _, w, hS, h => ⟨(h w (hrefl w) hS).1, fun i hi => wpOp_mono (fun a' w' h' => wpAny_of_m hrefl f _ a' w' h'.1 h'.2) ((h w (hrefl w) hS).2 i hi)⟩
theorem wpM_first (hrefl : ∀ w, R w w) (htr : ∀ x y z, R x y → R y z → R x z) {i : Nat} {oi : Oper} {v : Value} (hi : ops[i]? = some oi)
    (hsel : ∀ (j : Nat) (o : Oper) cs b, ops[j]? = some o → o.op ≠ .select cs b)
    (hQ : ∀ c a w, Q (.panic c) (a.put oi.dst v) w → Q (.panic c) a w) :
    ∀ (f : Nat) (listed : Array Bool) (a : Act) (w : World),
      (∀ j oj, ops[j]? = some oj → j ≠ i → listed.getD j true = false → (∀ e ∈ oj.after, Region.binds md e = true → e.on ≠ i) → oi.apart ops oj = true) →
      i ∈ Region.ready md ops listed → YieldsR P ops S R oi v a →
      wpM P md ops Q S R f (listed.setIfInBounds i true) (a.put oi.dst v) w → wpM P md ops Q S R (f + 1) listed a w := by
  intro f
  induction f with
  | zero =>
    intro listed a w _ hr hy H w1 hR hS
    refine ⟨fun h => (by rw [h] at hr; cases hr), fun j hj => ?_⟩
    by_cases hji : j = i
    · subst hji
      exact hy.wpOp hi hrefl hS fun w2 h1 h2 => ⟨h1, wpM_mono htr H (htr _ _ _ hR h2)⟩
    · have := ready_mono hj hji
      rw [H.1] at this
      cases this
  | succ f ih =>
    intro listed a w hfree hr hy H w1 hR hS
    refine ⟨fun h => (by rw [h] at hr; cases hr), fun j hj => ?_⟩
    by_cases hji : j = i
    · subst hji
      exact hy.wpOp hi hrefl hS fun w2 h1 h2 => ⟨h1, wpM_mono htr H (htr _ _ _ hR h2)⟩
    · have h1 := (H w1 hR hS).2 j (ready_mono hj hji)
      obtain ⟨hjun, oj, hoj, hall⟩ := mem_ready.1 hj
      have hnot : ∀ e ∈ oj.after, Region.binds md e = true → e.on ≠ i := fun e he hb heq => by
        have h2 := hall e he hb
        have h0 := (mem_ready.1 hr).1
        rw [heq] at h2
        rcases Nat.lt_or_ge i listed.size with h' | h'
        · simp [h'] at h0 h2; rw [h0] at h2; cases h2
        · simp [Array.getElem?_eq_none h'] at h2
      have hap := hfree j oj hoj hji hjun hnot
      obtain ⟨_, _, h3⟩ := Oper.apart_spec hap
      have triv : YieldsIf P ops (fun _ => False) oi v a := by
        rcases hy with ⟨hw, _⟩ | ⟨hw, hv⟩
        · exact .inl ⟨hw, fun _ h => h.elim⟩
        · exact .inr ⟨hw, hv⟩
      have keep : ∀ (b : Act), YieldsR P ops S R oi v b → ∀ u, YieldsR P ops S R oi v (b.put oj.dst u) := fun b hb u =>
        hb.of_same (execOp_put oi (fun cs c => hsel i oi cs c hi) b oj.dst u h3) (wanted_put oi b oj.dst u h3)
      have h2 := wpOp_putIf hoj hap (fun cs b => hsel i oi cs b hi) (fun cs b => hsel j oj cs b hoj) hQ triv h1
      have h4 := wpOp_tag hoj (YieldsR P ops S R oi v) (fun u => keep a hy u) (fun d u => keep { a with defers := d :: a.defers } (hy.of_same rfl rfl) u) h2
      have hfree' : ∀ k ok, ops[k]? = some ok → k ≠ i → (listed.setIfInBounds j true).getD k true = false →
          (∀ e ∈ ok.after, Region.binds md e = true → e.on ≠ i) → oi.apart ops ok = true := fun k ok hk hki hun hno => by
        refine hfree k ok hk hki ?_ hno
        by_cases hjk : j = k
        · subst hjk; exact hjun
        · rw [getD_set_ne true hjk] at hun; exact hun
      refine wpOp_mono (fun a' w' h5 => ⟨h5.2.2.1, ih (listed.setIfInBounds j true) a' w' hfree' (ready_mono hr (Ne.symm hji)) h5.1 ?_⟩) h4
      rw [Array.setIfInBounds_comm _ _ hji]
      exact h5.2.2.2
/-- The beginning. -/
theorem wp_region_m (hrefl : ∀ w, R w w) {id : Nat} {a : Act} {w : World} (hm : P.follows .mixedOrders = true) (hS : S { w with drawn := w.drawn + 1 })
    (h : wpM P .any ops Q S R ops.size (Array.replicate ops.size false) a { w with drawn := w.drawn + 1 }) : (Code.region id ops true).wp P Q a w :=
  wp_region_any hm (wpAny_of_m hrefl _ _ _ _ hS h)
/-- One operation first. -/
theorem wpM_take (hrefl : ∀ w, R w w) (htr : ∀ x y z, R x y → R y z → R x z) {i : Nat} {oi : Oper} {v : Value} {f : Nat} {listed : Array Bool} {a : Act} {w : World} (hi : ops[i]? = some oi)
    (hs : Region.noSelect ops = true) (hf : Region.free md ops listed i = true) (hr : (Region.ready md ops listed).contains i = true)
    (hQ : ∀ c a w, Q (.panic c) (a.put oi.dst v) w → Q (.panic c) a w) (hy : YieldsR P ops S R oi v a)
    (h : wpM P md ops Q S R f (listed.setIfInBounds i true) (a.put oi.dst v) w) : wpM P md ops Q S R (f + 1) listed a w :=
  wpM_first hrefl htr hi (Region.noSelect_spec hs) hQ f listed a w (Region.free_spec hi hf) (by simpa using hr) hy h
/-- One that reads, or less. -/
theorem YieldsR.read (hrefl : ∀ w, R w w) {o : Oper} {v : Value} {a : Act} (hw : Region.wanted o (yielded ops a.tmps) = true) (h : ∀ w, S w → (execOp a.eval o).run P w = .ok (.value v) w) : YieldsR P ops S R o v a :=
  .inl ⟨hw, fun w hS => .inl ⟨w, h w hS, hS, hrefl w⟩⟩
/-- The only one that may come up. -/
theorem wpM_one {i : Nat} {oi : Oper} {f : Nat} {listed : Array Bool} {a : Act} {w : World} (hi : ops[i]? = some oi) (hr : Region.ready md ops listed = [i])
    (h : ∀ w1, R w w1 → S w1 → ∀ K' : Act → World → Prop, (∀ a' w', (S w' ∧ wpM P md ops Q S R f (listed.setIfInBounds i true) a' w') → K' a' w') →
      if Region.wanted oi (yielded ops a.tmps) = true then Oper.wp P oi a w1 K' Q else K' (a.put oi.dst undef) w1) : wpM P md ops Q S R (f + 1) listed a w := by
  intro w1 hR hS
  refine ⟨fun h0 => (by rw [hr] at h0; cases h0), fun j hj => ?_⟩
  rw [hr] at hj
  have hji : j = i := by simpa using hj
  subst hji
  exact wpOp_step hi (h w1 hR hS)
end
end Go.Proofs.YtmdiilnipoblbaaDoor
set_option maxRecDepth 100000
set_option linter.unusedVariables false
namespace Go.Proofs.YtmdiilnipoblbaaDoor
set_option maxRecDepth 100000
open Go Go.RowKit
theorem getD_byte (s : ByteArray) {k : Nat} (h : k < s.size) : s.data.toList.getD k 0 = s[k] := by
  have h2 : k < s.data.toList.length := by rw [Array.length_toList]; exact h
  rw [getD_lt h2]
  rfl
def cellsF (l : List UInt8) : List Value := l.map fun x => .int .u8 (x.toNat : Int)
theorem cellsF_length (l : List UInt8) : (cellsF l).length = l.length := by simp [cellsF]
theorem own_sliceF {w : World} {base n size : Nat} {e : TypeId} {v : Value} {xs : List Value} (h : w.ownsRow base e size v n xs) : ∃ A c, v = .slice A n c ∧ n ≤ c := by
  rcases h.2 with ⟨rfl, rfl⟩ | ⟨g, cap, cur, rfl, _, _, hc, _⟩
  · exact ⟨none, 0, rfl, Nat.le_refl _⟩
  · exact ⟨_, cap, rfl, hc⟩
theorem ownsRow_butF {w w' : World} {base n size : Nat} {e : TypeId} {v : Value} {xs : List Value} {S : List Nat} (h : w.ownsRow base e size v n xs) (hw : But S w w') (hS : ∀ g, v.ownBlock = some g → g ∉ S) : w'.ownsRow base e size v n xs := by
  obtain ⟨h1, h2⟩ := h
  refine ⟨h1, ?_⟩
  rcases h2 with h2 | ⟨g, cap, cur, rfl, hg, hh, r⟩
  · exact .inl h2
  · have hlt : g < w.heap.size := (Array.getElem?_eq_some_iff.1 hh).1
    exact .inr ⟨g, cap, cur, rfl, hg, (hw.block g hlt (hS g rfl)).trans hh, r⟩
/-- Bytes in memory as a string. -/
theorem conv_atF {W : World} {g cap : Nat} {L : List UInt8} (h : ∀ j (hj : j < L.length), W.cell? ⟨g, j, none⟩ = some (.int .u8 (L[j].toNat : Int))) :
    (convert 48 9 (.slice (some ⟨g, 0, none⟩) L.length cap)).run Tryd.prog W = .ok (.string (strL L)) W := by
  refine run_convert_bytes_back W 48 9 5 ⟨g, 0, none⟩ cap L Tryd.underlying48 Tryd.underlying5 Tryd.underlying9 (fun j hj => ?_)
  have e2 : (⟨g, 0, none⟩ : Addr).add j = ⟨g, j, none⟩ := by unfold Addr.add; split <;> simp_all
  rw [e2]
  exact h j hj
theorem own_textF {w : World} {base n : Nat} {v : Value} {L : List UInt8} (h : w.ownsRow base 5 1 v n (cellsF L)) : (convert 48 9 v).run Tryd.prog w = .ok (.string (strL L)) w := by
  have hl : L.length = n := by have := h.1; rw [cellsF_length] at this; omega
  rcases h.2 with ⟨rfl, rfl⟩ | ⟨g, cap, cur, rfl, _⟩
  · have : L = [] := List.eq_nil_of_length_eq_zero hl
    subst this
    exact run_convert_bytes_nil w 48 5 Tryd.underlying48 Tryd.underlying5 _ _ 9 Tryd.underlying9
  · subst hl
    refine conv_atF fun i hi => ?_
    have hc := h.cells (g := g) rfl i (.int .u8 (L[i].toNat : Int)) (by simp [cellsF, hi])
    have e2 : (⟨g, 0, none⟩ : Addr).add i = ⟨g, i, none⟩ := by unfold Addr.add; split <;> simp_all
    rw [e2] at hc
    exact hc
/-- Bytes of the call's own. -/
def OwnF (w : World) (base : Nat) (v : Value) (L : List UInt8) : Prop := w.ownsRow base 5 1 v L.length (cellsF L)
theorem OwnF.nil (w : World) (base : Nat) : OwnF w base (.slice none 0 0) [] := World.ownsRow_nil _ _ _ _
theorem OwnF.but {w w' : World} {base : Nat} {v : Value} {L : List UInt8} (h : OwnF w base v L) (hw : But [] w w') : OwnF w' base v L := ownsRow_butF h hw (fun _ _ => by simp)
theorem OwnF.shape {w : World} {base : Nat} {v : Value} {L : List UInt8} (h : OwnF w base v L) : ∃ A c, v = .slice A L.length c := by
  obtain ⟨A, c, e, _⟩ := own_sliceF h
  exact ⟨A, c, e⟩
theorem OwnF.lt {w : World} {base : Nat} {v : Value} {L : List UInt8} (h : OwnF w base v L) : ∀ g, v.ownBlock = some g → base ≤ g := fun g e => (World.ownsRow.lt h g e).1
theorem OwnF.text {w : World} {base : Nat} {v : Value} {L : List UInt8} (h : OwnF w base v L) : (convert 48 9 v).run Tryd.prog w = .ok (.string (strL L)) w := own_textF h
theorem info_u8F : (Tryd.prog.info? 5).map (fun i => (i.zero, i.size, i.bytes)) = some (some (.int .u8 0), 1, 1) := by kernel_rfl
/-- A block reads as these bytes, and they may be written. -/
def RowF (w : World) (g : Nat) (l : List UInt8) : Prop := ∃ (cs : Array Value) (fr : Nat × Nat), w.heap[g]? = some (.cells cs 5 fr) ∧
  ∀ i, i < l.length → cs[i]? = some (.int .u8 ((l.getD i 0).toNat : Nat)) ∧ (decide (fr.1 ≤ i) && decide (i < fr.2)) = false
section
variable {w w' : World} {g : Nat} {l : List UInt8}
theorem RowF.lt (h : RowF w g l) : g < w.heap.size := by
  obtain ⟨cs, fr, h1, _⟩ := h
  exact (Array.getElem?_eq_some_iff.1 h1).1
theorem RowF.cell (h : RowF w g l) {i : Nat} (hi : i < l.length) : w.cell? ⟨g, i, none⟩ = some (.int .u8 ((l.getD i 0).toNat : Nat)) := by
  obtain ⟨cs, fr, h1, h2⟩ := h
  have := (h2 i hi).1
  simp [World.cell?, h1, this]
theorem RowF.free (h : RowF w g l) {i : Nat} (hi : i < l.length) : w.frozen? ⟨g, i, none⟩ = false := by
  obtain ⟨cs, fr, h1, h2⟩ := h
  have := (h2 i hi).2
  simp only [World.frozen?, h1]
  exact this
theorem RowF.but (h : RowF w g l) (k : But [] w w') : RowF w' g l := by
  have hl := h.lt
  obtain ⟨cs, fr, h1, h2⟩ := h
  exact ⟨cs, fr, (k.block g hl (by simp)).trans h1, h2⟩
theorem RowF.put (h : RowF w g l) (i : Nat) (x : UInt8) (hi : i < l.length) : RowF (w.setCell ⟨g, i, none⟩ (.int .u8 (x.toNat : Nat))) g (l.set i x) := by
  obtain ⟨cs, fr, h1, h2⟩ := h
  refine ⟨cs.setIfInBounds i (.int .u8 (x.toNat : Nat)), fr, by simp [World.setCell, Array.getElem?_modify, h1], fun j hj => ?_⟩
  rw [List.length_set] at hj
  obtain ⟨c1, c2⟩ := h2 j hj
  refine ⟨?_, c2⟩
  by_cases e : i = j
  · subst e
    have hs : i < cs.size := (Array.getElem?_eq_some_iff.1 c1).1
    rw [Array.getElem?_setIfInBounds_self, if_pos hs]
    congr 3
    rw [getD_lt (by rw [List.length_set]; exact hi), List.getElem_set_self]
  · rw [Array.getElem?_setIfInBounds_ne e, c1]
    congr 3
    rw [List.getD_eq_getElem?_getD, List.getD_eq_getElem?_getD, List.getElem?_set_ne e]
theorem RowF.far (h : RowF w g l) {p : Addr} (hp : g ≠ p.block) (u : Value) : RowF (w.setCell p u) g l := by
  obtain ⟨cs, fr, h1, h2⟩ := h
  exact ⟨cs, fr, (Below.heap_setCell w p u g hp).trans h1, h2⟩
theorem RowF.text (h : RowF w g l) (cap : Nat) : (convert 48 9 (.slice (some ⟨g, 0, none⟩) l.length cap)).run Tryd.prog w = .ok (.string (strL l)) w :=
  conv_atF fun j hj => by rw [h.cell hj, getD_lt hj]
end
/-- Noughts, laid anew. -/
def noughtsF (w : World) (n : Nat) : World := w.alloc (.cells (madeCells (Value.int .u8 0).cells n) 5)
theorem run_noughts (w : World) {n : Nat} (hn : n ≤ 140737488355328) : (Instr.makeSlice 48 (.int .i64 (n : Int)) (.int .i64 (n : Int))).run Tryd.prog w = .ok (.slice (some ⟨w.heap.size, 0, none⟩) n n) (noughtsF w n) := by
  obtain ⟨i0, hi0, hz0, hz1, hz2⟩ := info_parts info_u8F
  have h := run_make (P := Tryd.prog) w 48 5 i0 (.int .u8 0) Tryd.underlying48 hi0 hz0 .i64 .i64 (n : Int) (n : Int) (by omega) (by omega) (by rw [hz2]; omega) (by omega)
  rw [hz1] at h
  simpa [noughtsF] using h
theorem noughtsF_but (w : World) (n : Nat) : But [] w (noughtsF w n) := (But.refl [] w).alloc _
end Go.Proofs.YtmdiilnipoblbaaDoor
set_option maxRecDepth 100000
set_option linter.unusedVariables false
namespace Go.Proofs.YtmdiilnipoblbaaDoor
set_option maxRecDepth 100000
open Go Go.RowKit
theorem byteR_run {s : ByteArray} {k : Nat} (hk : k < s.size) (w : World) : (Instr.index 9 (.string s) (.int .i64 (k : Int))).run Tryd.prog w = .ok (.int .u8 (s[k].toNat : Nat)) w := by
  simp [go_sem, Tryd.underlying9, hk]
end Go.Proofs.YtmdiilnipoblbaaDoor
set_option maxRecDepth 100000
set_option linter.unusedVariables false
namespace Go.Proofs.YtmdiilnipoblbaaDoor
set_option maxRecDepth 100000
open Go Go.RowKit
/-- A slice reads as these numbers, which may be below nought. -/
def Zs (w : World) (A : Option Addr) (n : Nat) (l : List Int) : Prop :=
  l.length = n ∧ (0 < n → ∃ g o, A = some ⟨g, o, none⟩ ∧ g < w.heap.size ∧ ∀ (i : Nat) (h : i < l.length), w.cell? ⟨g, o + i, none⟩ = some (.int .i64 l[i]))
theorem Zs.but {w w' : World} {A : Option Addr} {n : Nat} {l : List Int} (h : Zs w A n l) (hw : But [] w w') : Zs w' A n l :=
  ⟨h.1, fun hn => by
    obtain ⟨g, o, e, hg, hc⟩ := h.2 hn
    exact ⟨g, o, e, Nat.lt_of_lt_of_le hg hw.size, fun i hi => hw.cell (hc i hi) (by simp)⟩⟩
theorem Zs.at {w : World} {A : Option Addr} {n : Nat} {l : List Int} (h : Zs w A n l) {i : Nat} (hi : i < n) : ∃ g o x, A = some ⟨g, o, none⟩ ∧ g < w.heap.size ∧ l[i]? = some x ∧ w.cell? ⟨g, o + i, none⟩ = some (.int .i64 x) := by
  obtain ⟨g, o, e, hg, hc⟩ := h.2 (by omega)
  have hl : i < l.length := by have := h.1; omega
  exact ⟨g, o, l[i], e, hg, List.getElem?_eq_getElem hl, hc i hl⟩
/-- A row of the call's own. -/
def OneS (w v : World) (g : Nat) (l : List UInt8) : Prop := RowF v g l ∧ w.heap.size ≤ g ∧ But [] w v
theorem OneS.but {w v v' : World} {g : Nat} {l : List UInt8} (h : OneS w v g l) (k : But [] v v') : OneS w v' g l := ⟨h.1.but k, h.2.1, h.2.2.trans k⟩
theorem OneS.put {w v : World} {g : Nat} {l : List UInt8} (h : OneS w v g l) {i : Nat} (x : UInt8) (hi : i < l.length) : OneS w (v.setCell ⟨g, i, none⟩ (.int .u8 (x.toNat : Nat))) g (l.set i x) :=
  ⟨h.1.put i x hi, h.2.1, h.2.2.setCell (p := ⟨g, i, none⟩) (.inr h.2.1) _⟩
theorem wrapI_in {q : Nat} (h : q < 1000000000000000) : IntKind.i64.wrap (q : Int) = (q : Int) := by rw [IntKind.wrap_i64]; omega
end Go.Proofs.YtmdiilnipoblbaaDoor
set_option maxRecDepth 100000
set_option linter.unusedVariables false
namespace Go.Proofs.YtmdiilnipoblbaaDoor
set_option maxRecDepth 100000
open Go Go.RowKit
def stCells (L : List ByteArray) : List Value := L.map fun x => .string x
theorem stCells_append (L M : List ByteArray) : stCells (L ++ M) = stCells L ++ stCells M := by simp [stCells]
/-- Strings of the call's own. -/
def OwnSt (w : World) (base : Nat) (v : Value) (L : List ByteArray) : Prop := w.ownsRow base 9 1 v L.length (stCells L)
theorem OwnSt.nil (w : World) (base : Nat) : OwnSt w base (.slice none 0 0) [] := World.ownsRow_nil _ _ _ _
theorem OwnSt.but {w w' : World} {base : Nat} {v : Value} {L : List ByteArray} (h : OwnSt w base v L) (hw : But [] w w') : OwnSt w' base v L := by
  obtain ⟨h1, h2⟩ := h
  refine ⟨h1, ?_⟩
  rcases h2 with h2 | ⟨g, cap, cur, rfl, hg, hh, r⟩
  · exact .inl h2
  · have hlt : g < w.heap.size := (Array.getElem?_eq_some_iff.1 hh).1
    exact .inr ⟨g, cap, cur, rfl, hg, (hw.block g hlt (by simp)).trans hh, r⟩
theorem OwnSt.shape {w : World} {base : Nat} {v : Value} {L : List ByteArray} (h : OwnSt w base v L) : ∃ A c, v = .slice A L.length c ∧ L.length ≤ c := by
  rcases h.2 with ⟨rfl, e⟩ | ⟨g, cap, cur, rfl, _, _, hc, _⟩
  · have : L = [] := List.eq_nil_of_length_eq_zero e
    subst this
    exact ⟨none, 0, rfl, Nat.le_refl _⟩
  · exact ⟨_, cap, rfl, hc⟩
theorem OwnSt.lt {w : World} {base : Nat} {v : Value} {L : List ByteArray} (h : OwnSt w base v L) : ∀ g, v.ownBlock = some g → base ≤ g := fun g e => (World.ownsRow.lt h g e).1
theorem OwnSt.at {w : World} {base n c : Nat} {A : Option Addr} {L : List ByteArray} (h : OwnSt w base (.slice A n c) L) {i : Nat} {x : ByteArray} (hi : L[i]? = some x) :
    ∃ g, A = some ⟨g, 0, none⟩ ∧ g < w.heap.size ∧ w.cell? ⟨g, i, none⟩ = some (.string x) := by
  have hl := (List.getElem?_eq_some_iff.1 hi).1
  obtain ⟨g, cap, e, h1, h2⟩ := World.ownsRow.form h (by omega)
  injection e with e1 e2 e3
  subst e1 e3
  refine ⟨g, rfl, h2, ?_⟩
  have hc := World.ownsRow.cells h (g := g) rfl i (.string x) (by simp [stCells, hi])
  have e2 : (⟨g, 0, none⟩ : Addr).add i = ⟨g, i, none⟩ := by unfold Addr.add; split <;> simp_all
  rw [e2] at hc
  exact hc
theorem info_strS : (Tryd.prog.info? 9).map (fun i => (i.zero, i.size, i.bytes)) = some (some (.string ByteArray.empty), 1, 16) := by kernel_rfl
theorem news_s {w : World} {g : Nat} {x : Value} (h : Is w g 9 #[x]) : ∀ (j : Nat) u, [x][j]? = some u → w.cell? ((⟨g, 0, none⟩ : Addr).add j) = some u := by
  intro j u hj
  match j, hj with
  | 0, hj =>
    have e : x = u := by simpa using hj
    have := h.cell 0
    rw [← e]
    exact this
  | j + 1, hj => simp at hj
end Go.Proofs.YtmdiilnipoblbaaDoor
set_option maxRecDepth 100000
set_option linter.unusedVariables false
namespace Go.Proofs.YtmdiilnipoblbaaDoor
set_option maxRecDepth 100000
open Go Go.RowKit
/-- A row of numbers, as many as there are to be, the last ones still 0. -/
def rowZ (L : List Nat) (n : Nat) : Array Value := (nCells (L ++ List.replicate (n - L.length) 0)).toArray
theorem rowZ_at {L : List Nat} {i : Nat} (h : i < L.length) (n : Nat) : (rowZ L n)[i]? = some (.int .i64 (L[i] : Nat)) := by
  unfold rowZ nCells
  rw [List.getElem?_toArray, List.map_append, List.getElem?_append_left (by rw [List.length_map]; exact h), List.getElem?_map, List.getElem?_eq_getElem h]
  rfl
theorem Nums.row {w : World} {g : Nat} {L : List Nat} (h : Is w g 3 (rowZ L L.length)) : Nums w (some ⟨g, 0, none⟩) L.length L :=
  ⟨rfl, fun _ => ⟨g, 0, rfl, h.lt, fun i hi => by rw [h.cell, Nat.zero_add]; exact rowZ_at hi _⟩⟩
end Go.Proofs.YtmdiilnipoblbaaDoor
set_option linter.unusedVariables false
namespace Go.Proofs.YtmdiilnipoblbaaDoor
set_option maxRecDepth 100000
open Go
section
variable {P : Program} {ops : Array Oper} {Q : Exit → Act → World → Prop} {md : Region.Mode} {S : World → Prop} {R : World → World → Prop} {z : Nat}
def wpZ (P : Program) (md : Region.Mode) (ops : Array Oper) (Q : Exit → Act → World → Prop) (S : World → Prop) (R : World → World → Prop) (z : Nat) : Nat → Array Bool → Act → World → Prop
  | 0, listed, a, w => Region.ready md ops listed = [] ∧ ∀ w1, R w w1 → S w1 → Q .normal a w1
  | f + 1, listed, a, w => ∀ w1, R w w1 → S w1 → (Region.ready md ops listed = [] → Q .normal a w1) ∧
      ∀ i ∈ Region.ready md ops listed, wpOp P ops Q i (fun a' w' => if i = z then wpAny P md ops Q f (listed.setIfInBounds i true) a' w' else S w' ∧ wpZ P md ops Q S R z f (listed.setIfInBounds i true) a' w') a w1
theorem wpZ_mono (htr : ∀ x y z, R x y → R y z → R x z) : ∀ {f : Nat} {listed : Array Bool} {a : Act} {w w' : World}, wpZ P md ops Q S R z f listed a w → R w w' → wpZ P md ops Q S R z f listed a w'
  | 0, _, _, _, _, h, hr => ⟨h.1, fun w1 h1 h2 => h.2 w1 (htr _ _ _ hr h1) h2⟩
  | _ + 1, _, _, _, _, h, hr => fun w1 h1 h2 => h w1 (htr _ _ _ hr h1) h2
theorem wpAny_of_z (hrefl : ∀ w, R w w) : ∀ (f : Nat) (listed : Array Bool) (a : Act) (w : World), S w → wpZ P md ops Q S R z f listed a w → wpAny P md ops Q f listed a w
  | 0, _, _, w, hS, h => ⟨h.1, h.2 w (hrefl w) hS⟩
  | f + 1, _, _, w, hS, h => ⟨(h w (hrefl w) hS).1, fun i hi => wpOp_mono (fun a' w' h' => by
      by_cases e : i = z
      · rw [if_pos e] at h'; exact h'
      · rw [if_neg e] at h'; exact wpAny_of_z hrefl f _ a' w' h'.1 h'.2) ((h w (hrefl w) hS).2 i hi)⟩
theorem wpZ_first (hrefl : ∀ w, R w w) (htr : ∀ x y z, R x y → R y z → R x z) {i : Nat} {oi oz : Oper} {v : Value} (hi : ops[i]? = some oi) (hz : ops[z]? = some oz) (haz : ∃ e ∈ oz.after, Region.binds md e = true ∧ e.on = i) (hiz : i ≠ z)
    (hsel : ∀ (j : Nat) (o : Oper) cs b, ops[j]? = some o → o.op ≠ .select cs b)
    (hQ : ∀ c a w, Q (.panic c) (a.put oi.dst v) w → Q (.panic c) a w) :
    ∀ (f : Nat) (listed : Array Bool) (a : Act) (w : World),
      (∀ j oj, ops[j]? = some oj → j ≠ i → listed.getD j true = false → (∀ e ∈ oj.after, Region.binds md e = true → e.on ≠ i) → oi.apart ops oj = true) →
      i ∈ Region.ready md ops listed → YieldsR P ops S R oi v a →
      wpZ P md ops Q S R z f (listed.setIfInBounds i true) (a.put oi.dst v) w → wpZ P md ops Q S R z (f + 1) listed a w := by
  intro f
  induction f with
  | zero =>
    intro listed a w _ hr hy H w1 hR hS
    refine ⟨fun h => (by rw [h] at hr; cases hr), fun j hj => ?_⟩
    by_cases hji : j = i
    · subst hji
      refine hy.wpOp hi hrefl hS fun w2 h1 h2 => ?_
      rw [if_neg hiz]
      exact ⟨h1, wpZ_mono htr H (htr _ _ _ hR h2)⟩
    · have := ready_mono hj hji
      rw [H.1] at this
      cases this
  | succ f ih =>
    intro listed a w hfree hr hy H w1 hR hS
    refine ⟨fun h => (by rw [h] at hr; cases hr), fun j hj => ?_⟩
    by_cases hji : j = i
    · subst hji
      refine hy.wpOp hi hrefl hS fun w2 h1 h2 => ?_
      rw [if_neg hiz]
      exact ⟨h1, wpZ_mono htr H (htr _ _ _ hR h2)⟩
    · have h1 := (H w1 hR hS).2 j (ready_mono hj hji)
      obtain ⟨hjun, oj, hoj, hall⟩ := mem_ready.1 hj
      have hnot : ∀ e ∈ oj.after, Region.binds md e = true → e.on ≠ i := fun e he hb heq => by
        have h2 := hall e he hb
        have h0 := (mem_ready.1 hr).1
        rw [heq] at h2
        rcases Nat.lt_or_ge i listed.size with h' | h'
        · simp [h'] at h0 h2; rw [h0] at h2; cases h2
        · simp [Array.getElem?_eq_none h'] at h2
      have hjz : j ≠ z := fun e => by
        rw [e, hz] at hoj
        cases hoj
        obtain ⟨x, hx, hb, hon⟩ := haz
        exact hnot x hx hb hon
      simp only [if_neg hjz] at h1
      have hap := hfree j oj hoj hji hjun hnot
      obtain ⟨_, _, h3⟩ := Oper.apart_spec hap
      have triv : YieldsIf P ops (fun _ => False) oi v a := by
        rcases hy with ⟨hw, _⟩ | ⟨hw, hv⟩
        · exact .inl ⟨hw, fun _ h => h.elim⟩
        · exact .inr ⟨hw, hv⟩
      have keep : ∀ (b : Act), YieldsR P ops S R oi v b → ∀ u, YieldsR P ops S R oi v (b.put oj.dst u) := fun b hb u =>
        hb.of_same (execOp_put oi (fun cs c => hsel i oi cs c hi) b oj.dst u h3) (wanted_put oi b oj.dst u h3)
      have h2 := wpOp_putIf hoj hap (fun cs b => hsel i oi cs b hi) (fun cs b => hsel j oj cs b hoj) hQ triv h1
      have h4 := wpOp_tag hoj (YieldsR P ops S R oi v) (fun u => keep a hy u) (fun d u => keep { a with defers := d :: a.defers } (hy.of_same rfl rfl) u) h2
      have hfree' : ∀ k ok, ops[k]? = some ok → k ≠ i → (listed.setIfInBounds j true).getD k true = false →
          (∀ e ∈ ok.after, Region.binds md e = true → e.on ≠ i) → oi.apart ops ok = true := fun k ok hk hki hun hno => by
        refine hfree k ok hk hki ?_ hno
        by_cases hjk : j = k
        · subst hjk; exact hjun
        · rw [getD_set_ne true hjk] at hun; exact hun
      refine wpOp_mono (fun a' w' h5 => ?_) h4
      rw [if_neg hjz]
      refine ⟨h5.2.2.1, ih (listed.setIfInBounds j true) a' w' hfree' (ready_mono hr (Ne.symm hji)) h5.1 ?_⟩
      rw [Array.setIfInBounds_comm _ _ hji]
      exact h5.2.2.2
/-- Whether an operation waits for another. -/
def waits (md : Region.Mode) (ops : Array Oper) (z i : Nat) : Bool := match ops[z]? with
  | some o => o.after.toList.any fun e => Region.binds md e && (e.on == i)
  | none => false
/-- One operation first. -/
theorem wpZ_take (hrefl : ∀ w, R w w) (htr : ∀ x y z, R x y → R y z → R x z) {i : Nat} {oi : Oper} {v : Value} {f : Nat} {listed : Array Bool} {a : Act} {w : World} (hi : ops[i]? = some oi)
    (hz : waits md ops z i = true) (hiz : i ≠ z) (hs : Region.noSelect ops = true) (hf : Region.free md ops listed i = true) (hr : (Region.ready md ops listed).contains i = true)
    (hQ : ∀ c a w, Q (.panic c) (a.put oi.dst v) w → Q (.panic c) a w) (hy : YieldsR P ops S R oi v a)
    (h : wpZ P md ops Q S R z f (listed.setIfInBounds i true) (a.put oi.dst v) w) : wpZ P md ops Q S R z (f + 1) listed a w := by
  unfold waits at hz
  cases ho : ops[z]? with
  | none => rw [ho] at hz; cases hz
  | some oz =>
    rw [ho] at hz
    obtain ⟨e, he, hb⟩ := List.any_eq_true.1 hz
    rw [Bool.and_eq_true] at hb
    exact wpZ_first hrefl htr hi ho ⟨e, by simpa using he, hb.1, by simpa using hb.2⟩ hiz (Region.noSelect_spec hs) hQ f listed a w (Region.free_spec hi hf) (by simpa using hr) hy h
/-- z, the only one that is left. -/
theorem wpZ_last {oz : Oper} {listed : Array Bool} {a : Act} {w : World} (hz : ops[z]? = some oz) (hr : Region.ready md ops listed = [z]) (hr2 : Region.ready md ops (listed.setIfInBounds z true) = [])
    (h : ∀ w1, R w w1 → S w1 → ∀ K' : Act → World → Prop, (∀ a' w', Q .normal a' w' → K' a' w') →
      if Region.wanted oz (yielded ops a.tmps) = true then Oper.wp P oz a w1 K' Q else K' (a.put oz.dst undef) w1) : wpZ P md ops Q S R z 1 listed a w := by
  intro w1 hR hS
  refine ⟨fun h0 => (by rw [hr] at h0; cases h0), fun j hj => ?_⟩
  rw [hr] at hj
  have hji : j = z := by simpa using hj
  subst hji
  exact wpOp_step hz (fun K' hK => h w1 hR hS K' fun a' w' hq => hK a' w' (by rw [if_pos rfl]; exact ⟨hr2, hq⟩))
/-- The region, by this law. -/
theorem wp_region_z (hrefl : ∀ w, R w w) {id : Nat} {a : Act} {w : World} (hm : P.follows .mixedOrders = true) (hS : S { w with drawn := w.drawn + 1 })
    (h : wpZ P .any ops Q S R z ops.size (Array.replicate ops.size false) a { w with drawn := w.drawn + 1 }) : (Code.region id ops true).wp P Q a w :=
  wp_region_any hm (wpAny_of_z hrefl _ _ _ _ hS h)
end
end Go.Proofs.YtmdiilnipoblbaaDoor
set_option maxRecDepth 100000
set_option linter.unusedVariables false
namespace Go.Proofs.YtmdiilnipoblbaaDoor
set_option maxRecDepth 100000
open Go Go.RowKit
/-- A pass: X, Y, DX, DY, W, H. -/
abbrev P6 := Nat × Nat × Nat × Nat × Nat × Nat
def p6Cells (p : P6) : List Value := [.int .i64 p.1, .int .i64 p.2.1, .int .i64 p.2.2.1, .int .i64 p.2.2.2.1, .int .i64 p.2.2.2.2.1, .int .i64 p.2.2.2.2.2]
/-- A slice reads as these passes. -/
def Pss (w : World) (A : Option Addr) (n : Nat) (L : List P6) : Prop :=
  L.length = n ∧ (0 < n → ∃ g o, A = some ⟨g, o, none⟩ ∧ g < w.heap.size ∧ ∀ (i k : Nat) (h : i < L.length), k < 6 → w.cell? ⟨g, o + i * 6 + k, none⟩ = (p6Cells L[i])[k]?)
theorem Pss.nil (w : World) (A : Option Addr) : Pss w A 0 [] := ⟨rfl, fun h => absurd h (by omega)⟩
theorem Pss.but {w w' : World} {A : Option Addr} {n : Nat} {L : List P6} (h : Pss w A n L) (hw : But [] w w') : Pss w' A n L :=
  ⟨h.1, fun hn => by
    obtain ⟨g, o, e, hg, hc⟩ := h.2 hn
    refine ⟨g, o, e, Nat.lt_of_lt_of_le hg hw.size, fun i k hi hk => ?_⟩
    have h1 := hc i k hi hk
    rw [← h1]
    have hb := hw.block g hg (by simp)
    simp [World.cell?, hb]⟩
theorem Pss.at {w : World} {A : Option Addr} {n : Nat} {L : List P6} (h : Pss w A n L) {i : Nat} (hi : i < n) :
    ∃ (g o : Nat) (p : P6), A = some ⟨g, o, none⟩ ∧ g < w.heap.size ∧ L[i]? = some p ∧ w.cell? ⟨g, o + i * 6, none⟩ = some (.int .i64 p.1) ∧ w.cell? ⟨g, o + i * 6 + 1, none⟩ = some (.int .i64 p.2.1) ∧ w.cell? ⟨g, o + i * 6 + 2, none⟩ = some (.int .i64 p.2.2.1) ∧
      w.cell? ⟨g, o + i * 6 + 3, none⟩ = some (.int .i64 p.2.2.2.1) ∧ w.cell? ⟨g, o + i * 6 + 4, none⟩ = some (.int .i64 p.2.2.2.2.1) ∧ w.cell? ⟨g, o + i * 6 + 5, none⟩ = some (.int .i64 p.2.2.2.2.2) := by
  obtain ⟨g, o, e, hg, hc⟩ := h.2 (by omega)
  have hl : i < L.length := by have := h.1; omega
  exact ⟨g, o, L[i], e, hg, List.getElem?_eq_getElem hl, hc i 0 hl (by omega), hc i 1 hl (by omega), hc i 2 hl (by omega), hc i 3 hl (by omega), hc i 4 hl (by omega), hc i 5 hl (by omega)⟩
end Go.Proofs.YtmdiilnipoblbaaDoor
