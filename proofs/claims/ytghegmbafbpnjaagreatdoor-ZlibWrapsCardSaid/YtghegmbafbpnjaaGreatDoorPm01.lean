/- Several texts in one: Math, Four, Words, Crc, Mem, Stream, Reader, ReadB, ReadC (what Unwraps, Wraps reach of them). -/
import Derived.Below
import Derived.BigQuiet
import Derived.Deep.DeepCutAuto
import Derived.Deep.Draws
import Derived.Deep.QuietTactic
import Derived.Laws.BitsAllLaws
import Derived.Laws.BitsLemmas
import Derived.Laws.IdiomStrings
import Derived.Laws.OwnMore
import Derived.Laws.Rows
import Derived.Lib.Hide
import Derived.Lib.Strings
import Derived.Outline
import Derived.RegionTactic
import Derived.Test.YtghegmbafbpnjaaGreatDoorChecked
import Derived.WalkKit
import Derived.WalkLawsBesides
import Derived.WalkSpells
set_option maxRecDepth 100000
set_option linter.unusedVariables false
namespace Go.Proofs.YtghegmbafbpnjaaGreatDoor
set_option maxRecDepth 100000
open Go
def adP (l : List UInt8) : Nat × Nat := l.foldl (fun p b => ((p.1 + b.toNat) % 65521, (p.2 + (p.1 + b.toNat) % 65521) % 65521)) (1, 0)
def adSum (l : List UInt8) : Nat := 65536 * (adP l).2 + (adP l).1
theorem adP_snoc (l : List UInt8) (b : UInt8) : adP (l ++ [b]) = (((adP l).1 + b.toNat) % 65521, ((adP l).2 + ((adP l).1 + b.toNat) % 65521) % 65521) := by
  unfold adP; rw [List.foldl_append]; rfl
theorem adP_lt' (l : List UInt8) : ∀ p : Nat × Nat, p.1 < 65521 → p.2 < 65521 →
    (l.foldl (fun p b => ((p.1 + b.toNat) % 65521, (p.2 + (p.1 + b.toNat) % 65521) % 65521)) p).1 < 65521 ∧ (l.foldl (fun (p : Nat × Nat) (b : UInt8) => ((p.1 + b.toNat) % 65521, (p.2 + (p.1 + b.toNat) % 65521) % 65521)) p).2 < 65521 := by
  induction l with
  | nil => intro p h1 h2; exact ⟨h1, h2⟩
  | cons b l ih => intro p _ _; exact ih _ (Nat.mod_lt _ (by decide)) (Nat.mod_lt _ (by decide))
theorem adP_lt (l : List UInt8) : (adP l).1 < 65521 ∧ (adP l).2 < 65521 := adP_lt' l _ (by decide) (by decide)

theorem take_snoc (s : ByteArray) (k : Nat) (h : k < s.size) : s.data.toList.take (k + 1) = s.data.toList.take k ++ [s[k]] := by
  rw [List.take_succ_eq_append_getElem (by simpa using h)]; rfl
theorem take_all (s : ByteArray) : s.data.toList.take s.size = s.data.toList := List.take_of_length_le (Nat.le_of_eq (Array.length_toList.trans rfl))
end Go.Proofs.YtghegmbafbpnjaaGreatDoor
set_option linter.unusedVariables false
namespace Go.Proofs.YtghegmbafbpnjaaGreatDoor
set_option maxRecDepth 100000
open Go
/-- A number as four bytes, the highest one first. -/
def fourL (n : Nat) : List UInt8 := [UInt8.ofNat (n / 16777216), UInt8.ofNat (n / 65536), UInt8.ofNat (n / 256), UInt8.ofNat n]
/-- The number of bytes, the highest one first. -/
def ofL (l : List UInt8) : Nat := l.foldl (fun n b => 256 * n + b.toNat) 0
theorem ofL_four {n : Nat} (h : n < 4294967296) : ofL (fourL n) = n := by
  have a := UInt8.toNat_ofNat' (n := n / 16777216)
  have b := UInt8.toNat_ofNat' (n := n / 65536)
  have c := UInt8.toNat_ofNat' (n := n / 256)
  have d := UInt8.toNat_ofNat' (n := n)
  show 256 * (256 * (256 * (256 * 0 + (UInt8.ofNat (n / 16777216)).toNat) + (UInt8.ofNat (n / 65536)).toNat) + (UInt8.ofNat (n / 256)).toNat) + (UInt8.ofNat n).toNat = n
  omega
theorem ofL_inj4 : ∀ {a b : List UInt8}, a.length = 4 → b.length = 4 → ofL a = ofL b → a = b
  | [a1, a2, a3, a4], [b1, b2, b3, b4], _, _, h => by
    have h' : 256 * (256 * (256 * (256 * 0 + a1.toNat) + a2.toNat) + a3.toNat) + a4.toNat = 256 * (256 * (256 * (256 * 0 + b1.toNat) + b2.toNat) + b3.toNat) + b4.toNat := h
    have l1 := a1.toNat_lt; have l2 := a2.toNat_lt; have l3 := a3.toNat_lt; have l4 := a4.toNat_lt
    have m1 := b1.toNat_lt; have m2 := b2.toNat_lt; have m3 := b3.toNat_lt; have m4 := b4.toNat_lt
    have e1 : a1.toNat = b1.toNat := by omega
    have e2 : a2.toNat = b2.toNat := by omega
    have e3 : a3.toNat = b3.toNat := by omega
    have e4 : a4.toNat = b4.toNat := by omega
    rw [UInt8.toNat_inj.1 e1, UInt8.toNat_inj.1 e2, UInt8.toNat_inj.1 e3, UInt8.toNat_inj.1 e4]
/-- Bytes as a string. -/
def strL (l : List UInt8) : ByteArray := ⟨l.toArray⟩
theorem strL_list (l : List UInt8) : (strL l).data.toList = l := by unfold strL; simp
theorem strL_size (l : List UInt8) : (strL l).size = l.length := by unfold strL; show l.toArray.size = l.length; simp
theorem ext_list (s : ByteArray) (i j : Nat) : s.extract i j = strL ((s.data.toList.take j).drop i) := by
  unfold strL
  apply ByteArray.ext
  rw [ByteArray.data_extract]
  apply Array.ext'
  rw [Array.toList_extract, List.extract_eq_take_drop]
  simp only
  rw [List.drop_take]
theorem fourL_length (n : Nat) : (fourL n).length = 4 := rfl
theorem adSum_lt (l : List UInt8) : adSum l < 4294967296 := by
  have h := adP_lt l
  unfold adSum
  omega
end Go.Proofs.YtghegmbafbpnjaaGreatDoor
namespace Go.Proofs.YtghegmbafbpnjaaGreatDoor
set_option maxRecDepth 100000
open Go
theorem wraps_i64 (n : Int) (h₀ : 0 ≤ n) (h₁ : n < 2 ^ 63) : IntKind.i64.wrap n = n := by rw [IntKind.wrap_i64]; omega
theorem ofInt_i64 (a : Nat) (ha : a < 9223372036854775808) : (BitVec.ofInt 64 (a : Int)).toNat = a := by
  rw [BitVec.ofInt_natCast, BitVec.toNat_ofNat]; exact Nat.mod_eq_of_lt (by omega)
theorem i64_or (a b : Nat) (ha : a < 9223372036854775808) (hb : b < 9223372036854775808) : bits .or .i64 (a : Int) (b : Int) = ((a ||| b : Nat) : Int) := by
  have hx : a ||| b < 2 ^ 63 := Nat.or_lt_two_pow (by omega) (by omega)
  show IntKind.i64.wrap ((BitVec.ofInt 64 (a : Int) ||| BitVec.ofInt 64 (b : Int)).toNat : Int) = _
  rw [BitVec.toNat_or, ofInt_i64 a ha, ofInt_i64 b hb]
  exact wraps_i64 _ (by omega) (by omega)
/-- A mask of n ones keeps the remainder, of whatever number. -/
theorem i64_mask (v : Int) (n : Nat) (hn : n ≤ 62) : bits .and .i64 v (2 ^ n - 1) = v % 2 ^ n := by
  have hp : 2 ^ n ≤ 2 ^ 62 := Nat.pow_le_pow_right (by decide) hn
  have hpos : 0 < 2 ^ n := Nat.two_pow_pos n
  have e : ((2 : Int) ^ n - 1) = ((2 ^ n - 1 : Nat) : Int) := by rw [Int.natCast_sub hpos]; simp
  have g1 : (BitVec.ofInt 64 v).toNat = (v % 18446744073709551616).toNat := by rw [BitVec.toNat_ofInt]; rfl
  have hm : (v % 18446744073709551616).toNat % 2 ^ n < 2 ^ n := Nat.mod_lt _ hpos
  have hd : ((2 : Int) ^ n) ∣ 18446744073709551616 := by
    have h : 2 ^ n ∣ (18446744073709551616 : Nat) := (by decide : (18446744073709551616 : Nat) = 2 ^ 64) ▸ Nat.pow_dvd_pow 2 (by omega)
    have := Int.natCast_dvd_natCast.2 h
    simpa using this
  have hc : (((v % 18446744073709551616).toNat % 2 ^ n : Nat) : Int) = v % 2 ^ n := by
    rw [Int.natCast_emod, Int.toNat_of_nonneg (Int.emod_nonneg _ (by decide))]
    have e2 : ((2 ^ n : Nat) : Int) = (2 : Int) ^ n := by simp
    rw [e2, Int.emod_emod_of_dvd _ hd]
  show IntKind.i64.wrap ((BitVec.ofInt 64 v &&& BitVec.ofInt 64 (2 ^ n - 1)).toNat : Int) = _
  rw [e, BitVec.toNat_and, ofInt_i64 _ (by omega), g1, Nat.and_two_pow_sub_one_eq_mod, ← hc]
  have hlast : (v % 18446744073709551616).toNat % 2 ^ n < 9223372036854775808 := by omega
  exact wraps_i64 _ (by omega) (by omega)
/-- A number whose low bits are none, and a smaller one: or is the sum. -/
theorem i64_join (x y i : Nat) (hx : x < 9223372036854775808) (hy : y < 2 ^ i) (hd : x % 2 ^ i = 0) (hi : i ≤ 62) : bits .or .i64 (y : Int) (x : Int) = ((y + x : Nat) : Int) := by
  have hp : 2 ^ i ≤ 2 ^ 62 := Nat.pow_le_pow_right (by decide) hi
  rw [i64_or _ _ (by omega) hx, Nat.or_comm, nat_join i x y hd hy, Nat.add_comm]
end Go.Proofs.YtghegmbafbpnjaaGreatDoor
namespace Go.Proofs.YtghegmbafbpnjaaGreatDoor
set_option maxRecDepth 100000
open Go Go.RowKit
theorem ret_int {k : IntKind} {a b : Int} (h : a = b) : Ending.returned (.int k a) = .returned (.int k b) := by rw [h]
set_option maxHeartbeats 1000000 in
theorem ref_adler (s : ByteArray) (w : World) (hs : s.size ≤ maxLen) :
    Calls Tryz.prog 14 #[.string s] w fun e w' => e = .returned (.int .i64 (adSum s.data.toList)) ∧ w = w' := by
  unfold maxLen at hs
  go_enter Tryz.func14, Tryz.ntmps14
  go_wp2
  go_loop [3, 4, 5] (fun a b i => ∃ k : Nat, k ≤ s.size ∧ i = .int .i64 k ∧ a = .int .i64 (adP (s.data.toList.take k)).1 ∧ b = .int .i64 (adP (s.data.toList.take k)).2) (fun _ _ i => s.size - (intOf i).toNat)
  case atStart => exact ⟨0, Nat.zero_le _, rfl, rfl, rfl⟩
  case round =>
    obtain ⟨k, hk, rfl, rfl, rfl⟩ := hrel
    have hlt := adP_lt (s.data.toList.take k)
    obtain ⟨hl1, hl2⟩ := hlt
    by_cases hk2 : k < s.size
    · have hb := s[k].toNat_lt
      have hts := take_snoc s k hk2
      have HS : Hid (adP (s.data.toList.take (k + 1)) = (((adP (s.data.toList.take k)).1 + s[k].toNat) % 65521, ((adP (s.data.toList.take k)).2 + ((adP (s.data.toList.take k)).1 + s[k].toNat) % 65521) % 65521)) := by rw [hts, adP_snoc]; exact rfl
      clear hts
      go_wp2
      go_round
      case rel => exact ⟨k + 1, by omega, by go_num, by rw [HS.out]; go_num, by rw [HS.out]; go_num⟩
      case measure => simp [intOf]; omega
    · have HL : Hid (65536 * (((adP (s.data.toList.take k)).2 : Nat) : Int) + (((adP (s.data.toList.take k)).1 : Nat) : Int) = ((adSum s.data.toList : Nat) : Int)) := by
        have e : s.data.toList.take k = s.data.toList := by rw [show k = s.size from by omega]; exact take_all s
        rw [e]; show @Eq Int _ _; unfold adSum; omega
      go_wp2
      go_ret
      exact ⟨ret_int HL.out, rfl⟩

set_option maxHeartbeats 1000000 in
theorem bits_adler (s : ByteArray) (w : World) (hs : s.size ≤ maxLen) :
    Calls Tryz.prog 24 #[.string s] w fun e w' => e = .returned (.int .i64 (adSum s.data.toList)) ∧ w = w' := by
  unfold maxLen at hs
  go_enter Tryz.func24, Tryz.ntmps24
  go_wp2
  go_loop [3, 4, 5, 8] (fun a b _ i => ∃ k : Nat, k ≤ s.size ∧ i = .int .i64 k ∧ a = .int .i64 (adP (s.data.toList.take k)).1 ∧ b = .int .i64 (adP (s.data.toList.take k)).2) (fun _ _ _ i => s.size - (intOf i).toNat)
  case atStart => exact ⟨0, Nat.zero_le _, rfl, rfl, rfl⟩
  case round =>
    obtain ⟨k, hk, rfl, rfl, rfl⟩ := hrel
    have hlt := adP_lt (s.data.toList.take k)
    obtain ⟨hl1, hl2⟩ := hlt
    by_cases hk2 : k < s.size
    · have hb := s[k].toNat_lt
      have hts := take_snoc s k hk2
      have HS : Hid (adP (s.data.toList.take (k + 1)) = (((adP (s.data.toList.take k)).1 + s[k].toNat) % 65521, ((adP (s.data.toList.take k)).2 + ((adP (s.data.toList.take k)).1 + s[k].toNat) % 65521) % 65521)) := by rw [hts, adP_snoc]; exact rfl
      clear hts
      go_wp2
      go_round
      case rel => exact ⟨k + 1, by omega, by go_num, by rw [HS.out]; go_num, by rw [HS.out]; go_num⟩
      case measure => simp [intOf]; omega
    · have HL : Hid ((((adP (s.data.toList.take k)).2 : Nat) : Int) * 65536 + (((adP (s.data.toList.take k)).1 : Nat) : Int) = ((adSum s.data.toList : Nat) : Int)) := by
        have e : s.data.toList.take k = s.data.toList := by rw [show k = s.size from by omega]; exact take_all s
        rw [e]; show @Eq Int _ _; unfold adSum; omega
      go_wp2
      go_ret
      exact ⟨ret_int HL.out, rfl⟩
end Go.Proofs.YtghegmbafbpnjaaGreatDoor
namespace Go.Proofs.YtghegmbafbpnjaaGreatDoor
set_option maxRecDepth 100000
open Go Go.RowKit
/-- Block b is just these cells; none is frozen. -/
def Is (w : World) (b : Nat) (t : TypeId) (cs : Array Value) : Prop := w.heap[b]? = some (.cells cs t (0, 0))
/-- Whatever is no block of S is as it was. -/
structure But (S : List Nat) (w w' : World) : Prop where
  os : w'.os = w.os
  tape : w'.tape = w.tape
  output : w'.output = w.output
  size : w.heap.size ≤ w'.heap.size
  block : ∀ k, k < w.heap.size → k ∉ S → w'.heap[k]? = w.heap[k]?
/-- A slice's address and length: it reads as these bytes. -/
def ByteRow (w : World) (A : Option Addr) (n : Nat) (l : List UInt8) : Prop :=
  l.length = n ∧ (0 < n → ∃ g o, A = some ⟨g, o, none⟩ ∧ ∀ (i : Nat) (h : i < l.length), w.cell? ⟨g, o + i, none⟩ = some (.int .u8 l[i].toNat))
/-- No cell of the slice lies in block b. -/
def Off (A : Option Addr) (b : Nat) : Prop := ∀ a, A = some a → a.block ≠ b

section
variable {w w' w'' : World} {b : Nat} {t : TypeId} {cs : Array Value} {S T : List Nat}
theorem Is.lt (h : Is w b t cs) : b < w.heap.size := (Array.getElem?_eq_some_iff.1 h).1
theorem Is.cell (h : Is w b t cs) (i : Nat) : w.cell? ⟨b, i, none⟩ = cs[i]? := by unfold Is at h; simp [World.cell?, h]
theorem Is.free (h : Is w b t cs) (i : Nat) : w.frozen? ⟨b, i, none⟩ = false := by unfold Is at h; simp [World.frozen?, h]
theorem Is.fresh (w : World) (t : TypeId) (cs : Array Value) : Is (w.alloc (.cells cs t)) w.heap.size t cs := by unfold Is World.alloc; simp
theorem Is.drew (h : Is w b t cs) : Is w.drew b t cs := h
theorem Is.drewN (h : Is w b t cs) (n : Nat) : Is (w.drewN n) b t cs := h
theorem Is.alloc (h : Is w b t cs) (o : Obj) : Is (w.alloc o) b t cs := (Below.heap_alloc w o b h.lt).trans h
theorem Is.put (h : Is w b t cs) (i : Nat) (u : Value) : Is (w.setCell ⟨b, i, none⟩ u) b t (cs.setIfInBounds i u) := by
  unfold Is at h ⊢; simp [World.setCell, Array.getElem?_modify, h]
theorem Is.far (h : Is w b t cs) {p : Addr} (hp : b ≠ p.block) (u : Value) : Is (w.setCell p u) b t cs := (Below.heap_setCell w p u b hp).trans h
theorem Is.but (h : Is w b t cs) (hw : But S w w') (hb : b ∉ S) : Is w' b t cs := (hw.block b h.lt hb).trans h
theorem Is.grown (h : Is w b t cs) {row : Option Nat} (hw : w.grownBy w' row) (hb : some b ≠ row) : Is w' b t cs := (hw.block b h.lt hb).trans h
theorem Is.ne (h : Is w b t cs) {b' : Nat} {t' : TypeId} {cs' : Array Value} (h' : Is w b' t' cs') (hne : t ≠ t') : b ≠ b' := by
  rintro rfl
  exact hne (Obj.cells.inj (Option.some.inj (h.symm.trans h'))).2.1

theorem But.refl (S : List Nat) (w : World) : But S w w := ⟨rfl, rfl, rfl, Nat.le_refl _, fun _ _ _ => rfl⟩
theorem But.trans (h : But S w w') (k : But S w' w'') : But S w w'' :=
  ⟨k.os.trans h.os, k.tape.trans h.tape, k.output.trans h.output, Nat.le_trans h.size k.size, fun i hi hS => (k.block i (Nat.lt_of_lt_of_le hi h.size) hS).trans (h.block i hi hS)⟩
theorem But.more (h : But S w w') (hS : ∀ k ∈ S, k ∈ T) : But T w w' := ⟨h.os, h.tape, h.output, h.size, fun k hk hT => h.block k hk (fun e => hT (hS k e))⟩
theorem But.drew (h : But S w w') : But S w w'.drew := ⟨h.os, h.tape, h.output, h.size, h.block⟩
theorem But.drewN (h : But S w w') (n : Nat) : But S w (w'.drewN n) := ⟨h.os, h.tape, h.output, h.size, h.block⟩
theorem But.alloc (h : But S w w') (o : Obj) : But S w (w'.alloc o) :=
  h.trans ⟨rfl, rfl, rfl, by simp, fun k hk _ => Below.heap_alloc _ _ _ hk⟩
theorem But.setCell (h : But S w w') {p : Addr} (hp : p.block ∈ S ∨ w.heap.size ≤ p.block) (u : Value) : But S w (w'.setCell p u) :=
  ⟨h.os, h.tape, h.output, by have := h.size; simpa using this, fun k hk hS => (Below.heap_setCell w' p u k (by
    rcases hp with e | e
    · intro e'; subst e'; exact hS e
    · omega)).trans (h.block k hk hS)⟩
theorem But.grown (h : But S w w') {row : Option Nat} (hw : w'.grownBy w'' row) (hr : ∀ g, row = some g → g ∈ S ∨ w.heap.size ≤ g) : But S w w'' :=
  ⟨hw.os.trans h.os, hw.tape.trans h.tape, hw.output.trans h.output, Nat.le_trans h.size hw.size, fun k hk hS => (hw.block k (Nat.lt_of_lt_of_le hk h.size) (fun e => by
    rcases hr k e.symm with g | g
    · exact hS g
    · omega)).trans (h.block k hk hS)⟩
theorem But.cell (h : But S w w') {a : Addr} {v : Value} (hc : w.cell? a = some v) (ha : a.block ∉ S) : w'.cell? a = some v :=
  (World.cell?_of_block (h.block a.block (World.block_lt_of_cell? w a hc) ha)).trans hc

variable {A : Option Addr} {n : Nat} {l : List UInt8}
theorem ByteRow.but (h : ByteRow w A n l) (hw : But S w w') (hA : ∀ k ∈ S, Off A k) : ByteRow w' A n l :=
  ⟨h.1, fun hn => by
    obtain ⟨g, o, e, hc⟩ := h.2 hn
    exact ⟨g, o, e, fun i hi => hw.cell (hc i hi) (fun hS => hA g hS _ e rfl)⟩⟩
theorem ByteRow.drew (h : ByteRow w A n l) : ByteRow w.drew A n l := h
theorem ByteRow.at (h : ByteRow w A n l) {i : Nat} (hi : i < n) : ∃ g o, A = some ⟨g, o, none⟩ ∧ w.cell? ⟨g, o + i, none⟩ = some (.int .u8 (l[i]'(by have := h.1; omega)).toNat) := by
  obtain ⟨g, o, e, hc⟩ := h.2 (by omega)
  exact ⟨g, o, e, hc i (by have := h.1; omega)⟩
/-- A cut from k on. -/
theorem ByteRow.cut (h : ByteRow w A n l) {k c : Nat} (hk : k ≤ n) (hc : n ≤ c) : ByteRow w (if c = k then A else A.map (·.add k)) (n - k) (l.drop k) := by
  refine ⟨by rw [List.length_drop, h.1], fun hn => ?_⟩
  obtain ⟨g, o, rfl, hcell⟩ := h.2 (by omega)
  rw [if_neg (by omega)]
  refine ⟨g, o + k, by simp [Addr.add], fun i hi => ?_⟩
  have hl := h.1
  rw [List.length_drop] at hi
  have := hcell (k + i) (by omega)
  rw [List.getElem_drop, Nat.add_assoc]
  exact this
theorem Off.cut {k c : Nat} (h : Off A b) : Off (if c = k then A else A.map (·.add k)) b := by
  split
  · exact h
  · intro a ha
    rcases A with _ | a0
    · simp at ha
    · simp only [Option.map_some, Option.some.injEq] at ha
      subst ha
      have := h a0 rfl
      unfold Addr.add
      split <;> exact this
end
end Go.Proofs.YtghegmbafbpnjaaGreatDoor
namespace Go.Proofs.YtghegmbafbpnjaaGreatDoor
set_option maxRecDepth 100000
/-- Bytes as a number, the first one lowest. -/
def num : List UInt8 → Nat
  | [] => 0
  | b :: l => b.toNat + 256 * num l
/-- The lowest k bytes of a number. -/
def bytesOf : Nat → Nat → List UInt8
  | 0, _ => []
  | k + 1, x => UInt8.ofNat x :: bytesOf k (x / 256)

theorem num_append (a b : List UInt8) : num (a ++ b) = num a + 256 ^ a.length * num b := by
  induction a with
  | nil => simp [num]
  | cons x a ih =>
    simp only [List.cons_append, num, ih, List.length_cons, Nat.pow_succ, Nat.mul_add]
    rw [show 256 ^ a.length * 256 * num b = 256 * (256 ^ a.length * num b) from by rw [Nat.mul_comm (256 ^ a.length) 256, Nat.mul_assoc]]
    omega
theorem num_lt (l : List UInt8) : num l < 256 ^ l.length := by
  induction l with
  | nil => decide
  | cons x l ih =>
    have := x.toNat_lt
    simp only [num, List.length_cons, Nat.pow_succ]
    omega
theorem num_drop (l : List UInt8) (k : Nat) : num (l.drop k) = num l / 256 ^ k := by
  induction k generalizing l with
  | zero => simp
  | succ k ih =>
    cases l with
    | nil => simp [num]
    | cons x l =>
      have := x.toNat_lt
      simp only [List.drop_succ_cons, num, ih, Nat.pow_succ]
      rw [Nat.mul_comm (256 ^ k) 256, ← Nat.div_div_eq_div_mul]
      congr 1
      omega
theorem num_take (l : List UInt8) (k : Nat) : num (l.take k) = num l % 256 ^ k := by
  rcases Nat.lt_or_ge k l.length with h | h
  · have e := num_append (l.take k) (l.drop k)
    rw [List.take_append_drop, List.length_take, Nat.min_eq_left (by omega)] at e
    have hlt := num_lt (l.take k)
    rw [List.length_take, Nat.min_eq_left (by omega)] at hlt
    rw [e, Nat.add_mul_mod_self_left, Nat.mod_eq_of_lt hlt]
  · rw [List.take_of_length_le h]
    exact (Nat.mod_eq_of_lt (Nat.lt_of_lt_of_le (num_lt l) (Nat.pow_le_pow_right (by decide) h))).symm
theorem num_get (l : List UInt8) (k : Nat) (h : k < l.length) : l[k].toNat = num l / 256 ^ k % 256 := by
  rw [← num_drop, List.drop_eq_getElem_cons h]
  have := l[k].toNat_lt
  simp only [num]
  omega
theorem num_snoc (l : List UInt8) (b : UInt8) : num (l ++ [b]) = num l + 256 ^ l.length * b.toNat := by
  rw [num_append]; simp [num]
theorem length_bytesOf (k x : Nat) : (bytesOf k x).length = k := by
  induction k generalizing x with
  | zero => rfl
  | succ k ih => simp [bytesOf, ih]
theorem bytesOf_num (l : List UInt8) : bytesOf l.length (num l) = l := by
  induction l with
  | nil => rfl
  | cons x l ih =>
    have := x.toNat_lt
    simp only [List.length_cons, bytesOf, num]
    have e1 : UInt8.ofNat (x.toNat + 256 * num l) = x := by
      apply UInt8.toNat_inj.1
      rw [UInt8.toNat_ofNat']
      omega
    have e2 : (x.toNat + 256 * num l) / 256 = num l := by omega
    rw [e1, e2, ih]
theorem bytesOf_eq {l : List UInt8} {k x : Nat} (hk : l.length = k) (hx : num l = x) : l = bytesOf k x := by
  subst hk hx; exact (bytesOf_num l).symm
theorem p256 (k : Nat) : 256 ^ k = 2 ^ (8 * k) := by rw [Nat.pow_mul]

/-- What n bits at place p are. -/
def bitsAt (x p n : Nat) : Nat := x / 2 ^ p % 2 ^ n
theorem bitsAt_lt (x p n : Nat) : bitsAt x p n < 2 ^ n := Nat.mod_lt _ (Nat.two_pow_pos n)
theorem bitsAt_zero (x p : Nat) : bitsAt x p 0 = 0 := by simp [bitsAt, Nat.mod_one]
/-- Bits within the lowest m ones. -/
theorem bitsAt_mod (x p n m : Nat) (h : p + n ≤ m) : bitsAt (x % 2 ^ m) p n = bitsAt x p n := by
  unfold bitsAt
  have e : 2 ^ m = 2 ^ p * 2 ^ (m - p) := by rw [← Nat.pow_add]; congr 1; omega
  rw [e, Nat.mod_mul_right_div_self]
  exact Nat.mod_mod_of_dvd _ (Nat.pow_dvd_pow 2 (by omega))
theorem bitsAt_div (x p n k : Nat) : bitsAt (x / 2 ^ k) p n = bitsAt x (k + p) n := by
  unfold bitsAt; rw [Nat.div_div_eq_div_mul, ← Nat.pow_add]
theorem bitsAt_succ (x p n : Nat) : bitsAt x p (n + 1) = bitsAt x p n + bitsAt x (p + n) 1 * 2 ^ n := by
  unfold bitsAt
  rw [Nat.pow_succ, Nat.mod_mul, Nat.pow_add, ← Nat.div_div_eq_div_mul, Nat.mul_comm (2 ^ n), Nat.pow_one]
/-- A bit of bytes is a bit of one of them. -/
theorem bit_of_byte (l : List UInt8) (p : Nat) (h : p / 8 < l.length) : l[p / 8].toNat / 2 ^ (p % 8) % 2 = bitsAt (num l) p 1 := by
  have hb := num_get l (p / 8) h
  rw [hb, p256]
  have h1 := bitsAt_mod (num l / 2 ^ (8 * (p / 8))) (p % 8) 1 8 (by omega)
  rw [bitsAt_div] at h1
  have e : 8 * (p / 8) + p % 8 = p := by omega
  rw [e] at h1
  exact h1
/-- Bits out of what is left, and of it only so many bytes. -/
theorem bitsAt_left (l : List UInt8) (p n k : Nat) (hk : p % 8 + n ≤ 8 * k) : bitsAt (num ((l.drop (p / 8)).take k)) (p % 8) n = bitsAt (num l) p n := by
  rw [num_take, num_drop, p256, p256, bitsAt_mod _ _ _ _ hk, bitsAt_div]
  congr 1; omega
end Go.Proofs.YtghegmbafbpnjaaGreatDoor
namespace Go.Proofs.YtghegmbafbpnjaaGreatDoor
set_option maxRecDepth 100000
open Go Go.RowKit
/-- A reader in block b, its bytes in block d: of the bytes s, p bits are consumed. -/
def RS (w : World) (b d : Nat) (s : ByteArray) (p : Nat) : Prop :=
  p ≤ 8 * s.size ∧ d ≠ b ∧ ∃ A n c, Is w b 97 #[.slice A n c, .int .i64 (p % 8 : Nat)] ∧ n ≤ c ∧ ByteRow w A n (s.data.toList.drop (p / 8)) ∧ ∀ a, A = some a → a.block = d

theorem RS.but {w w' : World} {b d p : Nat} {s : ByteArray} {S : List Nat} (h : RS w b d s p) (hw : But S w w') (hb : b ∉ S) (hd : d ∉ S) : RS w' b d s p := by
  obtain ⟨h1, h2, A, n, c, hi, hn, hr, ha⟩ := h
  exact ⟨h1, h2, A, n, c, hi.but hw hb, hn, hr.but hw (fun k hk a e e' => hd (by rw [← ha a e, e']; exact hk)), ha⟩
theorem read_made (w : World) (s : ByteArray) (cap : Nat) (fz : Nat × Nat) (hc : s.size ≤ cap) :
    RS (((w.alloc (.cells (bytesRow s cap) 5 fz)).alloc (.cells #[.slice (some ⟨w.heap.size, 0, none⟩) s.size cap, .int .i64 0] 97)).drew) (w.heap.size + 1) w.heap.size s 0 := by
  refine ⟨by omega, by omega, some ⟨w.heap.size, 0, none⟩, s.size, cap, ?_, hc, ⟨Array.length_toList.trans rfl, fun _ => ⟨w.heap.size, 0, rfl, fun i hi => ?_⟩⟩, ?_⟩
  · have h := Is.fresh (w.alloc (.cells (bytesRow s cap) 5 fz)) 97 #[.slice (some ⟨w.heap.size, 0, none⟩) s.size cap, .int .i64 0]
    have e : (w.alloc (.cells (bytesRow s cap) 5 fz)).heap.size = w.heap.size + 1 := by simp
    rw [e] at h
    exact h.drew
  · have hi' : i < s.data.size := by simpa using hi
    have h1 : (w.alloc (.cells (bytesRow s cap) 5 fz)).cell? ⟨w.heap.size, 0 + i, none⟩ = some (.int .u8 (s.data[i].toNat : Int)) := by
      rw [World.cell?_alloc_mark, Nat.zero_add]; exact bytesRow_at s cap i hi'
    show ((w.alloc (.cells (bytesRow s cap) 5 fz)).alloc _).cell? _ = _
    rw [World.cell?_alloc_lt _ _ _ (by simp), h1]
    simp
  · intro a e; simp at e; subst e; rfl

set_option maxHeartbeats 1000000 in
theorem bits_read (s : ByteArray) (w : World) :
    Calls Tryz.prog 28 #[.string s] w fun e w' => e = .returned (.pointer (some ⟨w.heap.size + 1, 0, none⟩)) ∧ RS w' (w.heap.size + 1) w.heap.size s 0 ∧ But [] w w' ∧ w'.heap.size = w.heap.size + 2 := by
  have hcv := run_bytes_of_string (P := Tryz.prog) w 9 40 5 s Tryz.underlying9 Tryz.underlying40 Tryz.underlying5
  go_enter Tryz.func28, Tryz.ntmps28
  go_wp2
  go_ret
  exact ⟨rfl, read_made w s _ _ (grownCap_ge w s.size 0 _), ((((But.refl [] w).alloc _).alloc _).drew), by simp⟩

set_option maxHeartbeats 1000000 in
theorem RS.left_w {w : World} {b d p : Nat} {s : ByteArray} (h : RS w b d s p) (hs : s.size ≤ 140737489403904) :
    Calls Tryz.prog 30 #[.pointer (some ⟨b, 0, none⟩)] w fun e w' => e = .returned (.int .i64 (8 * s.size - p : Nat)) ∧ ∃ n, w' = w.drewN n := by
  obtain ⟨hp, hd, A, n, c, hi, hn, hr, ha⟩ := h
  have h0 : w.cell? ⟨b, 0, none⟩ = some (.slice A n c) := hi.cell 0
  have h1 : w.cell? ⟨b, 1, none⟩ = some (.int .i64 (p % 8 : Nat)) := hi.cell 1
  have hl := hr.1
  rw [List.length_drop, Array.length_toList] at hl
  have hz : s.data.size = s.size := rfl
  rw [hz] at hl
  have hlen : n ≤ 140737489403904 := by omega
  have H := Lib.hid hl
  clear hl hz hr ha hi hn
  go_enter Tryz.func30, Tryz.ntmps30
  go_wp2
  go_quiet (fail)
  go_wp2
  go_ret
  exact ⟨ret_int (by have := H.out; omega), nq, rfl⟩

/-- The document's reader in block b: of the bytes s, p bits are consumed. -/
def FS (w : World) (b : Nat) (s : ByteArray) (p : Nat) : Prop := p ≤ 8 * s.size ∧ Is w b 54 #[.string s, .int .i64 p]
theorem FS.but {w w' : World} {b p : Nat} {s : ByteArray} {S : List Nat} (h : FS w b s p) (hw : But S w w') (hb : b ∉ S) : FS w' b s p := ⟨h.1, h.2.but hw hb⟩

theorem RS.left {w : World} {b d p : Nat} {s : ByteArray} (h : RS w b d s p) (hs : s.size ≤ 140737488355328) :
    Calls Tryz.prog 30 #[.pointer (some ⟨b, 0, none⟩)] w fun e w' => e = .returned (.int .i64 (8 * s.size - p : Nat)) ∧ ∃ n, w' = w.drewN n := h.left_w (by omega)

set_option maxHeartbeats 1000000 in
theorem FS.left {w : World} {b p : Nat} {s : ByteArray} (h : FS w b s p) (hs : s.size ≤ 140737488355328) :
    Calls Tryz.prog 93 #[.pointer (some ⟨b, 0, none⟩)] w fun e w' => e = .returned (.int .i64 (8 * s.size - p : Nat)) ∧ ∃ n, w' = w.drewN n := by
  obtain ⟨hp, hi⟩ := h
  have h0 : w.cell? ⟨b, 0, none⟩ = some (.string s) := hi.cell 0
  have h1 : w.cell? ⟨b, 1, none⟩ = some (.int .i64 p) := hi.cell 1
  clear hi
  go_enter Tryz.func93, Tryz.ntmps93
  go_wp2
  go_quiet (fail)
  go_wp2
  go_ret
  exact ⟨ret_int (by omega), nq, rfl⟩

/-- What a reader's Bits does: the number and the error, and where it stands then. -/
def bitsErr (s : ByteArray) (p : Nat) (n : Int) : Int := if n < 0 ∨ 24 < n then 1 else if (8 * s.size - p : Nat) < n then 3 else 0
def bitsVal (s : ByteArray) (p : Nat) (n : Int) : Nat := if bitsErr s p n = 0 then bitsAt (num s.data.toList) p n.toNat else 0
def bitsGo (s : ByteArray) (p : Nat) (n : Int) : Nat := if bitsErr s p n = 0 then p + n.toNat else p

theorem byte_at (s : ByteArray) (i : Nat) (h : i < s.size) : s[i] = s.data.toList[i]'(by simpa using h) := rfl
theorem int_pow (z j : Nat) : ((z : Nat) : Int) * 2 ^ j = ((z * 2 ^ j : Nat) : Int) := by simp
theorem lay_bit' (y z j : Nat) (hj : j < 24) (hz : z < 2) (hy : y < 2 ^ j) :
    Go.bits .or .i64 (y : Int) (wrap64 (wrap64 (z : Int) * 2 ^ j)) = ((y + z * 2 ^ j : Nat) : Int) := by
  have hp : 2 ^ j ≤ 2 ^ 24 := Nat.pow_le_pow_right (by decide) (by omega)
  have ez : wrap64 ((z : Nat) : Int) = ((z : Nat) : Int) := IntWalk.wrap64_in _ ⟨by omega, by omega⟩
  have hzj : z * 2 ^ j ≤ 1 * 2 ^ 24 := Nat.mul_le_mul (by omega) hp
  have ew : wrap64 ((z * 2 ^ j : Nat) : Int) = ((z * 2 ^ j : Nat) : Int) := IntWalk.wrap64_in _ ⟨by omega, by omega⟩
  rw [ez, int_pow, ew]
  exact i64_join _ _ j (by omega) hy (Nat.mul_mod_left z (2 ^ j)) (by omega)
theorem lay_bit (s : ByteArray) (p j : Nat) (hj : j < 24) (h : (p + j) / 8 < s.size) :
    Go.bits .or .i64 ((bitsAt (num s.data.toList) p j : Nat) : Int) (wrap64 (wrap64 (Go.bits .and .u8 (((s[(p + j) / 8]'h).toNat : Int) / 2 ^ ((p + j) % 8)) 1) * 2 ^ j)) = ((bitsAt (num s.data.toList) p (j + 1) : Nat) : Int) := by
  have hb := bit_of_byte s.data.toList (p + j) (by simpa using h)
  rw [← byte_at s _ h] at hb
  have hlt := (s[(p + j) / 8]'h).toNat_lt
  generalize (s[(p + j) / 8]'h).toNat = x at *
  have e1 : ((x : Int) / 2 ^ ((p + j) % 8)) = ((x / 2 ^ ((p + j) % 8) : Nat) : Int) := by simp
  have h1 : x / 2 ^ ((p + j) % 8) < 256 := Nat.lt_of_le_of_lt (Nat.div_le_self _ _) (by omega)
  have e2 := u8_and_nat (x / 2 ^ ((p + j) % 8)) 1 h1 (by decide)
  rw [nat_mask1, hb] at e2
  have hz := bitsAt_lt (num s.data.toList) (p + j) 1
  have hy := bitsAt_lt (num s.data.toList) p j
  rw [e1, bitsAt_succ]
  generalize bitsAt (num s.data.toList) (p + j) 1 = z at *
  generalize bitsAt (num s.data.toList) p j = y at *
  have e3 : Go.bits .and .u8 ((x / 2 ^ ((p + j) % 8) : Nat) : Int) 1 = (z : Int) := e2
  rw [e3]
  exact lay_bit' y z j hj hz hy

set_option maxHeartbeats 1000000 in
theorem FS.bits {w : World} {b p : Nat} {s : ByteArray} (h : FS w b s p) (hs : s.size ≤ 140737488355328) (n : Int) :
    Calls Tryz.prog 64 #[.pointer (some ⟨b, 0, none⟩), .int .i64 n] w fun e w' => e = .returned (.tuple #[.int .i64 (bitsVal s p n), .int .i64 (bitsErr s p n)]) ∧ FS w' b s (bitsGo s p n) ∧ But [b] w w' := by
  by_cases hn : n < 0 ∨ 24 < n
  · have he : bitsErr s p n = 1 := by unfold bitsErr; rw [if_pos hn]
    have hv : bitsVal s p n = 0 := by unfold bitsVal; rw [he]; rfl
    have hg : bitsGo s p n = p := by unfold bitsGo; rw [he]; rfl
    rw [he, hv, hg]
    clear he hv hg
    rcases hn with hn | hn
    · go_enter Tryz.func64, Tryz.ntmps64
      go_wp2
      go_ret2
      exact ⟨rfl, h, But.refl _ _⟩
    · have hn0 : ¬ n < 0 := by omega
      go_enter Tryz.func64, Tryz.ntmps64
      go_wp2
      go_ret2
      exact ⟨rfl, h, But.refl _ _⟩
  · obtain ⟨m, rfl⟩ := Int.eq_ofNat_of_zero_le (show 0 ≤ n by omega)
    have hm : m ≤ 24 := by omega
    have hp := h.1
    by_cases hl : 8 * s.size - p < m
    · have he : bitsErr s p (m : Int) = 3 := by unfold bitsErr; rw [if_neg hn, if_pos (by omega)]
      have hv : bitsVal s p (m : Int) = 0 := by unfold bitsVal; rw [he]; rfl
      have hg : bitsGo s p (m : Int) = p := by unfold bitsGo; rw [he]; rfl
      rw [he, hv, hg]
      clear he hv hg hn
      go_enter Tryz.func64, Tryz.ntmps64
      go_wp2_with (go_at_call 93; refine (h.left hs).mono ?_; rintro e w' ⟨rfl, nq, rfl⟩)
      go_ret2
      exact ⟨rfl, h.but ((But.refl [] w).drewN nq) (by simp), (But.refl _ w).drewN nq⟩
    · have he : bitsErr s p (m : Int) = 0 := by unfold bitsErr; rw [if_neg hn, if_neg (by omega)]
      have hv : bitsVal s p (m : Int) = bitsAt (num s.data.toList) p m := by unfold bitsVal; rw [if_pos he]; rfl
      have hg : bitsGo s p (m : Int) = p + m := by unfold bitsGo; rw [if_pos he]; rfl
      rw [he, hv, hg]
      clear he hv hg hn
      have hi := h.2
      have h0 : w.cell? ⟨b, 0, none⟩ = some (.string s) := hi.cell 0
      have h1 : w.cell? ⟨b, 1, none⟩ = some (.int .i64 p) := hi.cell 1
      have h2 : w.frozen? ⟨b, 1, none⟩ = false := hi.free 1
      have d1 : decide ((m : Int) < 0) = false := by simp
      have d2 : decide ((24 : Int) < (m : Int)) = false := by simp; omega
      go_enter Tryz.func64, Tryz.ntmps64
      go_wp2_with (go_at_call 93; refine (h.left hs).mono ?_; rintro e w' ⟨rfl, nq, rfl⟩)
      go_loopw [6, 7] (fun v i wr => ∃ j k : Nat, j ≤ m ∧ i = .int .i64 j ∧ v = .int .i64 (bitsAt (num s.data.toList) p j) ∧ wr = w.drewN k) (fun _ i _ => m - (intOf i).toNat)
      case atStart => exact ⟨0, nq, Nat.zero_le _, rfl, by rw [bitsAt_zero]; rfl, rfl⟩
      case round =>
        obtain ⟨j, k, hj, rfl, rfl, rfl⟩ := hrel
        by_cases hlt : j < m
        · have hx : ((p : Int) + (j : Int)) / 8 < (s.size : Int) := by omega
          have hx0 : 0 ≤ ((p : Int) + (j : Int)) / 8 := by omega
          go_wp2
          go_quiet (fail)
          go_wp2
          go_roundw
          case rel => exact ⟨j + 1, k + nq, by omega, by go_num, by rw [lay_bit s p j (by omega) (by omega)], rfl⟩
          case measure => simp [intOf]; omega
        · obtain rfl : j = m := by omega
          go_wp2
          go_ret2
          refine ⟨rfl, ⟨by omega, ?_⟩, ((But.refl _ w).drewN k).setCell (p := ⟨b, 1, none⟩) (.inl (by simp)) _⟩
          have := (hi.drewN k).put 1 (.int .i64 ((p + j : Nat) : Int))
          simpa using this
end Go.Proofs.YtghegmbafbpnjaaGreatDoor
namespace Go.Proofs.YtghegmbafbpnjaaGreatDoor
set_option maxRecDepth 100000
open Go Go.RowKit
/-- What a reader's Bytes does: the bytes and the error, and where it stands then. -/
def bytesErr (s : ByteArray) (p : Nat) (n : Int) : Int := if n < 0 then 1 else if (s.size - (p + 7) / 8 : Nat) < n then 3 else 0
def bytesVal (s : ByteArray) (p : Nat) (n : Int) : ByteArray := if bytesErr s p n = 0 then ⟨((s.data.toList.drop ((p + 7) / 8)).take n.toNat).toArray⟩ else ⟨#[]⟩
def bytesGo (s : ByteArray) (p : Nat) (n : Int) : Nat := if n < 0 then p else if bytesErr s p n = 0 then 8 * ((p + 7) / 8 + n.toNat) else 8 * ((p + 7) / 8)

theorem extract_eq (s : ByteArray) (a m : Nat) : s.extract a (a + m) = ⟨((s.data.toList.drop a).take m).toArray⟩ := by
  have h : (s.extract a (a + m)).data.toList = (s.data.toList.drop a).take m := by
    rw [Lib.extract_data]; congr 1; omega
  rw [← h]

set_option maxHeartbeats 1000000 in
theorem FS.bytes {w : World} {b p : Nat} {s : ByteArray} (h : FS w b s p) (hs : s.size ≤ 140737488355328) (n : Int) (hn64 : n ≤ 9223372036854775807) :
    Calls Tryz.prog 94 #[.pointer (some ⟨b, 0, none⟩), .int .i64 n] w fun e w' => e = .returned (.tuple #[.string (bytesVal s p n), .int .i64 (bytesErr s p n)]) ∧ FS w' b s (bytesGo s p n) ∧ But [b] w w' := by
  by_cases hn : n < 0
  · have he : bytesErr s p n = 1 := by unfold bytesErr; rw [if_pos hn]
    have hv : bytesVal s p n = ⟨#[]⟩ := by unfold bytesVal; rw [he]; rfl
    have hg : bytesGo s p n = p := by unfold bytesGo; rw [if_pos hn]
    rw [he, hv, hg]
    clear he hv hg
    go_enter Tryz.func94, Tryz.ntmps94
    go_wp2
    go_ret2
    exact ⟨rfl, h, But.refl _ _⟩
  · obtain ⟨m, rfl⟩ := Int.eq_ofNat_of_zero_le (show 0 ≤ n by omega)
    have hp := h.1
    have hi := h.2
    have h0 : w.cell? ⟨b, 0, none⟩ = some (.string s) := hi.cell 0
    have h1 : w.cell? ⟨b, 1, none⟩ = some (.int .i64 p) := hi.cell 1
    have h2 : w.frozen? ⟨b, 1, none⟩ = false := hi.free 1
    have hF : FS (w.setCell ⟨b, 1, none⟩ (.int .i64 (((p : Int) + 7) / 8 * 8))) b s (8 * ((p + 7) / 8)) := by
      refine ⟨by omega, ?_⟩
      have := hi.put 1 (.int .i64 (((p : Int) + 7) / 8 * 8))
      have e : (((p : Int) + 7) / 8 * 8) = ((8 * ((p + 7) / 8) : Nat) : Int) := by omega
      rw [e] at this ⊢
      simpa using this
    have hB : But [b] w (w.setCell ⟨b, 1, none⟩ (.int .i64 (((p : Int) + 7) / 8 * 8))) := (But.refl _ w).setCell (.inl (by simp)) _
    have hF1 := hF.2.cell 1
    have hF0 := hF.2.cell 0
    by_cases hl : s.size - (p + 7) / 8 < m
    · have he : bytesErr s p (m : Int) = 3 := by unfold bytesErr; rw [if_neg hn, if_pos (by omega)]
      have hv : bytesVal s p (m : Int) = ⟨#[]⟩ := by unfold bytesVal; rw [he]; rfl
      have hg : bytesGo s p (m : Int) = 8 * ((p + 7) / 8) := by unfold bytesGo; rw [if_neg hn, he]; rfl
      rw [he, hv, hg]
      clear he hv hg hn
      go_enter Tryz.func94, Tryz.ntmps94
      go_wp2_with (go_at_call 93; refine (hF.left hs).mono ?_; rintro e w' ⟨rfl, nq, rfl⟩)
      go_ret2
      exact ⟨rfl, hF.but ((But.refl [] _).drewN nq) (by simp), hB.drewN nq⟩
    · have he : bytesErr s p (m : Int) = 0 := by unfold bytesErr; rw [if_neg hn, if_neg (by omega)]
      have hv : bytesVal s p (m : Int) = s.extract ((p + 7) / 8) ((p + 7) / 8 + m) := by unfold bytesVal; rw [if_pos he, extract_eq]; rfl
      have hg : bytesGo s p (m : Int) = 8 * ((p + 7) / 8 + m) := by unfold bytesGo; rw [if_neg hn, if_pos he]; rfl
      rw [he, hv, hg]
      clear he hv hg hn
      go_enter Tryz.func94, Tryz.ntmps94
      go_wp2_with (go_at_call 93; refine (hF.left hs).mono ?_; rintro e w' ⟨rfl, nq, rfl⟩)
      go_quiet (fail)
      go_wp2
      go_ret2
      refine ⟨rfl, ⟨by omega, ?_⟩, (hB.drewN _).setCell (.inl (by simp)) _⟩
      have e : (8 * (((p : Int) + 7) / 8) + 8 * (m : Int)) = ((8 * ((p + 7) / 8 + m) : Nat) : Int) := by omega
      rw [e]
      have key : ∀ k, Is (((w.setCell ⟨b, 1, none⟩ (.int .i64 (((p : Int) + 7) / 8 * 8))).drewN k).setCell ⟨b, 1, none⟩ (.int .i64 ((8 * ((p + 7) / 8 + m) : Nat) : Int))) b 54 #[.string s, .int .i64 ((8 * ((p + 7) / 8 + m) : Nat) : Int)] := fun k => by
        simpa using (hF.2.drewN k).put 1 (.int .i64 ((8 * ((p + 7) / 8 + m) : Nat) : Int))
      exact key _

theorem lay_byte (l : List UInt8) (j : Nat) (hj : j ≤ 3) (h : j < l.length) :
    Go.bits .or .i64 ((num (l.take j) : Nat) : Int) (wrap64 (wrap64 (l[j].toNat : Int) * 2 ^ (8 * j))) = ((num (l.take (j + 1)) : Nat) : Int) := by
  have hlt := l[j].toNat_lt
  have hn := num_lt (l.take j)
  rw [List.length_take, Nat.min_eq_left (by omega)] at hn
  rw [List.take_succ_eq_append_getElem h, num_snoc, List.length_take, Nat.min_eq_left (by omega), p256]
  rw [p256] at hn
  generalize num (l.take j) = y at *
  generalize l[j].toNat = z at *
  have hp : 2 ^ (8 * j) ≤ 2 ^ 24 := Nat.pow_le_pow_right (by decide) (by omega)
  have ez : wrap64 ((z : Nat) : Int) = ((z : Nat) : Int) := IntWalk.wrap64_in _ ⟨by omega, by omega⟩
  have hzj : z * 2 ^ (8 * j) ≤ 255 * 2 ^ 24 := Nat.mul_le_mul (by omega) hp
  have ew : wrap64 ((z * 2 ^ (8 * j) : Nat) : Int) = ((z * 2 ^ (8 * j) : Nat) : Int) := IntWalk.wrap64_in _ ⟨by omega, by omega⟩
  rw [ez, int_pow, ew, Nat.mul_comm (2 ^ (8 * j)) z]
  exact i64_join _ _ (8 * j) (by omega) hn (Nat.mul_mod_left z _) (by omega)

theorem mask_word (m : Nat) (hm : m ≤ 24) : wrap64 (wrap64 (2 ^ m) - 1) = 2 ^ m - 1 := by
  have hp : 2 ^ m ≤ 2 ^ 24 := Nat.pow_le_pow_right (by decide) hm
  have hpos := Nat.two_pow_pos m
  have e : ((2 : Int) ^ m) = ((2 ^ m : Nat) : Int) := by simp
  rw [e]
  generalize 2 ^ m = q at *
  have h1 : wrap64 (q : Int) = (q : Int) := IntWalk.wrap64_in _ ⟨by omega, by omega⟩
  have h2 : wrap64 ((q : Int) - 1) = (q : Int) - 1 := IntWalk.wrap64_in _ ⟨by omega, by omega⟩
  rw [h1, h2]
theorem take_bits (s : ByteArray) (p m : Nat) (hm : m ≤ 24) :
    Go.bits .and .i64 (((num ((s.data.toList.drop (p / 8)).take ((p % 8 + m + 7) / 8)) : Nat) : Int) / 2 ^ (p % 8)) (wrap64 (wrap64 (2 ^ m) - 1)) = ((bitsAt (num s.data.toList) p m : Nat) : Int) := by
  rw [mask_word m hm, i64_mask _ m (by omega), ← bitsAt_left s.data.toList p m ((p % 8 + m + 7) / 8) (by omega)]
  unfold bitsAt
  simp
theorem rs_done {w : World} {b d p m n c nq : Nat} {s : ByteArray} {A : Option Addr} (hd : d ≠ b) (hi : Is w b 97 #[.slice A n c, .int .i64 (p % 8 : Nat)])
    (hr : ByteRow w A n (s.data.toList.drop (p / 8))) (ha : ∀ a, A = some a → a.block = d) (hnc : n ≤ c) (hk : (p % 8 + m) / 8 ≤ n) (hpm : p + m ≤ 8 * s.size)
    (c' : Nat) (hc' : n - (p % 8 + m) / 8 ≤ c') (A' : Option Addr) (hA : A' = if c = (p % 8 + m) / 8 then A else A.map (·.add ((p % 8 + m) / 8))) :
    RS (((w.drewN nq).setCell ⟨b, 0, none⟩ (.slice A' (n - (p % 8 + m) / 8) c')).setCell ⟨b, 1, none⟩ (.int .i64 (((p : Int) + (m : Int)) % 8))) b d s (p + m) := by
  have hrow := hr.cut hk hnc
  rw [List.drop_drop, show p / 8 + (p % 8 + m) / 8 = (p + m) / 8 from by omega, ← hA] at hrow
  have hblk : ∀ a, A' = some a → a.block = d := by
    intro a e
    subst hA
    split at e
    · exact ha a e
    · rcases A with _ | a0
      · simp at e
      · simp only [Option.map_some, Option.some.injEq] at e
        subst e
        have := ha a0 rfl
        unfold Addr.add
        split <;> exact this
  clear hA
  have e8 : (((p : Int) + (m : Int)) % 8) = (((p + m) % 8 : Nat) : Int) := by omega
  rw [e8]
  generalize hL : n - (p % 8 + m) / 8 = n' at *
  have hB1 : But [b] w ((w.drewN nq).setCell ⟨b, 0, none⟩ (.slice A' n' c')) := But.setCell ((But.refl [b] w).drewN nq) (.inl (by simp)) _
  have hB : But [b] w (((w.drewN nq).setCell ⟨b, 0, none⟩ (.slice A' n' c')).setCell ⟨b, 1, none⟩ (.int .i64 (((p + m) % 8 : Nat) : Int))) := hB1.setCell (.inl (by simp)) _
  have hI : Is (((w.drewN nq).setCell ⟨b, 0, none⟩ (.slice A' n' c')).setCell ⟨b, 1, none⟩ (.int .i64 (((p + m) % 8 : Nat) : Int))) b 97 #[.slice A' n' c', .int .i64 (((p + m) % 8 : Nat) : Int)] := by
    simpa using ((hi.drewN nq).put 0 (.slice A' n' c')).put 1 (.int .i64 (((p + m) % 8 : Nat) : Int))
  exact ⟨hpm, hd, A', n', c', hI, by omega, hrow.but hB (fun k hk a e => by rw [hblk a e]; simp at hk; omega), hblk⟩

set_option maxHeartbeats 1000000 in
theorem RS.bits_w {w : World} {b d p : Nat} {s : ByteArray} (h : RS w b d s p) (hs : s.size ≤ 140737489403904) (n : Int) :
    Calls Tryz.prog 87 #[.pointer (some ⟨b, 0, none⟩), .int .i64 n] w fun e w' => e = .returned (.tuple #[.int .i64 (bitsVal s p n), .int .i64 (bitsErr s p n)]) ∧ RS w' b d s (bitsGo s p n) ∧ But [b] w w' := by
  by_cases hn : n < 0 ∨ 24 < n
  · have he : bitsErr s p n = 1 := by unfold bitsErr; rw [if_pos hn]
    have hv : bitsVal s p n = 0 := by unfold bitsVal; rw [he]; rfl
    have hg : bitsGo s p n = p := by unfold bitsGo; rw [he]; rfl
    rw [he, hv, hg]
    clear he hv hg
    rcases hn with hn | hn
    · go_enter Tryz.func87, Tryz.ntmps87
      go_wp2
      go_ret2
      exact ⟨rfl, h, But.refl _ _⟩
    · have hn0 : ¬ n < 0 := by omega
      go_enter Tryz.func87, Tryz.ntmps87
      go_wp2
      go_ret2
      exact ⟨rfl, h, But.refl _ _⟩
  · obtain ⟨m, rfl⟩ := Int.eq_ofNat_of_zero_le (show 0 ≤ n by omega)
    have hm : m ≤ 24 := by omega
    have hp := h.1
    by_cases hl : 8 * s.size - p < m
    · have he : bitsErr s p (m : Int) = 3 := by unfold bitsErr; rw [if_neg hn, if_pos (by omega)]
      have hv : bitsVal s p (m : Int) = 0 := by unfold bitsVal; rw [he]; rfl
      have hg : bitsGo s p (m : Int) = p := by unfold bitsGo; rw [he]; rfl
      rw [he, hv, hg]
      clear he hv hg hn
      go_enter Tryz.func87, Tryz.ntmps87
      go_wp2_with (go_at_call 30; refine (h.left_w hs).mono ?_; rintro e w' ⟨rfl, nq, rfl⟩)
      go_ret2
      exact ⟨rfl, h.but ((But.refl [] w).drewN nq) (by simp) (by simp), (But.refl _ w).drewN nq⟩
    · have he : bitsErr s p (m : Int) = 0 := by unfold bitsErr; rw [if_neg hn, if_neg (by omega)]
      have hv : bitsVal s p (m : Int) = bitsAt (num s.data.toList) p m := by unfold bitsVal; rw [if_pos he]; rfl
      have hg : bitsGo s p (m : Int) = p + m := by unfold bitsGo; rw [if_pos he]; rfl
      rw [he, hv, hg]
      clear he hv hg hn
      have hl0 := h.left_w hs
      obtain ⟨_, hd, A, n, c, hi, hnc, hr, ha⟩ := h
      have h0 : w.cell? ⟨b, 0, none⟩ = some (.slice A n c) := hi.cell 0
      have h1 : w.cell? ⟨b, 1, none⟩ = some (.int .i64 (p % 8 : Nat)) := hi.cell 1
      have h2 : w.frozen? ⟨b, 0, none⟩ = false := hi.free 0
      have h3 : w.frozen? ⟨b, 1, none⟩ = false := hi.free 1
      have d1 : decide ((m : Int) < 0) = false := by simp
      have d2 : decide ((24 : Int) < (m : Int)) = false := by simp; omega
      have hlen := hr.1
      rw [List.length_drop, Array.length_toList] at hlen
      have hz : s.data.size = s.size := rfl
      rw [hz] at hlen
      have hnle : n ≤ 140737489403904 := by omega
      have HL := Lib.hid hlen
      clear hlen hz
      go_enter Tryz.func87, Tryz.ntmps87
      go_wp2_with (go_at_call 30; refine hl0.mono ?_; rintro e w' ⟨rfl, nq, rfl⟩)
      go_loop [6, 8, 33] (fun v _ i => ∃ j : Nat, j ≤ (p % 8 + m + 7) / 8 ∧ i = .int .i64 j ∧ v = .int .i64 (num ((s.data.toList.drop (p / 8)).take j))) (fun _ _ i => (p % 8 + m + 7) / 8 - (intOf i).toNat)
      case atStart => exact ⟨0, Nat.zero_le _, rfl, rfl⟩
      case round =>
        obtain ⟨j, hj, rfl, rfl⟩ := hrel
        by_cases hlt : j < (p % 8 + m + 7) / 8
        · have hjn : j < n := by have := HL.out; omega
          have hln : j < (s.data.toList.drop (p / 8)).length := by have := hr.1; omega
          obtain ⟨g, o, rfl, hcell⟩ := hr.at hjn
          have hly := lay_byte (s.data.toList.drop (p / 8)) j (by omega) hln
          have hj3 : j ≤ 3 := by omega
          generalize (s.data.toList.drop (p / 8))[j] = x at *
          go_wp2
          go_round
          case rel => exact ⟨j + 1, by omega, by go_num, rfl⟩
          case measure => simp [intOf]; omega
        · obtain rfl : j = (p % 8 + m + 7) / 8 := by omega
          have hcut : ((p : Int) % 8 + (m : Int)) / 8 ≤ (n : Int) := by have := HL.out; omega
          have hcut0 : 0 ≤ ((p : Int) % 8 + (m : Int)) / 8 := by omega
          have HT := Lib.hid (take_bits s p m hm)
          go_wp2
          go_quiet (fail)
          go_wp2
          · have hc : c = (p % 8 + m) / 8 := by assumption
            go_ret2
            exact ⟨by rw [HT.out] <;> rfl, rs_done (m := m) hd hi hr ha hnc (by omega) (by omega) _ (by omega) _ (by rw [if_pos hc]), ((((But.refl _ w).drewN _).setCell (.inl (by simp)) _).setCell (.inl (by simp)) _)⟩
          · have hc : ¬ c = (p % 8 + m) / 8 := by assumption
            go_ret2
            exact ⟨by rw [HT.out] <;> rfl, rs_done (m := m) hd hi hr ha hnc (by omega) (by omega) _ (by omega) _ (by rw [if_neg hc]), ((((But.refl _ w).drewN _).setCell (.inl (by simp)) _).setCell (.inl (by simp)) _)⟩
theorem RS.bits {w : World} {b d p : Nat} {s : ByteArray} (h : RS w b d s p) (hs : s.size ≤ 140737488355328) (n : Int) :
    Calls Tryz.prog 87 #[.pointer (some ⟨b, 0, none⟩), .int .i64 n] w fun e w' => e = .returned (.tuple #[.int .i64 (bitsVal s p n), .int .i64 (bitsErr s p n)]) ∧ RS w' b d s (bitsGo s p n) ∧ But [b] w w' := h.bits_w (by omega) n
end Go.Proofs.YtghegmbafbpnjaaGreatDoor
namespace Go.Proofs.YtghegmbafbpnjaaGreatDoor
set_option maxRecDepth 100000
open Go Go.RowKit
theorem ByteRow.take {w : World} {A : Option Addr} {n : Nat} {l : List UInt8} (h : ByteRow w A n l) {m : Nat} (hm : m ≤ n) : ByteRow w A m (l.take m) := by
  have hl := h.1
  refine ⟨by rw [List.length_take]; omega, fun hp => ?_⟩
  obtain ⟨g, o, e, hc⟩ := h.2 (by omega)
  refine ⟨g, o, e, fun i hi => ?_⟩
  rw [List.length_take] at hi
  rw [List.getElem_take]
  exact hc i (by omega)
theorem ByteRow.text {w : World} {A : Option Addr} {n c : Nat} {l : List UInt8} (h : ByteRow w A n l) :
    (convert 40 9 (.slice A n c)).run Tryz.prog w = .ok (.string ⟨l.toArray⟩) w := by
  obtain ⟨rfl, hc⟩ := h
  rcases A with _ | a
  · have h0 : l = [] := by
      cases l with
      | nil => rfl
      | cons x l => obtain ⟨g, o, e, _⟩ := hc (by simp); cases e
    subst h0
    exact run_convert_bytes_nil w 40 5 Tryz.underlying40 Tryz.underlying5 _ _ 9 Tryz.underlying9
  · refine run_convert_bytes_back w 40 9 5 a c l Tryz.underlying40 Tryz.underlying5 Tryz.underlying9 (fun j hj => ?_)
    obtain ⟨g, o, e, hcell⟩ := hc (by omega)
    obtain rfl : a = ⟨g, o, none⟩ := by injection e
    have e2 : (⟨g, o, none⟩ : Addr).add j = ⟨g, o + j, none⟩ := by unfold Addr.add; split <;> simp_all
    rw [e2]
    exact hcell j hj

theorem rs_adv {w w' : World} {b d p k n c : Nat} {s : ByteArray} {A : Option Addr} (hd : d ≠ b)
    (hr : ByteRow w A n (s.data.toList.drop (p / 8))) (ha : ∀ a, A = some a → a.block = d) (hnc : n ≤ c) (hk : k ≤ n) (q : Nat) (hq : q / 8 = p / 8 + k) (hqs : q ≤ 8 * s.size)
    (c' : Nat) (hc' : n - k ≤ c') (A' : Option Addr) (hA : A' = if c = k then A else A.map (·.add k))
    (hI : Is w' b 97 #[.slice A' (n - k) c', .int .i64 (q % 8 : Nat)]) (hB : But [b] w w') : RS w' b d s q := by
  have hrow := hr.cut hk hnc
  rw [List.drop_drop, ← hq, ← hA] at hrow
  have hblk : ∀ a, A' = some a → a.block = d := by
    intro a e
    subst hA
    split at e
    · exact ha a e
    · rcases A with _ | a0
      · simp at e
      · simp only [Option.map_some, Option.some.injEq] at e
        subst e
        have := ha a0 rfl
        unfold Addr.add
        split <;> exact this
  exact ⟨hqs, hd, A', n - k, c', hI, hc', hrow.but hB (fun k hk a e => by rw [hblk a e]; simp at hk; omega), hblk⟩

set_option maxHeartbeats 1000000 in
set_option maxRecDepth 100000 in
theorem RS.bytes_w {w : World} {b d p : Nat} {s : ByteArray} (h : RS w b d s p) (hs : s.size ≤ 140737489403904) (n : Int) :
    Calls Tryz.prog 108 #[.pointer (some ⟨b, 0, none⟩), .int .i64 n] w fun e w' => e = .returned (.tuple #[.string (bytesVal s p n), .int .i64 (bytesErr s p n)]) ∧ RS w' b d s (bytesGo s p n) ∧ But [b] w w' := by
  by_cases hn : n < 0
  · have he : bytesErr s p n = 1 := by unfold bytesErr; rw [if_pos hn]
    have hv : bytesVal s p n = ⟨#[]⟩ := by unfold bytesVal; rw [he]; rfl
    have hg : bytesGo s p n = p := by unfold bytesGo; rw [if_pos hn]
    rw [he, hv, hg]
    clear he hv hg
    go_enter Tryz.func108, Tryz.ntmps108
    go_wp2
    go_ret2
    exact ⟨rfl, h, But.refl _ _⟩
  · obtain ⟨m, rfl⟩ := Int.eq_ofNat_of_zero_le (show 0 ≤ n by omega)
    have hp := h.1
    have h' := h
    obtain ⟨_, hd, A, n, c, hi, hnc, hr, ha⟩ := h'
    have h0 : w.cell? ⟨b, 0, none⟩ = some (.slice A n c) := hi.cell 0
    have h1 : w.cell? ⟨b, 1, none⟩ = some (.int .i64 (p % 8 : Nat)) := hi.cell 1
    have h2 : w.frozen? ⟨b, 0, none⟩ = false := hi.free 0
    have h3 : w.frozen? ⟨b, 1, none⟩ = false := hi.free 1
    have hlen := hr.1
    rw [List.length_drop, Array.length_toList] at hlen
    have hz : s.data.size = s.size := rfl
    rw [hz] at hlen
    have hnle : n ≤ 140737489403904 := by omega
    have hpos : 0 < p % 8 → (1 : Int) ≤ (n : Int) := by omega
    have HL := Lib.hid hlen
    clear hlen hz
    go_enter Tryz.func108, Tryz.ntmps108
    go_upto_if 17 with (fail)
    go_cut [] (fun w1 => RS w1 b d s (8 * ((p + 7) / 8)) ∧ But [b] w w1)
    case first =>
      by_cases hu : 0 < p % 8
      · have hpos1 := hpos hu
        clear hpos
        go_wp2
        · have hc : c = 1 := by assumption
          go_meet
          refine ⟨?_, ?_⟩
          · refine rs_adv (k := 1) hd hr ha hnc (by omega) _ (by omega) (by omega) 0 (by omega) A (by rw [if_pos hc]) ?_ ?_
            · simpa using (hi.put 0 (.slice A (n - 1) 0)).put 1 (.int .i64 0)
            · exact ((But.refl [b] w).setCell (.inl (by simp)) _).setCell (.inl (by simp)) _
          · exact ((But.refl [b] w).setCell (.inl (by simp)) _).setCell (.inl (by simp)) _
        · have hc : ¬ c = 1 := by assumption
          go_meet
          refine ⟨?_, ?_⟩
          · refine rs_adv (k := 1) hd hr ha hnc (by omega) _ (by omega) (by omega) (c - 1) (by omega) (A.map fun x => ⟨x.block, x.off + 1, none⟩) (by rw [if_neg hc]; rfl) ?_ ?_
            · simpa using (hi.put 0 (.slice (A.map fun x => ⟨x.block, x.off + 1, none⟩) (n - 1) (c - 1))).put 1 (.int .i64 0)
            · exact ((But.refl [b] w).setCell (.inl (by simp)) _).setCell (.inl (by simp)) _
          · exact ((But.refl [b] w).setCell (.inl (by simp)) _).setCell (.inl (by simp)) _
      · clear hpos
        go_wp2
        go_meet
        refine ⟨?_, But.refl _ _⟩
        rw [show 8 * ((p + 7) / 8) = p from by omega]
        exact h
    case rest =>
      obtain ⟨hR, hB⟩ := hcut
      clear h0 h1 h2 h3 hpos hi hr ha HL h hnle hnc hd
      obtain ⟨hq, hd, A, n, c, hi, hnc, hr, ha⟩ := hR
      have h0 : wc.cell? ⟨b, 0, none⟩ = some (.slice A n c) := hi.cell 0
      have h2 : wc.frozen? ⟨b, 0, none⟩ = false := hi.free 0
      have hlen := hr.1
      rw [List.length_drop, Array.length_toList] at hlen
      have hz : s.data.size = s.size := rfl
      rw [hz] at hlen
      have hnle : n ≤ 140737489403904 := by omega
      have HL := Lib.hid hlen
      clear hlen hz
      by_cases hl : n < m
      · have he : bytesErr s p (m : Int) = 3 := by unfold bytesErr; rw [if_neg hn, if_pos (by have := HL.out; omega)]
        have hv : bytesVal s p (m : Int) = ⟨#[]⟩ := by unfold bytesVal; rw [he]; rfl
        have hg : bytesGo s p (m : Int) = 8 * ((p + 7) / 8) := by unfold bytesGo; rw [if_neg hn, he]; rfl
        have HE := Lib.hid he
        have HV := Lib.hid hv
        have HG := Lib.hid hg
        clear he hv hg hn
        go_wp2
        go_ret2
        rw [HE.out, HV.out, HG.out]
        exact ⟨rfl, ⟨hq, hd, A, n, c, hi, hnc, hr, ha⟩, hB⟩
      · have he : bytesErr s p (m : Int) = 0 := by unfold bytesErr; rw [if_neg hn, if_neg (by have := HL.out; omega)]
        have hv : bytesVal s p (m : Int) = ⟨((s.data.toList.drop ((p + 7) / 8)).take m).toArray⟩ := by unfold bytesVal; rw [if_pos he]; rfl
        have hg : bytesGo s p (m : Int) = 8 * ((p + 7) / 8 + m) := by unfold bytesGo; rw [if_neg hn, if_pos he]; rfl
        have HE := Lib.hid he
        have HV := Lib.hid hv
        have HG := Lib.hid hg
        clear he hv hg hn
        have e8 : 8 * ((p + 7) / 8) / 8 = (p + 7) / 8 := by omega
        rw [e8] at hr
        have hcv := (hr.take (m := m) (by omega)).text (c := c)
        clear e8
        have hput : ∀ (A' : Option Addr) (c' : Nat), Is (wc.setCell ⟨b, 0, none⟩ (.slice A' (n - m) c')) b 97 #[.slice A' (n - m) c', .int .i64 (8 * ((p + 7) / 8 + m) % 8 : Nat)] := fun A' c' => by
          have e0 : 8 * ((p + 7) / 8 + m) % 8 = 8 * ((p + 7) / 8) % 8 := by omega
          rw [e0]
          simpa using hi.put 0 (.slice A' (n - m) c')
        have hbut : ∀ v : Value, But [b] wc (wc.setCell ⟨b, 0, none⟩ v) := fun v => (But.refl [b] wc).setCell (.inl (by simp)) _
        have HP := Lib.hid hput
        have HQ := Lib.hid hbut
        clear hput hbut
        have hr' : ByteRow wc A n (s.data.toList.drop (8 * ((p + 7) / 8) / 8)) := by rw [show 8 * ((p + 7) / 8) / 8 = (p + 7) / 8 from by omega]; exact hr
        go_wp2
        · have hc : c = m := by assumption
          go_ret2
          rw [HE.out, HV.out, HG.out]
          exact ⟨rfl, rs_adv (k := m) hd hr' ha hnc (by omega) _ (by omega) (by have := HL.out; omega) 0 (by omega) A (by rw [if_pos hc]) (HP.out _ _) (HQ.out _), hB.trans (HQ.out _)⟩
        · have hc : ¬ c = m := by assumption
          go_ret2
          rw [HE.out, HV.out, HG.out]
          exact ⟨rfl, rs_adv (k := m) hd hr' ha hnc (by omega) _ (by omega) (by have := HL.out; omega) (c - m) (by omega) _ (by rw [if_neg hc]) (HP.out _ _) (HQ.out _), hB.trans (HQ.out _)⟩
theorem RS.bytes {w : World} {b d p : Nat} {s : ByteArray} (h : RS w b d s p) (hs : s.size ≤ 140737488355328) (n : Int) :
    Calls Tryz.prog 108 #[.pointer (some ⟨b, 0, none⟩), .int .i64 n] w fun e w' => e = .returned (.tuple #[.string (bytesVal s p n), .int .i64 (bytesErr s p n)]) ∧ RS w' b d s (bytesGo s p n) ∧ But [b] w w' := h.bytes_w (by omega) n
end Go.Proofs.YtghegmbafbpnjaaGreatDoor
