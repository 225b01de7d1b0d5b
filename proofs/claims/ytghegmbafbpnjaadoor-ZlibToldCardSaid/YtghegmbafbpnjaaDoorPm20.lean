/- Several texts in one: Four, Stream, LaidM, InfM, InfT, InfU, LzM, DefM, DefN, DefO (what Back, Told reach of them). -/
import Derived.Test.YtghegmbafbpnjaaDoorPm01
import Derived.Test.YtghegmbafbpnjaaDoorPm02
import Derived.Test.YtghegmbafbpnjaaDoorPm03
import Derived.Test.YtghegmbafbpnjaaDoorPm06
import Derived.Test.YtghegmbafbpnjaaDoorPm07
import Derived.Test.YtghegmbafbpnjaaDoorPm08
import Derived.Below
import Derived.BigQuiet
import Derived.BigRegion
import Derived.Deep.AppendLies
import Derived.Deep.CutRange
import Derived.Deep.DeepCutAuto
import Derived.Deep.Draws
import Derived.Deep.QuietTactic
import Derived.Deep.RegionLaw
import Derived.Deep.RegionWith
import Derived.Deep.Slices
import Derived.Laws.BitsAllLaws
import Derived.Laws.BitsLemmas
import Derived.Laws.IdiomStrings
import Derived.Laws.OwnMore
import Derived.Laws.Rows
import Derived.Lib.AppendStr
import Derived.Lib.Hide
import Derived.Lib.Strings
import Derived.LoopIn
import Derived.LoopNIn
import Derived.OneCell
import Derived.OpenShut
import Derived.Outline
import Derived.OwnWalk
import Derived.OwnWalkIn
import Derived.ProofKit
import Derived.RangeFuncBound
import Derived.RangeFuncCalls
import Derived.RangeFuncLeaves
import Derived.RangeFuncNested
import Derived.RegionTactic
import Derived.Shelf.Abstract
import Derived.Shelf.RegionOpen
import Derived.Shelf.SlSortCmp.QuietGrown
import Derived.StillTailTactics
import Derived.TacticsInMore
import Derived.Test.YtghegmbafbpnjaaDoorChecked
import Derived.WalkKit
import Derived.WalkLawsBesides
import Derived.WalkSpells
set_option maxRecDepth 100000
set_option linter.unusedVariables false
set_option linter.unusedVariables false
namespace Go.Proofs.YtghegmbafbpnjaaDoor
set_option maxRecDepth 100000
open Go
theorem strL_of (s : ByteArray) : strL s.data.toList = s := by unfold strL; apply ByteArray.ext; simp
theorem strL_append (a b : List UInt8) : strL (a ++ b) = strL a ++ strL b := by
  unfold strL
  apply ByteArray.ext
  simp
end Go.Proofs.YtghegmbafbpnjaaDoor
namespace Go.Proofs.YtghegmbafbpnjaaDoor
set_option maxRecDepth 100000
theorem num_bytesOf (k x : Nat) : num (bytesOf k x) = x % 256 ^ k := by
  induction k generalizing x with
  | zero => simp [bytesOf, num, Nat.mod_one]
  | succ k ih =>
    have h : (UInt8.ofNat x).toNat = x % 256 := UInt8.toNat_ofNat'
    rw [bytesOf, num, ih, h, Nat.pow_succ, Nat.mul_comm (256 ^ k) 256, Nat.mod_mul (a := 256)]
end Go.Proofs.YtghegmbafbpnjaaDoor
namespace Go.Proofs.YtghegmbafbpnjaaDoor
set_option maxRecDepth 100000
theorem bit_nat (c i : Nat) : (((c : Nat) : Int) / 2 ^ i % 2 ^ (1 : Int).toNat).toNat = c / 2 ^ i % 2 := by
  have e : ((2 : Int) ^ i) = ((2 ^ i : Nat) : Int) := by simp
  rw [e]
  generalize 2 ^ i = q
  have : (1 : Int).toNat = 1 := rfl
  rw [this]
  omega
theorem layG_succ (c i X N : Nat) : layG c (i + 1) X N = layG c i (X + (c / 2 ^ i % 2) * 2 ^ N) (N + 1) := by
  rw [layG, layN_one]
  unfold layX
  rw [if_neg (by omega), bit_nat]
theorem layG_spec (c : Nat) : ∀ n X N, X < 2 ^ N → (layG c n X N).1 < 2 ^ (N + n) ∧ (layG c n X N).1 % 2 ^ N = X ∧ ∀ i, i < n → bitsAt (layG c n X N).1 (N + i) 1 = c / 2 ^ (n - 1 - i) % 2
  | 0, X, N, h => ⟨h, Nat.mod_eq_of_lt h, fun i hi => absurd hi (Nat.not_lt_zero _)⟩
  | n + 1, X, N, h => by
    rw [layG_succ]
    have hb : c / 2 ^ n % 2 < 2 := Nat.mod_lt _ (by decide)
    generalize hB : c / 2 ^ n % 2 = b at *
    have hX1 : X + b * 2 ^ N < 2 ^ (N + 1) := by
      rw [Nat.pow_succ]
      have := Nat.mul_le_mul_right (2 ^ N) (show b ≤ 1 by omega)
      omega
    obtain ⟨h1, h2, h3⟩ := layG_spec c n (X + b * 2 ^ N) (N + 1) hX1
    generalize (layG c n (X + b * 2 ^ N) (N + 1)).1 = r at *
    refine ⟨by rw [show N + (n + 1) = N + 1 + n from by omega]; exact h1, ?_, fun i hi => ?_⟩
    · have : r % 2 ^ N = r % 2 ^ (N + 1) % 2 ^ N := by rw [Nat.pow_succ, Nat.mod_mul_right_mod]
      rw [this, h2, Nat.add_mul_mod_self_right, Nat.mod_eq_of_lt h]
    · cases i with
      | zero =>
        rw [Nat.add_zero, ← bitsAt_mod r N 1 (N + 1) (Nat.le_refl _), h2]
        unfold bitsAt
        rw [Nat.add_mul_div_right _ _ (Nat.two_pow_pos N), Nat.div_eq_of_lt h, Nat.zero_add, show n + 1 - 1 - 0 = n from by omega, hB]
        omega
      | succ i =>
        rw [show N + (i + 1) = N + 1 + i from by omega, h3 i (by omega), show n + 1 - 1 - (i + 1) = n - 1 - i from by omega]

/-- A symbol that has a code, by its length and its place among those. -/
theorem has_in {l : List Int} (hc : chk l = 0) {s : Int} (h : has l s) : ∃ n j, ∃ hj : j < (inN l (n + 1)).length, n < 15 ∧ (inN l (n + 1))[j] = s.toNat ∧ l.getD s.toNat 0 = ((n + 1 : Nat) : Int) ∧ (codes l).getD s.toNat 0 = ((2 * gN l n + j : Nat) : Int) := by
  have hok := chk_okay hc
  obtain ⟨h0, h1, h2⟩ : 0 ≤ s ∧ s < l.length ∧ l.getD s.toNat 0 ≠ 0 := h
  have hl : s.toNat < l.length := by omega
  have hx := hok _ (List.getElem_mem hl)
  rw [← getD_get hl] at hx
  obtain ⟨n, hn⟩ : ∃ n : Nat, l.getD s.toNat 0 = ((n + 1 : Nat) : Int) := ⟨(l.getD s.toNat 0).toNat - 1, by omega⟩
  obtain ⟨j, hj, e⟩ := List.getElem_of_mem (show s.toNat ∈ inN l (n + 1) from mem_inLen.2 ⟨hl, hn⟩)
  have hcode := code_in (l := l) (n := n) (j := j) (by omega) hj
  rw [e] at hcode
  exact ⟨n, j, hj, by omega, e, hn, hcode⟩
theorem gN_grow (l : List Int) (m : Nat) : ∀ k, m + k ≤ 15 → gN l m * 2 ^ k ≤ gN l (m + k)
  | 0, _ => by simp
  | k + 1, h => by
    have := gN_grow l m k (by omega)
    rw [← Nat.add_assoc, gN_succ l (m + k) (by omega), Nat.pow_succ, ← Nat.mul_assoc]; omega
theorem code_small {l : List Int} (hc : chk l = 0) {t n c : Nat} (ht : t < l.length) (hl : l.getD t 0 = ((n + 1 : Nat) : Int)) (hn : n < 15) (hcode : (codes l).getD t 0 = (c : Int)) : c < 2 ^ (n + 1) := by
  have hm : t ∈ ord l := mem_ordTo.2 ⟨ht, by omega, by omega⟩
  obtain ⟨p, r, h⟩ := List.append_of_mem hm
  have h1 := code_lt h (chk_zero hc).2.2.1
  have h2 := code_at h
  rw [hcode] at h2
  rw [hl] at h1 h2
  rw [Int.toNat_natCast] at h1 h2
  have : c = kp l p / 2 ^ (15 - (n + 1)) := by exact_mod_cast h2
  omega
theorem next_found {l : List Int} (hc : chk l = 0) {s : ByteArray} {t n j p : Nat} (hn : n < 15) (hj : j < (inN l (n + 1)).length) (ht : (inN l (n + 1))[j] = t)
    (hb : ∀ i, i < n + 1 → bitsErr s (p + i) 1 = 0 ∧ bitsVal s (p + i) 1 = (2 * gN l n + j) / 2 ^ (n - i) % 2) : nextS l s p = (t, 0, p + (n + 1)) := by
  have hlen := (inN_len (List.getElem_mem hj))
  rw [ht] at hlen
  have hcode := code_in (l := l) hn hj
  rw [ht] at hcode
  have hsm := code_small hc hlen.1 hlen.2 hn hcode
  have hlo : n + 1 ≤ longest l := by
    have h1 := was_top l t (mem_ordTo.2 ⟨hlen.1, by omega, by omega⟩)
    have h2 := top_longest hc
    omega
  have main : ∀ d i, i + d = n → nextG l s (longest l - i) (i + 1) ((2 * gN l n + j) / 2 ^ (n + 1 - i)) (p + i) = (t, 0, p + (n + 1)) := by
    intro d
    induction d with
    | zero =>
      intro i hi
      obtain rfl : i = n := by omega
      obtain ⟨h1, h2⟩ := hb i (by omega)
      rw [show longest l - i = (longest l - (i + 1)) + 1 from by omega, nextG_succ, if_neg (by simp [h1]), h2]
      have e : 2 * ((2 * gN l i + j) / 2 ^ (i + 1 - i)) + (2 * gN l i + j) / 2 ^ (i - i) % 2 = 2 * gN l i + j := by
        rw [Nat.sub_self, Nat.pow_zero, Nat.div_one, show i + 1 - i = 1 from by omega]; omega
      rw [e, findS_some hn hj]
      show ((inN l (i + 1))[j], (0 : Int), bitsGo s (p + i) 1) = _
      rw [ht]
      unfold bitsGo
      rw [if_pos h1]; rfl
    | succ d ih =>
      intro i hi
      obtain ⟨h1, h2⟩ := hb i (by omega)
      rw [show longest l - i = (longest l - (i + 1)) + 1 from by omega, nextG_succ, if_neg (by simp [h1]), h2]
      have e : 2 * ((2 * gN l n + j) / 2 ^ (n + 1 - i)) + (2 * gN l n + j) / 2 ^ (n - i) % 2 = (2 * gN l n + j) / 2 ^ (n + 1 - (i + 1)) := by
        rw [show n + 1 - i = (n - i) + 1 from by omega, show n + 1 - (i + 1) = n - i from by omega, Nat.pow_succ, ← Nat.div_div_eq_div_mul]; omega
      have hno : findS l (i + 1) ((2 * gN l n + j) / 2 ^ (n + 1 - (i + 1))) = none := by
        apply findS_none (by omega)
        right
        rw [Nat.le_div_iff_mul_le (Nat.two_pow_pos _)]
        have h3 := gN_grow l (i + 1) (n - (i + 1)) (by omega)
        rw [show i + 1 + (n - (i + 1)) = n from by omega] at h3
        rw [show n + 1 - (i + 1) = (n - (i + 1)) + 1 from by omega, Nat.pow_succ, ← Nat.mul_assoc]
        omega
      rw [e, hno]
      show nextG l s (longest l - (i + 1)) (i + 1 + 1) _ (bitsGo s (p + i) 1) = _
      have eg : bitsGo s (p + i) 1 = p + (i + 1) := by unfold bitsGo; rw [if_pos h1]; rfl
      rw [eg]
      exact ih (i + 1) (by omega)
  have h := main n 0 (by omega)
  rw [Nat.sub_zero, Nat.sub_zero, Nat.div_eq_of_lt hsm] at h
  exact h

theorem layS_spec {l : List Int} (hc : chk l = 0) {s : Int} {X N : Nat} (hX : X < 2 ^ N) : (layS l s X N).1 < 2 ^ (layS l s X N).2 ∧ (layS l s X N).1 % 2 ^ N = X ∧ N ≤ (layS l s X N).2 := by
  unfold layS
  by_cases h : has l s
  · rw [if_pos h]
    obtain ⟨n, j, hj, hn, _, hl, hcode⟩ := has_in hc h
    rw [hcode]
    have := layG_spec (2 * gN l n + j) (l.getD s.toNat 0).toNat X N hX
    have e := layG_len ((2 * gN l n + j : Nat) : Int) (l.getD s.toNat 0).toNat X N
    rw [e]
    exact ⟨this.1, this.2.1, by omega⟩
  · rw [if_neg h]; exact ⟨hX, Nat.mod_eq_of_lt hX, Nat.le_refl _⟩
theorem num_textOf (X N : Nat) (h : X < 2 ^ N) : num (textOf X N).data.toList = X := by
  have : (textOf X N).data.toList = bytesOf ((N + 7) / 8) X := rfl
  rw [this, num_bytesOf, p256]
  exact Nat.mod_eq_of_lt (Nat.lt_of_lt_of_le h (Nat.pow_le_pow_right (by decide) (by omega)))
end Go.Proofs.YtghegmbafbpnjaaDoor
namespace Go.Proofs.YtghegmbafbpnjaaDoor
set_option maxRecDepth 100000
section
variable {α β : Type}
end
theorem num_pre {s s' : ByteArray} (h : Pre s s') : ∃ k, num s'.data.toList = num s.data.toList + 256 ^ s.size * k := by
  obtain ⟨t, ht⟩ := h
  exact ⟨num t, by rw [← ht, num_append]; rfl⟩
theorem bits_pre {s s' : ByteArray} (h : Pre s s') {p : Nat} {n : Int} (he : bitsErr s p n ≠ 3) : bitsErr s' p n = bitsErr s p n ∧ bitsVal s' p n = bitsVal s p n ∧ bitsGo s' p n = bitsGo s p n := by
  have hs := h.size
  have he2 : bitsErr s' p n = bitsErr s p n := by
    unfold bitsErr at he ⊢
    by_cases h1 : n < 0 ∨ 24 < n
    · rw [if_pos h1, if_pos h1]
    · rw [if_neg h1] at he ⊢
      rw [if_neg h1]
      by_cases h2 : (8 * s.size - p : Nat) < n
      · rw [if_pos h2] at he; exact absurd rfl he
      · rw [if_neg h2, if_neg (by omega)]
  refine ⟨he2, ?_, by unfold bitsGo; rw [he2]⟩
  unfold bitsVal
  rw [he2]
  by_cases h0 : bitsErr s p n = 0
  · rw [if_pos h0, if_pos h0]
    by_cases hn0 : n.toNat = 0
    · rw [hn0, bitsAt_zero, bitsAt_zero]
    · have hb : p + n.toNat ≤ 8 * s.size := by
        unfold bitsErr at h0
        by_cases h1 : n < 0 ∨ 24 < n
        · rw [if_pos h1] at h0; omega
        · rw [if_neg h1] at h0
          by_cases h2 : (8 * s.size - p : Nat) < n
          · rw [if_pos h2] at h0; omega
          · omega
      obtain ⟨k, hk⟩ := num_pre h
      rw [hk, p256, ← bitsAt_mod _ p n.toNat _ hb, Nat.add_mul_mod_self_left, bitsAt_mod _ p n.toNat _ hb]
  · rw [if_neg h0, if_neg h0]
theorem bytes_pre {s s' : ByteArray} (h : Pre s s') {p : Nat} {n : Int} (he : bytesErr s p n ≠ 3) : bytesErr s' p n = bytesErr s p n ∧ bytesVal s' p n = bytesVal s p n ∧ bytesGo s' p n = bytesGo s p n := by
  have hs := h.size
  have he2 : bytesErr s' p n = bytesErr s p n := by
    unfold bytesErr at he ⊢
    by_cases h1 : n < 0
    · rw [if_pos h1, if_pos h1]
    · rw [if_neg h1] at he ⊢
      rw [if_neg h1]
      by_cases h2 : (s.size - (p + 7) / 8 : Nat) < n
      · rw [if_pos h2] at he; exact absurd rfl he
      · rw [if_neg h2, if_neg (by omega)]
  refine ⟨he2, ?_, by unfold bytesGo; rw [he2]⟩
  unfold bytesVal
  rw [he2]
  by_cases h0 : bytesErr s p n = 0
  · rw [if_pos h0, if_pos h0]
    have hb : n.toNat ≤ s.size - (p + 7) / 8 := by
      unfold bytesErr at h0
      by_cases h1 : n < 0
      · rw [if_pos h1] at h0; omega
      · rw [if_neg h1] at h0
        by_cases h2 : (s.size - (p + 7) / 8 : Nat) < n
        · rw [if_pos h2] at h0; omega
        · omega
    obtain ⟨t, ht⟩ := h
    have hz : s.data.toList.length = s.size := Array.length_toList
    congr 2
    rw [← ht]
    by_cases hp : (p + 7) / 8 ≤ s.size
    · rw [List.drop_append_of_le_length (by omega), List.take_append_of_le_length (by rw [List.length_drop]; omega)]
    · have : n.toNat = 0 := by omega
      rw [this, List.take_zero, List.take_zero]
  · rw [if_neg h0, if_neg h0]
end Go.Proofs.YtghegmbafbpnjaaDoor
set_option linter.unusedVariables false
namespace Go.Proofs.YtghegmbafbpnjaaDoor
set_option maxRecDepth 100000
section
variable {α β : Type} {m : Rd α} {f : α → Rd β} {s : ByteArray} {p q : Nat} {a : α} {e : Int}
end
section
variable {l d : List Int} {most : Int} {f p p1 t : Nat} {out : List UInt8} {s : ByteArray}
theorem sym_end (h : nextS l s p = (256, 0, p1)) : symG l d most (f + 1) out s p = .ok (out, p1) := bind_val (rNext_val h)
theorem sym_lit (h : nextS l s p = (t, 0, p1)) (ht : t < 256) (hm : ¬ most < (out.length : Int) + 1) : symG l d most (f + 1) out s p = symG l d most f (out ++ [UInt8.ofNat t]) s p1 := by
  refine (bind_val (rNext_val h)).trans ?_
  rw [if_neg (by omega), if_pos ht, when_not hm]
/-- A match: what follows its symbol. -/
def matchR (l d : List Int) (most : Int) (f : Nat) (out : List UInt8) (t : Nat) : Rd (List UInt8) :=
  rBind (rBits (lenBits t)) fun x => rBind (rNext d) fun u => rWhen (29 < u) 12 (rBind (rBits (dstBits u)) fun y =>
    rWhen (out.length < dstBase u + y) 15 (rWhen (most < (out.length : Int) + ((lenBase t + x : Nat) : Int)) 5 (symG l d most f (matchOut (dstBase u + y) (lenBase t + x) out))))
theorem sym_match (h : nextS l s p = (t, 0, p1)) (h1 : 256 < t) (h2 : t ≤ 285) : symG l d most (f + 1) out s p = matchR l d most f out t s p1 := by
  refine (bind_val (rNext_val h)).trans ?_
  rw [if_neg (by omega), if_neg (by omega), when_not (by omega)]; rfl
variable {u p2 p3 : Nat}
theorem match_goes (h0 : bitsErr s p1 (lenBits t) = 0) (h : nextS d s (bitsGo s p1 (lenBits t)) = (u, 0, p3)) (hu : ¬ 29 < u) (he : bitsErr s p3 (dstBits u) = 0) (hf : ¬ out.length < dstBase u + bitsVal s p3 (dstBits u))
    (hb : ¬ most < (out.length : Int) + ((lenBase t + bitsVal s p1 (lenBits t) : Nat) : Int)) :
    matchR l d most f out t s p1 = symG l d most f (matchOut (dstBase u + bitsVal s p3 (dstBits u)) (lenBase t + bitsVal s p1 (lenBits t)) out) s (bitsGo s p3 (dstBits u)) :=
  (bind_val (rBits_val h0)).trans ((bind_val (rNext_val h)).trans ((when_not hu).trans ((bind_val (rBits_val he)).trans ((when_not hf).trans (when_not hb)))))
end
theorem lenBits_le {t : Nat} (h1 : 256 < t) (h2 : t ≤ 285) : lenBits t ≤ 5 := by unfold lenBits; split <;> omega
theorem dstBits_le {u : Nat} (h : u ≤ 29) : dstBits u ≤ 13 := by unfold dstBits; split <;> omega
section
variable {small : List Int} {total f p p1 t : Nat} {acc : List Int} {s : ByteArray}
theorem len_one (h : acc.length < total) (hn : nextS small s p = (t, 0, p1)) (ht : t < 16) : lenG small total (f + 1) acc s p = lenG small total f (acc ++ [(t : Int)]) s p1 := by
  rw [len_open h, bind_val (rNext_val hn), if_pos ht]
/-- A repetition: of what, its least number, its bits. -/
def repR (small : List Int) (total f : Nat) (acc : List Int) (v : Int) (least bits : Nat) : Rd (List Int) := rBind (rBits bits) fun x => rWhen (total < acc.length + (least + x)) 12 (lenG small total f (acc ++ List.replicate (least + x) v))
theorem len_again (h : acc.length < total) (hn : nextS small s p = (16, 0, p1)) (h0 : acc.length ≠ 0) : lenG small total (f + 1) acc s p = repR small total f acc (acc.getD (acc.length - 1) 0) 3 2 s p1 := by
  rw [len_open h, bind_val (rNext_val hn), if_neg (by omega), if_pos rfl, when_not h0]; rfl
theorem len_zeros (h : acc.length < total) (hn : nextS small s p = (17, 0, p1)) : lenG small total (f + 1) acc s p = repR small total f acc 0 3 3 s p1 := by
  rw [len_open h, bind_val (rNext_val hn), if_neg (by omega), if_neg (by omega), if_pos rfl]; rfl
theorem len_many (h : acc.length < total) (hn : nextS small s p = (t, 0, p1)) (ht : 17 < t) : lenG small total (f + 1) acc s p = repR small total f acc 0 11 7 s p1 := by
  rw [len_open h, bind_val (rNext_val hn), if_neg (by omega), if_neg (by omega), if_neg (by omega)]; rfl
variable {v : Int} {least bits : Nat}
theorem rep_goes (he : bitsErr s p1 bits = 0) (h : ¬ total < acc.length + (least + bitsVal s p1 bits)) :
    repR small total f acc v least bits s p1 = lenG small total f (acc ++ List.replicate (least + bitsVal s p1 bits) v) s (bitsGo s p1 bits) := (bind_val (rBits_val he)).trans (when_not h)
end
end Go.Proofs.YtghegmbafbpnjaaDoor
set_option linter.unusedVariables false
namespace Go.Proofs.YtghegmbafbpnjaaDoor
set_option maxRecDepth 100000
section
variable {most : Int} {out : List UInt8} {s : ByteArray} {p F f : Nat}
theorem stored_goes (h1 : bytesErr s p (2 : Nat) = 0) (h2 : bytesErr s (bytesGo s p (2 : Nat)) (2 : Nat) = 0) (hw : ¬ wordOf (bytesVal s (bytesGo s p (2 : Nat)) (2 : Nat)) ≠ 65535 - wordOf (bytesVal s p (2 : Nat))) :
    storedR most out s p = storedK most out (wordOf (bytesVal s p (2 : Nat))) s (bytesGo s (bytesGo s p (2 : Nat)) (2 : Nat)) :=
  (bind_val (rBytes_val h1)).trans ((bind_val (rBytes_val h2)).trans (when_not hw))
variable {n : Nat}
def dyn1 (most : Int) (F : Nat) (out : List UInt8) (a : Nat) : Rd (List UInt8) := rBind (rBits 5) fun b => rBind (rBits 4) fun c => rBind (smallG (ordS.take (c + 4)) (List.replicate 19 0)) fun small =>
    rWhen (chk small ≠ 0) (chk small) (rBind (lenG small (a + 257 + (b + 1)) F []) fun ls => tablesR (ls.take (a + 257)) (ls.drop (a + 257)) (symG (ls.take (a + 257)) (ls.drop (a + 257)) most F out))
theorem dyn_goes1 (h : bitsErr s p (5 : Nat) = 0) : dynR most F out s p = dyn1 most F out (bitsVal s p (5 : Nat)) s (bitsGo s p (5 : Nat)) := bind_val (rBits_val h)
variable {a b c : Nat}
def dyn2 (most : Int) (F : Nat) (out : List UInt8) (a b : Nat) : Rd (List UInt8) := rBind (rBits 4) fun c => rBind (smallG (ordS.take (c + 4)) (List.replicate 19 0)) fun small =>
    rWhen (chk small ≠ 0) (chk small) (rBind (lenG small (a + 257 + (b + 1)) F []) fun ls => tablesR (ls.take (a + 257)) (ls.drop (a + 257)) (symG (ls.take (a + 257)) (ls.drop (a + 257)) most F out))
theorem dyn_goes2 (h : bitsErr s p (5 : Nat) = 0) : dyn1 most F out a s p = dyn2 most F out a (bitsVal s p (5 : Nat)) s (bitsGo s p (5 : Nat)) := bind_val (rBits_val h)
theorem dyn_goes3 (h : bitsErr s p (4 : Nat) = 0) : dyn2 most F out a b s p = rBind (smallG (ordS.take (bitsVal s p (4 : Nat) + 4)) (List.replicate 19 0)) (dyn3 most F out a b) s (bitsGo s p (4 : Nat)) := bind_val (rBits_val h)
variable {small ls : List Int} {k : Nat} {ks : List Nat} {q : Nat} {e : Int}
theorem small_goes (h : bitsErr s p (3 : Nat) = 0) : smallG (k :: ks) small s p = smallG ks (small.set k (bitsVal s p (3 : Nat) : Nat)) s (bitsGo s p (3 : Nat)) := bind_val (rBits_val h)
theorem dyn3_goes (h : chk small = 0) (he : lenG small (a + 257 + (b + 1)) F [] s p = .ok (ls, q)) : dyn3 most F out a b small s p = tablesR (ls.take (a + 257)) (ls.drop (a + 257)) (symG (ls.take (a + 257)) (ls.drop (a + 257)) most F out) s q :=
  (when_not (by simpa using h)).trans (bind_val he)

theorem blk_goes (h1 : bitsErr s p (1 : Nat) = 0) (h2 : bitsErr s (bitsGo s p (1 : Nat)) (2 : Nat) = 0) :
    blkG most F (f + 1) out s p = blkK most F f (bitsVal s p (1 : Nat)) (bitsVal s (bitsGo s p (1 : Nat)) (2 : Nat)) out s (bitsGo s (bitsGo s p (1 : Nat)) (2 : Nat)) := (bind_val (rBits_val h1)).trans (bind_val (rBits_val h2))
variable {last kind : Nat} {out' : List UInt8}
theorem blkK_last (h : blockR most F kind out s p = .ok (out', q)) (hl : last ≠ 0) : blkK most F f last kind out s p = .ok (out', q) := by
  refine (bind_val h).trans ?_
  rw [if_pos hl]; rfl
end
end Go.Proofs.YtghegmbafbpnjaaDoor
namespace Go.Proofs.YtghegmbafbpnjaaDoor
set_option maxRecDepth 100000
def lzCopy (far : Nat) : Nat → List UInt8 → List UInt8
  | 0, out => out
  | n + 1, out => lzCopy far n (out ++ [out.getD (out.length - far) 0])
theorem take_more {l : List UInt8} {i : Nat} (h : i < l.length) : l.take i ++ [l.getD i 0] = l.take (i + 1) := by
  rw [List.take_succ_eq_append_getElem h, List.getD_eq_getElem?_getD, List.getElem?_eq_getElem h]; rfl
theorem copy_take (l : List UInt8) (d : Nat) (hd : 1 ≤ d) : ∀ n i, d ≤ i → i + n ≤ l.length → (∀ k, k < n → l.getD (i + k) 0 = l.getD (i + k - d) 0) → lzCopy d n (l.take i) = l.take (i + n)
  | 0, i, _, _, _ => rfl
  | n + 1, i, h1, h2, h3 => by
    have hl : (l.take i).length = i := by simp; omega
    have e : (l.take i).getD ((l.take i).length - d) 0 = l.getD i 0 := by
      have h4 := h3 0 (by omega)
      rw [Nat.add_zero] at h4
      rw [hl, h4, List.getD_eq_getElem?_getD, List.getD_eq_getElem?_getD, List.getElem?_take_of_lt (by omega)]
    rw [lzCopy, e, take_more (by omega), copy_take l d hd n (i + 1) (by omega) (by omega) (fun k hk => by
      have := h3 (k + 1) (by omega)
      rw [show i + 1 + k = i + (k + 1) from by omega]; exact this)]
    congr 1; omega
end Go.Proofs.YtghegmbafbpnjaaDoor
set_option linter.unusedVariables false
namespace Go.Proofs.YtghegmbafbpnjaaDoor
set_option maxRecDepth 100000
theorem layB_ext {q : Nat × Nat} {v n : Nat} (hn : n ≤ 24) (hv : v < 2 ^ n) (hq : q.1 < 2 ^ q.2) : Ext q (layB q v n) := by
  rw [layB_eq hn hv]
  refine ⟨by dsimp only; omega, ?_, ?_⟩
  · dsimp only; rw [Nat.add_mul_mod_self_right, Nat.mod_eq_of_lt hq]
  · dsimp only
    rw [Nat.pow_add]
    have := Nat.mul_le_mul_right (2 ^ q.2) (show v + 1 ≤ 2 ^ n by omega)
    rw [Nat.add_mul, Nat.mul_comm (2 ^ n)] at this
    omega
/-- The bytes begin with these bits. -/
def Says (s : ByteArray) (r : Nat × Nat) : Prop := r.1 < 2 ^ r.2 ∧ Pre (textOf r.1 r.2) s
theorem says_bit {s : ByteArray} {r : Nat × Nat} (h : Says s r) {p n : Nat} (hn : n ≤ 24) (hp : p + n ≤ r.2) : bitsErr s p n = 0 ∧ bitsVal s p n = bitsAt r.1 p n ∧ bitsGo s p n = p + n := by
  have he : bitsErr (textOf r.1 r.2) p n = 0 := by
    unfold bitsErr
    rw [if_neg (by omega), if_neg]
    rw [textOf_size]; omega
  obtain ⟨h1, h2, h3⟩ := bits_pre h.2 (p := p) (n := (n : Int)) (by rw [he]; decide)
  rw [he] at h1
  refine ⟨h1, ?_, ?_⟩
  · rw [h2]
    unfold bitsVal
    rw [if_pos he, num_textOf _ _ h.1, Int.toNat_natCast]
  · unfold bitsGo; rw [if_pos h1, Int.toNat_natCast]
theorem ext_bits {q r : Nat × Nat} (h : Ext q r) {p n : Nat} (hp : p + n ≤ q.2) : bitsAt r.1 p n = bitsAt q.1 p n := by
  rw [← bitsAt_mod r.1 p n q.2 hp, h.2.1]
/-- Bits that were laid are read. -/
theorem bits_back {s : ByteArray} {q r : Nat × Nat} {v n : Nat} (hs : Says s r) (hn : n ≤ 24) (hv : v < 2 ^ n) (hq : q.1 < 2 ^ q.2) (hr : Ext (layB q v n) r) :
    bitsErr s q.2 n = 0 ∧ bitsVal s q.2 n = v ∧ bitsGo s q.2 n = (layB q v n).2 := by
  have he := layB_eq (q := q) hn hv
  have hl : q.2 + n ≤ r.2 := by have := hr.1; rw [he] at this; exact this
  obtain ⟨h1, h2, h3⟩ := says_bit hs hn hl
  refine ⟨h1, ?_, by rw [h3, he]⟩
  rw [h2, ext_bits hr (by rw [he]; exact Nat.le_refl _), he]
  unfold bitsAt
  dsimp only
  rw [Nat.add_mul_div_right _ _ (Nat.two_pow_pos _), Nat.div_eq_of_lt hq, Nat.zero_add, Nat.mod_eq_of_lt hv]
theorem layC_ext {l : List Int} (hc : chk l = 0) {q : Nat × Nat} (hq : q.1 < 2 ^ q.2) (t : Nat) : Ext q (layC l q t) := by
  obtain ⟨h1, h2, h3⟩ := layS_spec hc (s := (t : Int)) hq
  exact ⟨h3, h2, h1⟩
/-- A code that was laid is read. -/
theorem code_back {l : List Int} (hc : chk l = 0) {s : ByteArray} {q r : Nat × Nat} {t : Nat} (hs : Says s r) (hh : has l t) (hq : q.1 < 2 ^ q.2) (hr : Ext (layC l q t) r) : nextS l s q.2 = (t, 0, (layC l q t).2) := by
  obtain ⟨n, j, hj, hn, ht, hl, hcode⟩ := has_in hc hh
  rw [Int.toNat_natCast] at ht hl hcode
  have e3 : layC l q t = layG ((2 * gN l n + j : Nat) : Int) (n + 1) q.1 q.2 := by
    unfold layC layS; rw [if_pos hh, Int.toNat_natCast, hcode, hl, Int.toNat_natCast]
  have hsp := layG_spec (2 * gN l n + j) (n + 1) q.1 q.2 hq
  have hlen := layG_len ((2 * gN l n + j : Nat) : Int) (n + 1) q.1 q.2
  have hle := hr.1
  rw [e3, hlen] at hle
  rw [e3, hlen]
  refine next_found hc hn hj ht fun i hi => ?_
  obtain ⟨h1, h2, h3⟩ := says_bit hs (p := q.2 + i) (n := 1) (by omega) (by omega)
  refine ⟨h1, ?_⟩
  have h2' : bitsVal s (q.2 + i) 1 = bitsAt r.1 (q.2 + i) 1 := h2
  rw [h2', ext_bits hr (p := q.2 + i) (n := 1) (by rw [e3, hlen]; omega), e3, hsp.2.2 i hi, show n + 1 - 1 - i = n - i from by omega]

theorem layT_ext {l d : List Int} (hl : chk l = 0) (hd : chk d = 0) {q : Nat × Nat} (hq : q.1 < 2 ^ q.2) {t : Tk} (ht : tkHas l d t) : Ext q (layT l d q t) := by
  unfold layT
  unfold tkHas at ht
  by_cases h0 : t.1 = 0
  · rw [if_pos h0]; exact layC_ext hl hq _
  · rw [if_neg h0] at ht ⊢
    obtain ⟨a1, a2, a3, a4, a5, a6⟩ := ht
    obtain ⟨b1, b2, b3, b4⟩ := lsym_all t.1 (by omega) a1
    obtain ⟨c1, c2, c3⟩ := dsym_all t.2.1 (by omega) a3
    have e1 := layC_ext hl hq (lsym t.1)
    have e2 := layB_ext (v := t.1 - lenBase (lsym t.1)) (n := lenBits (lsym t.1)) (by have := lenBits_le (t := lsym t.1) (by omega) b2; omega) b4 e1.2.2
    have e3 := layC_ext hd e2.2.2 (dsym t.2.1)
    have e4 := layB_ext (v := t.2.1 - dstBase (dsym t.2.1)) (n := dstBits (dsym t.2.1)) (by have := dstBits_le (u := dsym t.2.1) c1; omega) c3 e3.2.2
    exact ((e1.trans e2).trans e3).trans e4
theorem layTs_ext {l d : List Int} (hl : chk l = 0) (hd : chk d = 0) : ∀ (ts : List Tk) (q : Nat × Nat), q.1 < 2 ^ q.2 → (∀ t ∈ ts, tkHas l d t) → Ext q (layTs l d q ts)
  | [], q, hq, _ => Ext.refl hq
  | t :: ts, q, hq, h => by
    have e := layT_ext hl hd hq (h t (by simp))
    exact e.trans (layTs_ext hl hd ts _ e.2.2 (fun t ht => h t (by simp [ht])))
/-- What a token says. -/
def sayT (out : List UInt8) (t : Tk) : List UInt8 := if t.1 = 0 then out ++ [UInt8.ofNat t.2.2] else matchOut t.2.1 t.1 out
def sayTs (out : List UInt8) (ts : List Tk) : List UInt8 := ts.foldl sayT out
def farOk : List UInt8 → List Tk → Prop
  | _, [] => True
  | out, t :: ts => (t.1 ≠ 0 → t.2.1 ≤ out.length) ∧ farOk (sayT out t) ts
theorem sayT_len (out : List UInt8) (t : Tk) : (sayT out t).length = out.length + spanTk t := by
  unfold sayT spanTk
  by_cases h : t.1 = 0
  · rw [if_pos h, h]; simp
  · rw [if_neg h, length_matchOut]; omega
theorem sayTs_len : ∀ (ts : List Tk) (out : List UInt8), out.length ≤ (sayTs out ts).length
  | [], _ => Nat.le_refl _
  | t :: ts, out => by
    have := sayTs_len ts (sayT out t)
    have h2 := sayT_len out t
    show out.length ≤ (sayTs (sayT out t) ts).length
    omega
/-- Tokens that were laid, and the symbol of the end, are read. -/
theorem toks_read {l d : List Int} (hl : chk l = 0) (hd : chk d = 0) (h256 : has l (256 : Nat)) {s : ByteArray} {r : Nat × Nat} (hs : Says s r) {most : Int} : ∀ (ts : List Tk) (f : Nat) (out : List UInt8) (q : Nat × Nat), ts.length < f → q.1 < 2 ^ q.2 →
    (∀ t ∈ ts, tkHas l d t) → farOk out ts → ((sayTs out ts).length : Int) ≤ most → Ext (layC l (layTs l d q ts) 256) r → symG l d most f out s q.2 = .ok (sayTs out ts, (layC l (layTs l d q ts) 256).2)
  | [], 0, _, _, hf, _, _, _, _, _ => by simp at hf
  | _ :: _, 0, _, _, hf, _, _, _, _, _ => by simp at hf
  | [], f + 1, out, q, _, hq, _, _, _, hr => sym_end (code_back hl hs h256 hq hr)
  | t :: ts, f + 1, out, q, hf, hq, hh, hfar, hm, hr => by
    have ht := hh t (by simp)
    have e0 := layT_ext hl hd hq ht
    have hh' : ∀ t ∈ ts, tkHas l d t := fun t ht => hh t (by simp [ht])
    have ets := layTs_ext hl hd ts _ e0.2.2 hh'
    have eend := layC_ext hl ets.2.2 256
    have hr' : Ext (layC l (layTs l d (layT l d q t) ts) 256) r := hr
    have htr : Ext (layT l d q t) r := (ets.trans eend).trans hr'
    have hlen := sayTs_len ts (sayT out t)
    have hsl := sayT_len out t
    have hm' : ((sayTs (sayT out t) ts).length : Int) ≤ most := hm
    have ih := toks_read hl hd h256 hs (most := most) ts f (sayT out t) (layT l d q t) (by simp at hf; omega) e0.2.2 hh' hfar.2 hm' hr'
    unfold tkHas at ht
    by_cases h0 : t.1 = 0
    · rw [if_pos h0] at ht
      have el : layT l d q t = layC l q t.2.2 := by unfold layT; rw [if_pos h0]
      have es : sayT out t = out ++ [UInt8.ofNat t.2.2] := by unfold sayT; rw [if_pos h0]
      have hn := code_back hl hs ht.2 hq (by rw [← el]; exact htr)
      have hspn : 1 ≤ spanTk t := by unfold spanTk; omega
      rw [sym_lit hn (by omega) (by omega)]
      rw [el, es] at ih
      have e1 : sayTs out (t :: ts) = sayTs (out ++ [UInt8.ofNat t.2.2]) ts := by rw [← es]; rfl
      have e2 : layTs l d q (t :: ts) = layTs l d (layC l q t.2.2) ts := by rw [← el]; rfl
      rw [e1, e2]; exact ih
    · rw [if_neg h0] at ht
      obtain ⟨a1, a2, a3, a4, a5, a6⟩ := ht
      obtain ⟨b1, b2, b3, b4⟩ := lsym_all t.1 (by omega) a1
      obtain ⟨c1, c2, c3⟩ := dsym_all t.2.1 (by omega) a3
      have el : layT l d q t = layB (layC d (layB (layC l q (lsym t.1)) (t.1 - lenBase (lsym t.1)) (lenBits (lsym t.1))) (dsym t.2.1)) (t.2.1 - dstBase (dsym t.2.1)) (dstBits (dsym t.2.1)) := by unfold layT; rw [if_neg h0]
      have hb1 : lenBits (lsym t.1) ≤ 24 := by have := lenBits_le (t := lsym t.1) (by omega) b2; omega
      have hb2 : dstBits (dsym t.2.1) ≤ 24 := by have := dstBits_le (u := dsym t.2.1) c1; omega
      have e1 := layC_ext hl hq (lsym t.1)
      have e2 := layB_ext (v := t.1 - lenBase (lsym t.1)) hb1 b4 e1.2.2
      have e3 := layC_ext hd e2.2.2 (dsym t.2.1)
      have e4 := layB_ext (v := t.2.1 - dstBase (dsym t.2.1)) hb2 c3 e3.2.2
      rw [el] at htr
      have n1 := code_back hl hs a5 hq (((e2.trans e3).trans e4).trans htr)
      obtain ⟨x1, x2, x3⟩ := bits_back hs hb1 b4 e1.2.2 ((e3.trans e4).trans htr)
      have n2 := code_back hd hs a6 e2.2.2 (e4.trans htr)
      obtain ⟨y1, y2, y3⟩ := bits_back hs hb2 c3 e3.2.2 htr
      have es : sayT out t = matchOut t.2.1 t.1 out := by unfold sayT; rw [if_neg h0]
      have ev : lenBase (lsym t.1) + (t.1 - lenBase (lsym t.1)) = t.1 := by omega
      have ew : dstBase (dsym t.2.1) + (t.2.1 - dstBase (dsym t.2.1)) = t.2.1 := by omega
      have hfr := hfar.1 h0
      have hsp : spanTk t = t.1 := by unfold spanTk; omega
      rw [sym_match n1 (by omega) b2]
      rw [← x3] at n2
      rw [match_goes x1 n2 (by omega) y1 (by rw [y2, ew]; omega) (by rw [x2, ev]; omega), x2, y2, y3, ev, ew]
      rw [el, es] at ih
      have e5 : sayTs out (t :: ts) = sayTs (matchOut t.2.1 t.1 out) ts := by rw [← es]; rfl
      have e6 : layTs l d q (t :: ts) = layTs l d (layB (layC d (layB (layC l q (lsym t.1)) (t.1 - lenBase (lsym t.1)) (lenBits (lsym t.1))) (dsym t.2.1)) (t.2.1 - dstBase (dsym t.2.1)) (dstBits (dsym t.2.1))) ts := by rw [← el]; rfl
      rw [e5, e6]; exact ih
end Go.Proofs.YtghegmbafbpnjaaDoor
set_option linter.unusedVariables false
namespace Go.Proofs.YtghegmbafbpnjaaDoor
set_option maxRecDepth 100000
theorem eqRun_same (l : List Int) (i : Nat) : ∀ f n k, n ≤ k → k < eqRun l i f n → l.getD (i + k) 0 = l.getD i 0
  | 0, _, _, h1, h2 => by simp only [eqRun] at h2; omega
  | f + 1, n, k, h1, h2 => by
    rw [eqRun] at h2
    split at h2
    · rename_i hc
      by_cases e : k = n
      · subst e; exact hc.2
      · exact eqRun_same l i f (n + 1) k (by omega) h2
    · omega
theorem runN_same {l : List Int} {i k : Nat} (h : k < runN l i) : l.getD (i + k) 0 = l.getD i 0 := by
  by_cases e : k = 0
  · subst e; rfl
  · exact eqRun_same l i l.length 1 k (by omega) h
theorem take_same {l : List Int} {i n : Nat} {v : Int} (hi : i + n ≤ l.length) (h : ∀ k, k < n → l.getD (i + k) 0 = v) : l.take i ++ List.replicate n v = l.take (i + n) := by
  induction n with
  | zero => simp
  | succ n ih =>
    have e := ih (by omega) (fun k hk => h k (by omega))
    rw [List.replicate_succ', ← List.append_assoc, e, ← Nat.add_assoc, List.take_succ_eq_append_getElem (by omega)]
    congr 2
    have := h n (by omega)
    rw [List.getD_eq_getElem?_getD, List.getElem?_eq_getElem (by omega)] at this
    exact this.symm
def runOk (c : Int × Nat) : Prop := (c.1 = 16 → c.2 < 4) ∧ (c.1 = 17 → c.2 < 8) ∧ (c.1 = 18 → c.2 < 128)
theorem layR_ext {small : List Int} (hc : chk small = 0) {q : Nat × Nat} (hq : q.1 < 2 ^ q.2) {c : Int × Nat} (h : runOk c) : Ext q (layR small q c) := by
  unfold layR
  by_cases h1 : c.1 = 16
  · rw [if_pos h1]
    have e1 := layC_ext hc hq 16
    exact e1.trans (layB_ext (by omega) (by have := h.1 h1; omega) e1.2.2)
  · rw [if_neg h1]
    by_cases h2 : c.1 = 17
    · rw [if_pos h2]
      have e1 := layC_ext hc hq 17
      exact e1.trans (layB_ext (by omega) (by have := h.2.1 h2; omega) e1.2.2)
    · rw [if_neg h2]
      by_cases h3 : c.1 = 18
      · rw [if_pos h3]
        have e1 := layC_ext hc hq 18
        exact e1.trans (layB_ext (by omega) (by have := h.2.2 h3; omega) e1.2.2)
      · rw [if_neg h3]; exact layC_ext hc hq _
theorem layRs_ext {small : List Int} (hc : chk small = 0) : ∀ (cs : List (Int × Nat)) (q : Nat × Nat), q.1 < 2 ^ q.2 → (∀ c ∈ cs, runOk c) → Ext q (layRs small q cs)
  | [], q, hq, _ => Ext.refl hq
  | c :: cs, q, hq, h => by
    have e := layR_ext hc hq (h c (by simp))
    exact e.trans (layRs_ext hc cs _ e.2.2 (fun t ht => h t (by simp [ht])))
theorem runAt_ok {l : List Int} (h15 : ∀ i, 0 ≤ l.getD i 0 ∧ l.getD i 0 ≤ 15) (i : Nat) : runOk ((runAt l i).1, (runAt l i).2.1) := by
  have hv := h15 i
  unfold runAt runOk
  by_cases h1 : l.getD i 0 = 0 ∧ 11 ≤ runN l i
  · rw [if_pos h1]; dsimp only; omega
  · rw [if_neg h1]
    by_cases h2 : l.getD i 0 = 0 ∧ 3 ≤ runN l i
    · rw [if_pos h2]; dsimp only; omega
    · rw [if_neg h2]
      by_cases h3 : l.getD i 0 ≠ 0 ∧ 0 < i ∧ l.getD (i - 1) 0 = l.getD i 0 ∧ 3 ≤ runN l i
      · rw [if_pos h3]; dsimp only; omega
      · rw [if_neg h3]; dsimp only; omega
theorem runsG_ok {l : List Int} (h15 : ∀ i, 0 ≤ l.getD i 0 ∧ l.getD i 0 ≤ 15) : ∀ f i, ∀ c ∈ runsG l f i, runOk c
  | 0, _, c, h => by simp [runsG] at h
  | f + 1, i, c, h => by
    rw [runsG] at h
    by_cases hi : i < l.length
    · rw [if_pos hi] at h
      rcases List.mem_cons.1 h with rfl | h
      · exact runAt_ok h15 i
      · exact runsG_ok h15 f _ c h
    · rw [if_neg hi] at h; cases h
/-- Runs that were laid are read as the lengths. -/
theorem runs_read {l small : List Int} (hc : chk small = 0) (h15 : ∀ i, 0 ≤ l.getD i 0 ∧ l.getD i 0 ≤ 15) {s : ByteArray} {r : Nat × Nat} (hs : Says s r) : ∀ (g f i : Nat) (q : Nat × Nat), l.length ≤ i + g → (runsG l g i).length < f → i ≤ l.length → q.1 < 2 ^ q.2 →
    (∀ c ∈ runsG l g i, has small c.1) → Ext (layRs small q (runsG l g i)) r → lenG small l.length f (l.take i) s q.2 = .ok (l, (layRs small q (runsG l g i)).2)
  | 0, f + 1, i, q, hg, _, hi, _, _, _ => by
    have : i = l.length := by omega
    subst this
    rw [List.take_length, len_done (Nat.le_refl _)]; rfl
  | g + 1, f + 1, i, q, hg, hf, hi, hq, hh, hr => by
    by_cases hlt : i < l.length
    · have hacc : (l.take i).length = i := by simp; omega
      have hrun : runsG l (g + 1) i = ((runAt l i).1, (runAt l i).2.1) :: runsG l g (i + (runAt l i).2.2) := by rw [runsG, if_pos hlt]
      rw [hrun] at hh hr hf ⊢
      rw [List.length_cons] at hf
      have hpos := runAt_pos l i
      have hok := runAt_ok h15 i
      have h0 := hh _ (List.mem_cons_self)
      have hh' : ∀ c ∈ runsG l g (i + (runAt l i).2.2), has small c.1 := fun c hc => hh c (List.mem_cons_of_mem _ hc)
      have e0 := layR_ext hc hq hok
      have ers := layRs_ext hc (runsG l g (i + (runAt l i).2.2)) _ e0.2.2 (runsG_ok h15 _ _)
      have hr' : Ext (layRs small (layR small q ((runAt l i).1, (runAt l i).2.1)) (runsG l g (i + (runAt l i).2.2))) r := hr
      have htr := ers.trans hr'
      have hgoal : layRs small q (((runAt l i).1, (runAt l i).2.1) :: runsG l g (i + (runAt l i).2.2)) = layRs small (layR small q ((runAt l i).1, (runAt l i).2.1)) (runsG l g (i + (runAt l i).2.2)) := rfl
      rw [hgoal]
      have hin := eqRun_in l i l.length 1 (by omega)
      have hrn : i + runN l i ≤ l.length := hin
      have hv := h15 i
      have ih := fun hle => runs_read hc h15 hs g f (i + (runAt l i).2.2) (layR small q ((runAt l i).1, (runAt l i).2.1)) (by omega) (by omega) hle e0.2.2 hh' hr'
      have hopen : (l.take i).length < l.length := by omega
      by_cases h1 : l.getD i 0 = 0 ∧ 11 ≤ runN l i
      · have er : runAt l i = (18, min (runN l i) 138 - 11, min (runN l i) 138) := by unfold runAt; rw [if_pos h1]
        rw [er] at ih h0 e0 htr ⊢
        dsimp only at ih h0 e0 htr ⊢
        have el : layR small q (18, min (runN l i) 138 - 11) = layB (layC small q 18) (min (runN l i) 138 - 11) 7 := rfl
        rw [el] at htr ih ⊢
        have e1 := layC_ext hc hq 18
        have e2 := layB_ext (q := layC small q 18) (v := min (runN l i) 138 - 11) (n := 7) (by omega) (by omega) e1.2.2
        have n1 := code_back hc hs (t := 18) h0 hq (e2.trans htr)
        obtain ⟨x1, x2, x3⟩ := bits_back hs (n := 7) (by omega) (by omega) e1.2.2 htr
        rw [len_many hopen n1 (by omega), rep_goes x1 (by rw [x2, hacc]; omega), x2, x3]
        have e3 : 11 + (min (runN l i) 138 - 11) = min (runN l i) 138 := by omega
        rw [e3, take_same (by omega) (fun k hk => by rw [runN_same (by omega)]; exact h1.1)]
        exact ih (by omega)
      · by_cases h2 : l.getD i 0 = 0 ∧ 3 ≤ runN l i
        · have er : runAt l i = (17, runN l i - 3, runN l i) := by unfold runAt; rw [if_neg h1, if_pos h2]
          rw [er] at ih h0 e0 htr ⊢
          dsimp only at ih h0 e0 htr ⊢
          have el : layR small q (17, runN l i - 3) = layB (layC small q 17) (runN l i - 3) 3 := rfl
          rw [el] at htr ih ⊢
          have e1 := layC_ext hc hq 17
          have e2 := layB_ext (q := layC small q 17) (v := runN l i - 3) (n := 3) (by omega) (by omega) e1.2.2
          have n1 := code_back hc hs (t := 17) h0 hq (e2.trans htr)
          obtain ⟨x1, x2, x3⟩ := bits_back hs (n := 3) (by omega) (by omega) e1.2.2 htr
          rw [len_zeros hopen n1, rep_goes x1 (by rw [x2, hacc]; omega), x2, x3]
          have e3 : 3 + (runN l i - 3) = runN l i := by omega
          rw [e3, take_same (by omega) (fun k hk => by rw [runN_same hk]; exact h2.1)]
          exact ih (by omega)
        · by_cases h3 : l.getD i 0 ≠ 0 ∧ 0 < i ∧ l.getD (i - 1) 0 = l.getD i 0 ∧ 3 ≤ runN l i
          · have er : runAt l i = (16, min (runN l i) 6 - 3, min (runN l i) 6) := by unfold runAt; rw [if_neg h1, if_neg h2, if_pos h3]
            rw [er] at ih h0 e0 htr ⊢
            dsimp only at ih h0 e0 htr ⊢
            have el : layR small q (16, min (runN l i) 6 - 3) = layB (layC small q 16) (min (runN l i) 6 - 3) 2 := rfl
            rw [el] at htr ih ⊢
            have e1 := layC_ext hc hq 16
            have e2 := layB_ext (q := layC small q 16) (v := min (runN l i) 6 - 3) (n := 2) (by omega) (by omega) e1.2.2
            have n1 := code_back hc hs (t := 16) h0 hq (e2.trans htr)
            obtain ⟨x1, x2, x3⟩ := bits_back hs (n := 2) (by omega) (by omega) e1.2.2 htr
            rw [len_again hopen n1 (by omega), rep_goes x1 (by rw [x2, hacc]; omega), x2, x3]
            have e3 : 3 + (min (runN l i) 6 - 3) = min (runN l i) 6 := by omega
            have e4 : (l.take i).getD ((l.take i).length - 1) 0 = l.getD i 0 := by
              rw [hacc, ← h3.2.2.1, List.getD_eq_getElem?_getD, List.getD_eq_getElem?_getD, List.getElem?_take_of_lt (by omega)]
            rw [e3, e4, take_same (by omega) (fun k hk => runN_same (by omega))]
            exact ih (by omega)
          · have er : runAt l i = (l.getD i 0, 0, 1) := by unfold runAt; rw [if_neg h1, if_neg h2, if_neg h3]
            rw [er] at ih h0 e0 htr ⊢
            dsimp only at ih h0 e0 htr ⊢
            have el : layR small q (l.getD i 0, 0) = layC small q (l.getD i 0).toNat := by
              unfold layR; rw [if_neg (by dsimp only; omega), if_neg (by dsimp only; omega), if_neg (by dsimp only; omega)]
            rw [el] at htr ih ⊢
            have e5 : (((l.getD i 0).toNat : Nat) : Int) = l.getD i 0 := by omega
            have n1 := code_back hc hs (t := (l.getD i 0).toNat) (by rw [e5]; exact h0) hq htr
            rw [len_one hopen n1 (by omega), e5]
            have e6 : l.take i ++ [l.getD i 0] = l.take (i + 1) := by
              have := take_same (l := l) (i := i) (n := 1) (v := l.getD i 0) (by omega) (fun k hk => by rw [show k = 0 from by omega]; rfl)
              simpa using this
            rw [e6]
            exact ih (by omega)
    · have : i = l.length := by omega
      subst this
      have e : runsG l (g + 1) l.length = [] := by rw [runsG, if_neg (by omega)]
      rw [e, List.take_length, len_done (Nat.le_refl _)]; rfl
end Go.Proofs.YtghegmbafbpnjaaDoor
set_option linter.unusedVariables false
namespace Go.Proofs.YtghegmbafbpnjaaDoor
set_option maxRecDepth 100000
def putS (small : List Int) (acc : List Int) (ks : List Nat) : List Int := ks.foldl (fun a k => a.set k (small.getD k 0)) acc
theorem layS3_ext {small : List Int} (h7 : ∀ k, 0 ≤ small.getD k 0 ∧ small.getD k 0 ≤ 7) : ∀ (ks : List Nat) (q : Nat × Nat), q.1 < 2 ^ q.2 → Ext q (layS3 small q ks)
  | [], q, hq => Ext.refl hq
  | k :: ks, q, hq => by
    have h := h7 k
    have e := layB_ext (q := q) (v := (small.getD k 0).toNat) (n := 3) (by omega) (by omega) hq
    exact e.trans (layS3_ext h7 ks _ e.2.2)
theorem small_read {small : List Int} (h7 : ∀ k, 0 ≤ small.getD k 0 ∧ small.getD k 0 ≤ 7) {s : ByteArray} {r : Nat × Nat} (hs : Says s r) : ∀ (ks : List Nat) (acc : List Int) (q : Nat × Nat), q.1 < 2 ^ q.2 → Ext (layS3 small q ks) r →
    smallG ks acc s q.2 = .ok (putS small acc ks, (layS3 small q ks).2)
  | [], acc, q, _, _ => rfl
  | k :: ks, acc, q, hq, hr => by
    have h := h7 k
    have e := layB_ext (q := q) (v := (small.getD k 0).toNat) (n := 3) (by omega) (by omega) hq
    have e2 := layS3_ext h7 ks _ e.2.2
    have hr' : Ext (layS3 small (layB q (small.getD k 0).toNat 3) ks) r := hr
    obtain ⟨x1, x2, x3⟩ := bits_back hs (n := 3) (by omega) (by omega) hq (e2.trans hr')
    rw [small_goes x1, x2, x3, show (((small.getD k 0).toNat : Nat) : Int) = small.getD k 0 from by omega]
    exact small_read h7 hs ks _ _ e.2.2 hr'
theorem length_putS (small : List Int) : ∀ (ks : List Nat) (acc : List Int), (putS small acc ks).length = acc.length
  | [], _ => rfl
  | k :: ks, acc => by
    show (putS small (acc.set k (small.getD k 0)) ks).length = _
    rw [length_putS small ks, List.length_set]
theorem putS_at (small : List Int) (j : Nat) : ∀ (ks : List Nat) (acc : List Int), j < acc.length → (putS small acc ks).getD j 0 = if j ∈ ks then small.getD j 0 else acc.getD j 0
  | [], acc, h => by simp [putS]
  | k :: ks, acc, h => by
    show (putS small (acc.set k (small.getD k 0)) ks).getD j 0 = _
    rw [putS_at small j ks _ (by simpa using h), set_getD]
    by_cases h1 : j ∈ ks
    · rw [if_pos h1, if_pos (by simp [h1])]
    · rw [if_neg h1]
      by_cases h2 : k = j
      · subst h2; rw [if_pos ⟨rfl, h⟩, if_pos (by simp)]
      · rw [if_neg (by omega), if_neg (by simp [h1]; omega)]
theorem putS_whole {small : List Int} (hl : small.length = 19) {ks : List Nat} (h0 : ∀ j, j < 19 → j ∉ ks → small.getD j 0 = 0) : putS small (List.replicate 19 0) ks = small := by
  apply List.ext_getElem
  · rw [length_putS, List.length_replicate, hl]
  · intro j h1 h2
    have hj : j < 19 := by omega
    have e := putS_at small j ks (List.replicate 19 0) (by simpa using hj)
    have z : (List.replicate 19 (0 : Int)).getD j 0 = 0 := by
      rw [List.getD_eq_getElem?_getD, List.getElem?_eq_getElem (by rw [List.length_replicate]; exact hj), List.getElem_replicate]; rfl
    rw [z, List.getD_eq_getElem?_getD, List.getElem?_eq_getElem h1] at e
    have e2 : small.getD j 0 = small[j] := by rw [List.getD_eq_getElem?_getD, List.getElem?_eq_getElem h2]; rfl
    have e3 : (putS small (List.replicate 19 0) ks)[j] = if j ∈ ks then small.getD j 0 else 0 := e
    rw [e3]
    by_cases hk : j ∈ ks
    · rw [if_pos hk, e2]
    · rw [if_neg hk, ← e2, h0 j hj hk]

theorem dyn_read {A B small : List Int} {n : Nat} {ts : List Tk} (h : DynOk A B small n ts) {s : ByteArray} {r : Nat × Nat} (hs : Says s r) {most : Int} {F : Nat} {q : Nat × Nat} (hF1 : (runs (A ++ B)).length < F) (hF2 : ts.length < F) (hq : q.1 < 2 ^ q.2)
    (hfar : farOk [] ts) (hm : ((sayTs [] ts).length : Int) ≤ most) (hr : Ext (layD A B small n ts q) r) : dynR most F [] s q.2 = .ok (sayTs [] ts, (layD A B small n ts q).2) := by
  have ha1 := h.a1
  have ha2 := h.a2
  have hb1 := h.b1
  have hb2 := h.b2
  have hn1 := h.n1
  have hn2 := h.n2
  have e1 := layB_ext (q := q) (v := A.length - 257) (n := 5) (by omega) (by omega) hq
  have e2 := layB_ext (v := B.length - 1) (n := 5) (by omega) (by omega) e1.2.2
  have e3 := layB_ext (v := n - 4) (n := 4) (by omega) (by omega) e2.2.2
  have e4 := layS3_ext h.s7 (ordS.take n) _ e3.2.2
  have e5 := layRs_ext h.cs (runs (A ++ B)) _ e4.2.2 (runsG_ok h.ab _ _)
  have e6 := layTs_ext h.ca h.cb ts _ e5.2.2 h.tk
  have e7 := layC_ext h.ca e6.2.2 256
  have hr7 : Ext _ r := hr
  have hr6 := e7.trans hr7
  have hr5 := e6.trans hr6
  have hr4 := e5.trans hr5
  have hr3 := e4.trans hr4
  have hr2 := e3.trans hr3
  have hr1 := e2.trans hr2
  obtain ⟨x1, x2, x3⟩ := bits_back hs (n := 5) (by omega) (by omega) hq hr1
  obtain ⟨y1, y2, y3⟩ := bits_back hs (n := 5) (by omega) (by omega) e1.2.2 hr2
  obtain ⟨z1, z2, z3⟩ := bits_back hs (n := 4) (by omega) (by omega) e2.2.2 hr3
  have hsm := small_read h.s7 hs (ordS.take n) (List.replicate 19 0) _ e3.2.2 hr4
  rw [putS_whole h.sl h.s0] at hsm
  have hrd := runs_read h.cs h.ab hs (A ++ B).length F 0 _ (by omega) hF1 (Nat.zero_le _) e4.2.2 h.rs hr5
  have hab : (A ++ B).length = A.length - 257 + 257 + (B.length - 1 + 1) := by rw [List.length_append]; omega
  have hrd' : lenG small (A.length - 257 + 257 + (B.length - 1 + 1)) F [] s (layS3 small (layB (layB (layB q (A.length - 257) 5) (B.length - 1) 5) (n - 4) 4) (ordS.take n)).2 = .ok (A ++ B, (layRs small (layS3 small (layB (layB (layB q (A.length - 257) 5) (B.length - 1) 5) (n - 4) 4) (ordS.take n)) (runs (A ++ B))).2) := by
    rw [← hab]; exact hrd
  have hn4 : n - 4 + 4 = n := by omega
  rw [dyn_goes1 x1, x2, x3, dyn_goes2 y1, y2, y3, dyn_goes3 z1, z2, z3, hn4, bind_val hsm, dyn3_goes h.cs hrd']
  have ht : (A ++ B).take (A.length - 257 + 257) = A := by rw [show A.length - 257 + 257 = A.length from by omega, List.take_left]
  have hd : (A ++ B).drop (A.length - 257 + 257) = B := by rw [show A.length - 257 + 257 = A.length from by omega, List.drop_left]
  rw [ht, hd, tables_goes h.ca h.cb]
  exact toks_read h.ca h.cb h.he hs ts F [] _ hF2 e5.2.2 h.tk hfar hm hr7

theorem match_copy (far : Nat) : ∀ n out, matchOut far n out = lzCopy far n out
  | 0, _ => rfl
  | n + 1, out => by rw [matchOut, lzCopy, match_copy far n]
theorem toks_say (l : List UInt8) : ∀ f i, l.length ≤ i + f → i ≤ l.length → sayTs (l.take i) (toksG l f i) = l ∧ farOk (l.take i) (toksG l f i)
  | 0, i, h, hi => by
    have : i = l.length := by omega
    subst this; simp [toksG, sayTs, farOk]
  | f + 1, i, h, hi => by
    rw [toksG]
    by_cases hlt : i < l.length
    · rw [if_pos hlt]
      have hl : (l.take i).length = i := by simp; omega
      by_cases hb : 3 ≤ (bestAt l i).1
      · obtain ⟨b1, b2, b3, b4, b5, b6⟩ := best_match hlt hb
        rw [if_pos hb]
        have e : sayT (l.take i) ((bestAt l i).1, (bestAt l i).2, 0) = l.take (i + (bestAt l i).1) := by
          unfold sayT
          rw [if_neg (show ¬ (bestAt l i).1 = 0 by omega), match_copy]
          exact copy_take l _ b1 _ _ b3 b5 b6
        have ih := toks_say l f (i + (bestAt l i).1) (by omega) b5
        refine ⟨?_, ?_⟩
        · show sayTs (sayT (l.take i) _) _ = l
          rw [e]; exact ih.1
        · refine ⟨fun _ => by rw [hl]; exact b3, ?_⟩
          rw [e]; exact ih.2
      · rw [if_neg hb]
        have e : sayT (l.take i) (0, 0, (l.getD i 0).toNat) = l.take (i + 1) := by
          unfold sayT
          rw [if_pos rfl]
          show l.take i ++ [UInt8.ofNat (l.getD i 0).toNat] = _
          rw [UInt8.ofNat_toNat]; exact take_more hlt
        have ih := toks_say l f (i + 1) (by omega) (by omega)
        refine ⟨?_, ?_⟩
        · show sayTs (sayT (l.take i) _) _ = l
          rw [e]; exact ih.1
        · refine ⟨fun h => absurd rfl h, ?_⟩
          rw [e]; exact ih.2
    · have : i = l.length := by omega
      rw [if_neg hlt, this]; simp [sayTs, farOk]
theorem zero_ok : ((0, 0) : Nat × Nat).1 < 2 ^ ((0, 0) : Nat × Nat).2 := by decide
theorem fixedX_ext (l : List UInt8) : Ext (layB (layB (0, 0) 1 1) 1 2) (fixedX l) := by
  have e1 := layB_ext (q := (0, 0)) (v := 1) (n := 1) (by omega) (by omega) zero_ok
  have e2 := layB_ext (q := layB (0, 0) 1 1) (v := 1) (n := 2) (by omega) (by omega) e1.2.2
  have e3 := layTs_ext chk_fixL chk_fixD (toks l) _ e2.2.2 (toks_fixed l)
  exact e3.trans (layC_ext chk_fixL e3.2.2 256)
theorem toks_nil_say (l : List UInt8) : sayTs [] (toks l) = l ∧ farOk [] (toks l) := by
  have := toks_say l l.length 0 (by omega) (Nat.zero_le _)
  simpa [toks] using this
/-- What is read of the beginning of a stream of one block. -/
theorem one_block {s : ByteArray} {r : Nat × Nat} {k : Nat} {most : Int} {F f : Nat} {a : List UInt8} {q : Nat} (hs : Says s r) (hk : k < 4) (hr : Ext (layB (layB (0, 0) 1 1) k 2) r)
    (h : blockR most F k [] s (layB (layB (0, 0) 1 1) k 2).2 = .ok (a, q)) : blkG most F (f + 1) [] s 0 = .ok (a, q) := by
  have e1 := layB_ext (q := (0, 0)) (v := 1) (n := 1) (by omega) (by omega) zero_ok
  have e2 := layB_ext (q := layB (0, 0) 1 1) (v := k) (n := 2) (by omega) (by omega) e1.2.2
  obtain ⟨x1, x2, x3⟩ := bits_back hs (q := (0, 0)) (v := 1) (n := 1) (by omega) (by omega) zero_ok (e2.trans hr)
  obtain ⟨y1, y2, y3⟩ := bits_back hs (q := layB (0, 0) 1 1) (v := k) (n := 2) (by omega) (by omega) e1.2.2 hr
  have x1' : bitsErr s 0 (1 : Nat) = 0 := x1
  have x2' : bitsVal s 0 (1 : Nat) = 1 := x2
  have x3' : bitsGo s 0 (1 : Nat) = (layB (0, 0) 1 1).2 := x3
  rw [blk_goes x1' (by rw [x3']; exact y1), x2', x3', y2, y3]
  exact blkK_last h (by omega)
theorem text_size {s : ByteArray} {r : Nat × Nat} (h : Says s r) : (r.2 + 7) / 8 ≤ s.size := by
  have := h.2.size
  rwa [textOf_size] at this
/-- What the stream of one fixed block says. -/
theorem fixed_read (l : List UInt8) {s : ByteArray} (hs : Says s (fixedX l)) {most : Int} (hm : (l.length : Int) ≤ most) : inflS s most = .ok (l, (fixedX l).2) := by
  obtain ⟨h1, h2⟩ := toks_nil_say l
  have he := fixedX_ext l
  have e1 := layB_ext (q := (0, 0)) (v := 1) (n := 1) (by omega) (by omega) zero_ok
  have e2 := layB_ext (q := layB (0, 0) 1 1) (v := 1) (n := 2) (by omega) (by omega) e1.2.2
  have hrd := toks_read chk_fixL chk_fixD (hasL (by omega)) hs (most := most) (toks l) (8 * s.size + 1) [] _ ?_ e2.2.2 (toks_fixed l) h2 (by rw [h1]; exact hm) (Ext.refl hs.1)
  · rw [h1] at hrd
    unfold inflS
    refine one_block hs (k := 1) (by omega) he ?_
    rw [block_fixed]; exact hrd
  · have h3 : ∀ (ts : List Tk) (q : Nat × Nat), q.1 < 2 ^ q.2 → (∀ t ∈ ts, tkHas fixL fixD t) → q.2 + ts.length ≤ (layTs fixL fixD q ts).2 := by
      intro ts
      induction ts with
      | nil => intro q _ _; exact Nat.le_refl _
      | cons t ts ih =>
        intro q hq ht
        have e := layT_ext chk_fixL chk_fixD hq (ht t (by simp))
        have h4 := ih (layT fixL fixD q t) e.2.2 (fun t h => ht t (by simp [h]))
        have h5 : q.2 + 1 ≤ (layT fixL fixD q t).2 := by
          have hone : ∀ {s : Nat} {q : Nat × Nat}, has fixL (s : Nat) → q.2 + 1 ≤ (layC fixL q s).2 := fun {s q} hh => by
            unfold layC layS
            rw [if_pos hh, layG_len]
            have h6 : fixL.getD ((s : Nat) : Int).toNat 0 ≠ 0 := hh.2.2
            have h7 := chk_okay chk_fixL
            have h8 : (s : Int) < fixL.length := hh.2.1
            have h9 := h7 _ (List.getElem_mem (show s < fixL.length by omega))
            rw [← getD_get (show s < fixL.length by omega)] at h9
            rw [Int.toNat_natCast] at h6 ⊢
            omega
          have htt := ht t (by simp)
          unfold tkHas at htt
          unfold layT
          by_cases h0 : t.1 = 0
          · rw [if_pos h0] at htt ⊢; exact hone htt.2
          · rw [if_neg h0] at htt ⊢
            obtain ⟨a1, a2, a3, a4, a5, a6⟩ := htt
            obtain ⟨b1, b2, b3, b4⟩ := lsym_all t.1 (by omega) a1
            obtain ⟨c1, c2, c3⟩ := dsym_all t.2.1 (by omega) a3
            have f1 := hone (q := q) a5
            have g1 := layC_ext chk_fixL hq (lsym t.1)
            have g2 := layB_ext (v := t.1 - lenBase (lsym t.1)) (n := lenBits (lsym t.1)) (by have := lenBits_le (t := lsym t.1) (by omega) b2; omega) b4 g1.2.2
            have g3 := layC_ext chk_fixD g2.2.2 (dsym t.2.1)
            have g4 := layB_ext (v := t.2.1 - dstBase (dsym t.2.1)) (n := dstBits (dsym t.2.1)) (by have := dstBits_le (u := dsym t.2.1) c1; omega) c3 g3.2.2
            have k2 := g2.1
            have k3 := g3.1
            have k4 := g4.1
            omega
        show q.2 + (t :: ts).length ≤ (layTs fixL fixD (layT fixL fixD q t) ts).2
        rw [List.length_cons]; omega
    have h4 := h3 (toks l) _ e2.2.2 (toks_fixed l)
    have h5 := (layC_ext chk_fixL (layTs_ext chk_fixL chk_fixD (toks l) _ e2.2.2 (toks_fixed l)).2.2 256).1
    have h6 := text_size hs
    have h7 : (layTs fixL fixD (layB (layB (0, 0) 1 1) 1 2) (toks l)).2 ≤ (fixedX l).2 := h5
    omega
end Go.Proofs.YtghegmbafbpnjaaDoor
