/- Several texts in one: Ord, Writer, WriteB, WriteC (what Back, Best, Dynamic, Fixed, Least, Runs, Stored reach of them). -/
import Derived.Test.YtjeeiodpdfbgmaaDoorPm01
import Derived.Below
import Derived.BigQuiet
import Derived.BigRegion
import Derived.Deep.AppendLies
import Derived.Deep.CutRange
import Derived.Deep.DeepCutAuto
import Derived.Deep.Draws
import Derived.Deep.QuietTactic
import Derived.Deep.RegionLaw
import Derived.Laws.BitsAllLaws
import Derived.Laws.BitsLemmas
import Derived.Laws.IdiomStrings
import Derived.Laws.OwnMore
import Derived.Laws.Rows
import Derived.Lib.AppendStr
import Derived.Lib.Hide
import Derived.Lib.Strings
import Derived.OneCell
import Derived.Outline
import Derived.OwnWalk
import Derived.RegionTactic
import Derived.Test.YtjeeiodpdfbgmaaDoorChecked
import Derived.WalkKit
import Derived.WalkLawsBesides
import Derived.WalkSpells
set_option maxRecDepth 100000
set_option linter.unusedVariables false
namespace Go.Proofs.YtjeeiodpdfbgmaaDoor
set_option maxRecDepth 100000
/-- The symbols below k that have this length. -/
def inLen (l : List Int) (n k : Nat) : List Nat := (List.range k).filter fun s => decide (l.getD s 0 = (n : Int))
/-- The symbols with lengths from 1 to n, in the order of their codes. -/
def ordTo (l : List Int) : Nat → List Nat
  | 0 => []
  | n + 1 => ordTo l n ++ inLen l (n + 1) l.length
def ord (l : List Int) : List Nat := ordTo l 15
/-- Lengths to n are done, and of the next one the symbols below k. -/
def pre (l : List Int) (n k : Nat) : List Nat := ordTo l n ++ inLen l (n + 1) k
def stp (l : List Int) (st : List Int × Nat) (s : Nat) : List Int × Nat := (st.1.set s ((st.2 / 2 ^ (15 - (l.getD s 0).toNat) : Nat) : Int), st.2 + kr (l.getD s 0))
def cst (l : List Int) (p : List Nat) : List Int × Nat := p.foldl (stp l) (List.replicate l.length 0, 0)
/-- The codes when these symbols have got theirs. -/
def cds (l : List Int) (p : List Nat) : List Int := (cst l p).1
/-- How much these symbols take. -/
def kp (l : List Int) (p : List Nat) : Nat := (cst l p).2
def codes (l : List Int) : List Int := cds l (ord l)
def was (l : List Int) (p : List Nat) : Nat := match p.getLast? with
  | none => 0
  | some s => (l.getD s 0).toNat

theorem inLen_succ (l : List Int) (n k : Nat) : inLen l n (k + 1) = if l.getD k 0 = (n : Int) then inLen l n k ++ [k] else inLen l n k := by
  unfold inLen; rw [List.range_succ, List.filter_append]
  by_cases h : l.getD k 0 = (n : Int)
  · rw [if_pos h]; simp only [List.filter_cons, List.filter_nil]; rw [if_pos (by simpa using h)]
  · rw [if_neg h]; simp only [List.filter_cons, List.filter_nil]; rw [if_neg (by simpa using h)]; simp
theorem inLen_zero (l : List Int) (n : Nat) : inLen l n 0 = [] := rfl
theorem pre_zero (l : List Int) (n : Nat) : pre l n 0 = ordTo l n := by simp [pre, inLen_zero]
theorem pre_full (l : List Int) (n : Nat) : pre l n l.length = ordTo l (n + 1) := rfl
theorem pre_succ (l : List Int) (n k : Nat) : pre l n (k + 1) = if l.getD k 0 = ((n + 1 : Nat) : Int) then pre l n k ++ [k] else pre l n k := by
  unfold pre; rw [inLen_succ]; split <;> simp
theorem mem_inLen {l : List Int} {n k s : Nat} : s ∈ inLen l n k ↔ s < k ∧ l.getD s 0 = (n : Int) := by
  unfold inLen; rw [List.mem_filter, List.mem_range]; simp
theorem mem_ordTo {l : List Int} {s : Nat} : ∀ {n : Nat}, s ∈ ordTo l n ↔ s < l.length ∧ 1 ≤ l.getD s 0 ∧ l.getD s 0 ≤ (n : Int)
  | 0 => by simp [ordTo]; intro _ _; omega
  | n + 1 => by
    rw [ordTo, List.mem_append, mem_ordTo, mem_inLen]
    constructor
    · rintro (⟨h1, h2, h3⟩ | ⟨h1, h2⟩)
      · exact ⟨h1, h2, by omega⟩
      · exact ⟨h1, by omega, by omega⟩
    · rintro ⟨h1, h2, h3⟩
      by_cases h : l.getD s 0 ≤ (n : Int)
      · exact .inl ⟨h1, h2, h⟩
      · exact .inr ⟨h1, by omega⟩
theorem pre_prefix (l : List Int) (n k : Nat) (hk : k ≤ l.length) : ∃ r, ordTo l (n + 1) = pre l n k ++ r := by
  rw [← pre_full]
  have : ∀ d, ∃ r, pre l n (k + d) = pre l n k ++ r := by
    intro d
    induction d with
    | zero => exact ⟨[], by simp⟩
    | succ d ih =>
      obtain ⟨r, hr⟩ := ih
      rw [← Nat.add_assoc, pre_succ]
      split
      · exact ⟨r ++ [k + d], by rw [hr, List.append_assoc]⟩
      · exact ⟨r, hr⟩
  obtain ⟨r, hr⟩ := this (l.length - k)
  exact ⟨r, by rw [← hr]; congr 1; omega⟩
theorem ordTo_prefix (l : List Int) (n : Nat) : ∀ d, ∃ r, ordTo l (n + d) = ordTo l n ++ r
  | 0 => ⟨[], by simp⟩
  | d + 1 => by
    obtain ⟨r, hr⟩ := ordTo_prefix l n d
    exact ⟨r ++ inLen l (n + d + 1) l.length, by rw [← Nat.add_assoc, ordTo, hr, List.append_assoc]⟩
theorem pre_ord (l : List Int) (n k : Nat) (hk : k ≤ l.length) (hn : n < 15) : ∃ r, ord l = pre l n k ++ r := by
  obtain ⟨r, hr⟩ := pre_prefix l n k hk
  obtain ⟨r2, hr2⟩ := ordTo_prefix l (n + 1) (15 - (n + 1))
  refine ⟨r ++ r2, ?_⟩
  rw [← List.append_assoc, ← hr, ← hr2, ord]; congr 1; omega
theorem nodup_inLen (l : List Int) (n k : Nat) : (inLen l n k).Nodup := List.Pairwise.filter _ List.nodup_range
theorem nodup_ordTo (l : List Int) : ∀ n, (ordTo l n).Nodup
  | 0 => List.nodup_nil
  | n + 1 => by
    rw [ordTo, List.nodup_append]
    refine ⟨nodup_ordTo l n, nodup_inLen _ _ _, fun a ha b hb e => ?_⟩
    subst e
    have h1 := (mem_ordTo.1 ha).2.2
    have h2 := (mem_inLen.1 hb).2
    omega
theorem sorted_ordTo (l : List Int) : ∀ n, (ordTo l n).Pairwise fun a b => l.getD a 0 ≤ l.getD b 0
  | 0 => List.Pairwise.nil
  | n + 1 => by
    rw [ordTo, List.pairwise_append]
    refine ⟨sorted_ordTo l n, ?_, fun a ha b hb => ?_⟩
    · refine List.Pairwise.imp_of_mem (R := fun _ _ => True) ?_ (List.pairwise_of_forall (fun _ _ => trivial))
      intro a b ha hb _
      rw [(mem_inLen.1 ha).2, (mem_inLen.1 hb).2]; exact Int.le_refl _
    · have h1 := (mem_ordTo.1 ha).2.2
      have h2 := (mem_inLen.1 hb).2
      omega
theorem ord_len {l : List Int} {s : Nat} (h : s ∈ ord l) : s < l.length ∧ 1 ≤ l.getD s 0 ∧ l.getD s 0 ≤ 15 := mem_ordTo.1 h

theorem cst_snoc (l : List Int) (p : List Nat) (s : Nat) : cst l (p ++ [s]) = stp l (cst l p) s := by unfold cst; rw [List.foldl_append]; rfl
theorem cds_snoc (l : List Int) (p : List Nat) (s : Nat) : cds l (p ++ [s]) = (cds l p).set s ((kp l p / 2 ^ (15 - (l.getD s 0).toNat) : Nat) : Int) := by
  unfold cds; rw [cst_snoc]; rfl
theorem kp_snoc (l : List Int) (p : List Nat) (s : Nat) : kp l (p ++ [s]) = kp l p + kr (l.getD s 0) := by
  unfold kp; rw [cst_snoc]; rfl
theorem length_cds (l : List Int) (p : List Nat) : (cds l p).length = l.length := by
  have : ∀ st : List Int × Nat, st.1.length = l.length → (p.foldl (stp l) st).1.length = l.length := by
    induction p with
    | nil => intro st h; exact h
    | cons s p ih => intro st h; exact ih _ (by simp [stp, h])
  exact this _ (by simp)
theorem kp_eq (l : List Int) (p : List Nat) : kp l p = (p.map fun s => kr (l.getD s 0)).sum := by
  have : ∀ st : List Int × Nat, (p.foldl (stp l) st).2 = st.2 + (p.map fun s => kr (l.getD s 0)).sum := by
    induction p with
    | nil => intro st; simp
    | cons s p ih => intro st; simp only [List.foldl_cons, ih, List.map_cons, List.sum_cons]; unfold stp; simp only; omega
  have h := this (List.replicate l.length 0, 0)
  simpa [kp, cst] using h
theorem was_snoc (l : List Int) (p : List Nat) (s : Nat) : was l (p ++ [s]) = (l.getD s 0).toNat := by simp [was]

/-- Nothing is counted twice. -/
theorem sum_le_of_nodup (f : Nat → Nat) : ∀ (n : Nat) (p : List Nat), p.Nodup → (∀ s ∈ p, s < n) → (p.map f).sum ≤ ((List.range n).map f).sum
  | 0, p, _, h => by
    cases p with
    | nil => simp
    | cons s p => have := h s (by simp); omega
  | n + 1, p, hn, h => by
    have ih := sum_le_of_nodup f n (p.filter fun s => decide (s ≠ n)) (List.Pairwise.filter _ hn) (fun s hs => by
      obtain ⟨h1, h2⟩ := List.mem_filter.1 hs
      have := h s h1
      have h3 : s ≠ n := by simpa using h2
      omega)
    rw [List.range_succ, List.map_append, List.sum_append]
    have key : (p.map f).sum ≤ ((p.filter fun s => decide (s ≠ n)).map f).sum + f n := by
      clear ih h
      induction p with
      | nil => simp
      | cons s p ih =>
        have hd := List.nodup_cons.1 hn
        have := ih hd.2
        by_cases e : s = n
        · subst e
          have : p.filter (fun t => decide (t ≠ s)) = p := List.filter_eq_self.2 (fun t ht => by simp; rintro rfl; exact hd.1 ht)
          rw [List.filter_cons, if_neg (by simp), this]
          simp only [List.map_cons, List.sum_cons]; omega
        · rw [List.filter_cons, if_pos (by simpa using e)]
          simp only [List.map_cons, List.sum_cons]; omega
    simp only [List.map_cons, List.map_nil, List.sum_cons, List.sum_nil, Nat.add_zero]
    omega
theorem range_sum (l : List Int) : ((List.range l.length).map fun s => kr (l.getD s 0)).sum = ksum l := by
  unfold ksum
  congr 1
  apply List.ext_getElem
  · simp
  · intro i h1 h2
    simp only [List.getElem_map, List.getElem_range]
    rw [List.getD_eq_getElem?_getD, List.getElem?_eq_getElem (by simpa using h2)]; rfl
theorem kp_le {l : List Int} {p r : List Nat} (h : ord l = p ++ r) : kp l p ≤ ksum l := by
  rw [kp_eq, ← range_sum]
  have hn : p.Nodup := (List.nodup_append.1 (h ▸ nodup_ordTo l 15 : (p ++ r).Nodup)).1
  exact sum_le_of_nodup _ _ _ hn (fun s hs => (ord_len (h ▸ List.mem_append_left r hs)).1)
theorem next_len {l : List Int} {p r : List Nat} {s : Nat} (h : ord l = p ++ s :: r) : was l p ≤ (l.getD s 0).toNat := by
  unfold was
  cases e : p.getLast? with
  | none => exact Nat.zero_le _
  | some t =>
    have ht : t ∈ p := List.mem_of_getLast? e
    have hs := (List.pairwise_append.1 (h ▸ sorted_ordTo l 15 : (p ++ s :: r).Pairwise fun a b => l.getD a 0 ≤ l.getD b 0)).2.2 t ht s (by simp)
    show (l.getD t 0).toNat ≤ _
    omega
/-- What the symbols take is so many times what the last of them takes. -/
theorem kp_whole {l : List Int} : ∀ {p r : List Nat}, ord l = p ++ r → ∃ c, kp l p = c * 2 ^ (15 - was l p) := by
  intro p
  induction h : p.length generalizing p with
  | zero =>
    intro r _
    have : p = [] := List.eq_nil_of_length_eq_zero h
    subst this
    exact ⟨0, by simp [kp, cst]⟩
  | succ n ih =>
    intro r hr
    rcases List.eq_nil_or_concat p with e | ⟨q, s, e⟩
    · subst e; simp at h
    · subst e
      rw [List.concat_eq_append] at hr h ⊢
      rw [List.append_assoc, List.singleton_append] at hr
      obtain ⟨c, hc⟩ := ih (p := q) (by simp at h; exact h) hr
      have hl := next_len hr
      have hs := ord_len (s := s) (l := l) (by rw [hr]; simp)
      rw [was_snoc, kp_snoc, hc]
      refine ⟨c * 2 ^ ((l.getD s 0).toNat - was l q) + 1, ?_⟩
      have e1 : 15 - was l q = ((l.getD s 0).toNat - was l q) + (15 - (l.getD s 0).toNat) := by omega
      have e2 : kr (l.getD s 0) = 2 ^ (15 - (l.getD s 0).toNat) := by unfold kr; rw [if_pos (by omega)]
      rw [e2, e1, Nat.add_mul, Nat.mul_assoc, ← Nat.pow_add, Nat.one_mul]
/-- The next code: the previous one and 1, shifted. -/
theorem next_code {l : List Int} {p r : List Nat} {s : Nat} (h : ord l = p ++ s :: r) :
    kp l p / 2 ^ (15 - was l p) * 2 ^ ((l.getD s 0).toNat - was l p) = kp l p / 2 ^ (15 - (l.getD s 0).toNat) := by
  obtain ⟨c, hc⟩ := kp_whole h
  have hl := next_len h
  have hs := ord_len (s := s) (l := l) (by rw [h]; simp)
  rw [hc, Nat.mul_div_cancel _ (Nat.two_pow_pos _)]
  have e1 : 15 - was l p = ((l.getD s 0).toNat - was l p) + (15 - (l.getD s 0).toNat) := by omega
  rw [e1, Nat.pow_add, ← Nat.mul_assoc, Nat.mul_div_cancel _ (Nat.two_pow_pos _)]
/-- Behind it: one more. -/
theorem next_more {l : List Int} {p r : List Nat} {s : Nat} (h : ord l = p ++ s :: r) :
    kp l (p ++ [s]) / 2 ^ (15 - was l (p ++ [s])) = kp l p / 2 ^ (15 - (l.getD s 0).toNat) + 1 := by
  have hs := ord_len (s := s) (l := l) (by rw [h]; simp)
  have e2 : kr (l.getD s 0) = 2 ^ (15 - (l.getD s 0).toNat) := by unfold kr; rw [if_pos (by omega)]
  rw [was_snoc, kp_snoc, e2, Nat.add_div_right _ (Nat.two_pow_pos _)]
theorem code_lt {l : List Int} {p r : List Nat} {s : Nat} (h : ord l = p ++ s :: r) (hk : ksum l ≤ 32768) : kp l p / 2 ^ (15 - (l.getD s 0).toNat) < 2 ^ (l.getD s 0).toNat := by
  have hs := ord_len (s := s) (l := l) (by rw [h]; simp)
  have e2 : kr (l.getD s 0) = 2 ^ (15 - (l.getD s 0).toNat) := by unfold kr; rw [if_pos (by omega)]
  have hle := kp_le (l := l) (p := p ++ [s]) (r := r) (by rw [h]; simp)
  rw [kp_snoc, e2] at hle
  have hp := Nat.two_pow_pos (15 - (l.getD s 0).toNat)
  rw [Nat.div_lt_iff_lt_mul hp, ← Nat.pow_add]
  rw [show (l.getD s 0).toNat + (15 - (l.getD s 0).toNat) = 15 from by omega]
  omega
end Go.Proofs.YtjeeiodpdfbgmaaDoor
namespace Go.Proofs.YtjeeiodpdfbgmaaDoor
set_option maxRecDepth 100000
open Go Go.RowKit
/-- Bytes as cells. -/
def cellsOf (l : List UInt8) : List Value := l.map fun x => .int .u8 (x.toNat : Int)
theorem cellsOf_length (l : List UInt8) : (cellsOf l).length = l.length := by simp [cellsOf]
theorem cellsOf_snoc (l : List UInt8) (x : UInt8) : cellsOf (l ++ [x]) = cellsOf l ++ [.int .u8 (x.toNat : Int)] := by simp [cellsOf]
theorem info_u8 : (Tryd.prog.info? 5).map (fun i => (i.zero, i.size, i.bytes)) = some (some (.int .u8 0), 1, 1) := by kernel_rfl

/-- A writer in block b: N bits are laid, the number X; its bytes lie in block og. -/
def WS (w : World) (lo b : Nat) (og : Option Nat) (X N : Nat) : Prop :=
  ∃ (v : Value) (L : List UInt8) (part : Nat), Is w b 82 #[v, .int .i64 part, .int .i64 (N % 8 : Nat)] ∧ w.ownsRow lo 5 1 v L.length (cellsOf L) ∧ v.ownBlock = og ∧
    L.length = N / 8 ∧ num L + 256 ^ L.length * part = X ∧ part < 2 ^ (N % 8)
/-- What has been laid by Bits(v, n). -/
def layN (N : Nat) (n : Int) : Nat := if n < 0 ∨ 24 < n then N else N + n.toNat
def layX (X N : Nat) (v n : Int) : Nat := if n < 0 ∨ 24 < n then X else X + (v % 2 ^ n.toNat).toNat * 2 ^ N

theorem bits_new (w : World) :
    Calls Tryd.prog 24 #[] w fun e w' => e = .returned (.pointer (some ⟨w.heap.size, 0, none⟩)) ∧ w' = w.alloc (.cells #[.slice none 0 0, .int .i64 0, .int .i64 0] 82) := by
  go_enter Tryd.func24, Tryd.ntmps24
  go_wp2
  go_ret
  exact ⟨rfl, rfl⟩
theorem ws_new (w : World) (lo : Nat) : WS (w.alloc (.cells #[.slice none 0 0, .int .i64 0, .int .i64 0] 82)) lo w.heap.size none 0 0 :=
  ⟨.slice none 0 0, [], 0, Is.fresh w _ _, World.ownsRow_nil _ _ _ _, rfl, rfl, by decide, by decide⟩

theorem lay_part (v : Int) (part m u : Nat) (hm : m ≤ 24) (hu : u ≤ 7) (hp : part < 2 ^ u) :
    Go.bits .or .i64 (part : Int) (wrap64 (Go.bits .and .i64 v (wrap64 (wrap64 (2 ^ m) - 1)) * 2 ^ u)) = ((part + (v % 2 ^ m).toNat * 2 ^ u : Nat) : Int) := by
  rw [mask_word m hm, i64_mask v m (by omega)]
  have hpos : (0 : Int) < 2 ^ m := by
    have := Nat.two_pow_pos m
    have e : ((2 : Int) ^ m) = ((2 ^ m : Nat) : Int) := by simp
    omega
  have h0 := Int.emod_nonneg v (show (2 : Int) ^ m ≠ 0 by omega)
  have h1 := Int.emod_lt_of_pos v hpos
  have hm2 : 2 ^ m ≤ 2 ^ 24 := Nat.pow_le_pow_right (by decide) hm
  have e : ((2 : Int) ^ m) = ((2 ^ m : Nat) : Int) := by simp
  have hz : (v % 2 ^ m).toNat < 2 ^ m := by omega
  have ez : v % 2 ^ m = (((v % 2 ^ m).toNat : Nat) : Int) := by omega
  generalize (v % 2 ^ m).toNat = z at *
  rw [ez, int_pow]
  have hu2 : 2 ^ u ≤ 2 ^ 7 := Nat.pow_le_pow_right (by decide) hu
  have hzu : z * 2 ^ u ≤ 2 ^ 24 * 2 ^ 7 := Nat.mul_le_mul (by omega) hu2
  have ew : wrap64 ((z * 2 ^ u : Nat) : Int) = ((z * 2 ^ u : Nat) : Int) := IntWalk.wrap64_in _ ⟨by omega, by omega⟩
  rw [ew]
  exact i64_join _ _ u (by omega) hp (Nat.mul_mod_left z _) (by omega)

/-- The writer in the middle of its loop: j bytes of P have been handed on. -/
def WMid (w w' : World) (lo b : Nat) (og : Option Nat) (X' P k u j : Nat) : Prop :=
  ∃ (v : Value) (L : List UInt8), Is w' b 82 #[v, .int .i64 (P / 256 ^ j : Nat), .int .i64 (u : Nat)] ∧ w'.ownsRow lo 5 1 v L.length (cellsOf L) ∧
    L.length = k + j ∧ num L + 256 ^ L.length * (P / 256 ^ j) = X' ∧ (∀ g, v.ownBlock = some g → og = some g ∨ w.heap.size ≤ g) ∧ But (b :: og.toList) w w'

theorem own_ne {w : World} {base b n size : Nat} {e t : TypeId} {v : Value} {xs : List Value} {cs : Array Value} (h : w.ownsRow base e size v n xs) (hb : Is w b t cs) (hne : e ≠ t) : v.ownBlock ≠ some b := by
  rcases h.2 with ⟨rfl, _⟩ | ⟨g, cap, cur, rfl, _, hh, _⟩
  · simp [Value.ownBlock]
  · intro he
    have he' : g = b := by simpa [Value.ownBlock] using he
    subst he'
    exact Is.ne (w := w) (t := e) hh hb hne rfl

theorem part_lt (v : Int) (part m u V : Nat) (hV : (v % 2 ^ m).toNat = V) (hp : part < 2 ^ u) : part + V * 2 ^ u < 2 ^ (u + m) := by
  have e : ((2 : Int) ^ m) = ((2 ^ m : Nat) : Int) := by simp
  have hpos := Nat.two_pow_pos m
  have h1 := Int.emod_lt_of_pos v (show (0 : Int) < 2 ^ m by omega)
  have hz : V + 1 ≤ 2 ^ m := by omega
  have := Nat.mul_le_mul_right (2 ^ u) hz
  rw [Nat.pow_add, Nat.mul_comm (2 ^ u)]
  rw [Nat.add_mul] at this
  omega
theorem num_step (L : List UInt8) (q : Nat) : num (L ++ [UInt8.ofNat q]) + 256 ^ (L.length + 1) * (q / 256) = num L + 256 ^ L.length * q := by
  have h : (UInt8.ofNat q).toNat = q % 256 := UInt8.toNat_ofNat'
  rw [num_snoc, h, Nat.pow_succ, Nat.add_assoc, Nat.mul_assoc, ← Nat.mul_add]
  congr 2
  omega
theorem wmid_step {w wr w1 : World} {lo b gg cap j q k u P X' : Nat} {og : Option Nat} {v1 : Value} {L1 : List UInt8}
    (hi1 : Is wr b 82 #[v1, .int .i64 (q : Nat), .int .i64 (u : Nat)]) (hl : L1.length = k + j) (hx : num L1 + 256 ^ L1.length * q = X') (hq : q = P / 256 ^ j)
    (hg1 : ∀ g, v1.ownBlock = some g → og = some g ∨ w.heap.size ≤ g) (hb1 : But (b :: og.toList) w wr) (hown1 : wr.ownsRow lo 5 1 v1 L1.length (cellsOf L1))
    (hown2 : w1.ownsRow lo 5 1 (.slice (some ⟨gg, 0, none⟩) (L1.length + 1) cap) (L1.length + 1) (cellsOf L1 ++ [.int .u8 (IntKind.u8.wrap q)]))
    (hgrow : ((wr.alloc (.cells #[.int .u8 (IntKind.u8.wrap q)] 5)).drew).grownBy w1 v1.ownBlock) (hat : v1.ownBlock = some gg ∨ gg = wr.heap.size + 1) :
    WMid w ((w1.setCell ⟨b, 0, none⟩ (.slice (some ⟨gg, 0, none⟩) (L1.length + 1) cap)).setCell ⟨b, 1, none⟩ (.int .i64 ((q : Int) / 256))) lo b og X' P k u (j + 1) := by
  have hne := own_ne hown1 hi1 (by decide)
  have hi2 := ((hi1.alloc (.cells #[.int .u8 (IntKind.u8.wrap q)] 5)).drew).grown hgrow (Ne.symm hne)
  have hne2 := own_ne hown2 hi2 (by decide)
  have hw : IntKind.u8.wrap q = ((UInt8.ofNat q).toNat : Int) := by
    have h : (UInt8.ofNat q).toNat = q % 256 := UInt8.toNat_ofNat'
    rw [h, IntKind.wrap_u8]; omega
  have ho : w1.ownsRow lo 5 1 (.slice (some ⟨gg, 0, none⟩) (L1.length + 1) cap) (L1 ++ [UInt8.ofNat q]).length (cellsOf (L1 ++ [UInt8.ofNat q])) := by
    rw [cellsOf_snoc, ← hw, List.length_append]; exact hown2
  have hS := hb1.size
  have hB := ((hb1.alloc (.cells #[.int .u8 (IntKind.u8.wrap q)] 5)).drew).grown hgrow (fun g e => by
    rcases hg1 g e with h | h
    · subst h; exact .inl (by simp)
    · exact .inr h)
  have e2 : ((q : Int) / 256) = ((q / 256 : Nat) : Int) := by omega
  have e3 : q / 256 = P / 256 ^ (j + 1) := by rw [hq, Nat.pow_succ, Nat.div_div_eq_div_mul]
  rw [e2]
  refine ⟨.slice (some ⟨gg, 0, none⟩) (L1.length + 1) cap, L1 ++ [UInt8.ofNat q], ?_, ?_, ?_, ?_, ?_, ?_⟩
  · rw [← e3]
    simpa using (hi2.put 0 (.slice (some ⟨gg, 0, none⟩) (L1.length + 1) cap)).put 1 (.int .i64 ((q / 256 : Nat) : Int))
  · exact ownsRow_setCell_other (ownsRow_setCell_other ho (a := ⟨b, 0, none⟩) hne2 _) (a := ⟨b, 1, none⟩) hne2 _
  · simp; omega
  · rw [← e3, List.length_append, List.length_singleton, num_step]; exact hx
  · intro g e
    have : gg = g := by simpa [Value.ownBlock] using e
    subst this
    rcases hat with h | h
    · exact hg1 _ h
    · exact .inr (by omega)
  · exact (hB.setCell (p := ⟨b, 0, none⟩) (.inl (by simp)) _).setCell (p := ⟨b, 1, none⟩) (.inl (by simp)) _
theorem ws_final {w' : World} {lo b N X P V m j q part : Nat} {v : Int} {v1 : Value} {L L1 : List UInt8} (hm : m ≤ 24)
    (hlen : L.length = N / 8) (hnum : num L + 256 ^ L.length * part = X) (hV : (v % 2 ^ m).toNat = V) (hP : part + V * 2 ^ (N % 8) = P) (hPlt : P < 2 ^ (N % 8 + m))
    (hj : j = (N % 8 + m) / 8) (hq : q = P / 256 ^ j) (hi1 : Is w' b 82 #[v1, .int .i64 (q : Nat), .int .i64 (N % 8 + m : Nat)]) (hl : L1.length = N / 8 + j)
    (hx : num L1 + 256 ^ L1.length * q = num L + 256 ^ L.length * P) (hown1 : w'.ownsRow lo 5 1 v1 L1.length (cellsOf L1)) :
    WS (w'.setCell ⟨b, 2, none⟩ (.int .i64 (((N : Int) + (m : Int)) % 8))) lo b v1.ownBlock (layX X N v (m : Int)) (layN N (m : Int)) := by
  have h24 : ¬ ((m : Int) < 0 ∨ 24 < (m : Int)) := by omega
  have e1 : layN N (m : Int) = N + m := by unfold layN; rw [if_neg h24]; rfl
  have e2 : layX X N v (m : Int) = X + V * 2 ^ N := by unfold layX; rw [if_neg h24, ← hV]; rfl
  have e3 : (((N : Int) + (m : Int)) % 8) = (((N + m) % 8 : Nat) : Int) := by omega
  rw [e1, e2, e3]
  refine ⟨v1, L1, q, ?_, ?_, rfl, by omega, ?_, ?_⟩
  · simpa using hi1.put 2 (.int .i64 (((N + m) % 8 : Nat) : Int))
  · exact ownsRow_setCell_other hown1 (a := ⟨b, 2, none⟩) (own_ne hown1 hi1 (by decide)) _
  · rw [hx, ← hP, ← hnum, Nat.mul_add, ← Nat.add_assoc, hlen, p256]
    congr 1
    rw [Nat.mul_left_comm, ← Nat.pow_add, show 8 * (N / 8) + N % 8 = N from by omega]
  · rw [hq, hj, p256]
    apply Nat.div_lt_of_lt_mul
    rw [← Nat.pow_add, show 8 * ((N % 8 + m) / 8) + (N + m) % 8 = N % 8 + m from by omega]
    exact hPlt

set_option maxRecDepth 100000 in
theorem WS.bits {w : World} {lo b : Nat} {og : Option Nat} {X N : Nat} (h : WS w lo b og X N) (hlo : lo ≤ w.heap.size) (hN : N ≤ 140737488355328) (v n : Int) :
    Calls Tryd.prog 48 #[.pointer (some ⟨b, 0, none⟩), .int .i64 v, .int .i64 n] w fun e w' => e = .returned (.tuple #[]) ∧
      ∃ og', WS w' lo b og' (layX X N v n) (layN N n) ∧ (∀ g, og' = some g → og = some g ∨ w.heap.size ≤ g) ∧ But (b :: og.toList) w w' := by
  by_cases hn : n < 0 ∨ 24 < n
  · have hx : layX X N v n = X := by unfold layX; rw [if_pos hn]
    have hy : layN N n = N := by unfold layN; rw [if_pos hn]
    rw [hx, hy]
    clear hx hy
    rcases hn with hn | hn
    · go_enter Tryd.func48, Tryd.ntmps48
      go_wp2
      exact bodyPost_ret (results_none rfl _ _ _) rfl ⟨rfl, og, h, fun g e => .inl e, But.refl _ _⟩
    · have hn0 : ¬ n < 0 := by omega
      go_enter Tryd.func48, Tryd.ntmps48
      go_wp2
      exact bodyPost_ret (results_none rfl _ _ _) rfl ⟨rfl, og, h, fun g e => .inl e, But.refl _ _⟩
  · obtain ⟨m, rfl⟩ := Int.eq_ofNat_of_zero_le (show 0 ≤ n by omega)
    have hm : m ≤ 24 := by omega
    obtain ⟨x, L, part, hi, hown, hog, hlen, hnum, hpart⟩ := h
    have h0 : w.cell? ⟨b, 0, none⟩ = some x := hi.cell 0
    have h1 : w.cell? ⟨b, 1, none⟩ = some (.int .i64 part) := hi.cell 1
    have h2 : w.cell? ⟨b, 2, none⟩ = some (.int .i64 (N % 8 : Nat)) := hi.cell 2
    have f0 : w.frozen? ⟨b, 0, none⟩ = false := hi.free 0
    have f1 : w.frozen? ⟨b, 1, none⟩ = false := hi.free 1
    have f2 : w.frozen? ⟨b, 2, none⟩ = false := hi.free 2
    have hn0 : ¬ (m : Int) < 0 := by omega
    have hn1 : ¬ (24 : Int) < (m : Int) := by omega
    go_enter Tryd.func48, Tryd.ntmps48
    go_wp2
    go_region
    have hlp := Lib.hid (lay_part v part m (N % 8) hm (by omega) hpart)
    generalize hV : (v % 2 ^ m).toNat = V at *
    have hPlt : part + V * 2 ^ (N % 8) < 2 ^ (N % 8 + m) := part_lt v part m (N % 8) V hV hpart
    generalize hP : part + V * 2 ^ (N % 8) = P at *
    go_wp2
    go_loopw [46] (fun i wr => ∃ j : Nat, j ≤ (N % 8 + m) / 8 ∧ i = .int .i64 j ∧ WMid w wr lo b og (num L + 256 ^ L.length * P) P (N / 8) (N % 8 + m) j) (fun i _ => (N % 8 + m) / 8 - (intOf i).toNat)
    case atStart =>
      refine ⟨0, Nat.zero_le _, rfl, x, L, ?_, ?_, by omega, by simp, fun g e => .inl (by rw [← hog]; exact e), ?_⟩
      · have e3 : ((N : Int) % 8 + (m : Int)) = ((N % 8 + m : Nat) : Int) := by omega
        rw [hlp.out, e3]
        have := ((hi.put 1 (.int .i64 (P : Int))).put 2 (.int .i64 ((N % 8 + m : Nat) : Int))).drew
        simpa using this
      · exact (ownsRow_setCell_other (ownsRow_setCell_other hown (a := ⟨b, 1, none⟩) (own_ne hown hi (by decide)) _) (a := ⟨b, 2, none⟩) (own_ne hown hi (by decide)) _).drew
      · exact (((But.refl (b :: og.toList) w).setCell (p := ⟨b, 1, none⟩) (.inl (by simp)) _).setCell (p := ⟨b, 2, none⟩) (.inl (by simp)) _).drew
    case round =>
      obtain ⟨j, hj, rfl, v1, L1, hi1, hown1, hl1, hx1, hg1, hb1⟩ := hrel
      obtain ⟨q, hq⟩ : ∃ q, q = P / 256 ^ j := ⟨_, rfl⟩
      rw [← hq] at hi1 hx1
      have HQ := Lib.hid hq
      clear hq
      by_cases hlt : j < (N % 8 + m) / 8
      · have c0 : wr.cell? ⟨b, 0, none⟩ = some v1 := hi1.cell 0
        have c1 : wr.cell? ⟨b, 1, none⟩ = some (.int .i64 (q : Nat)) := hi1.cell 1
        have c2 : wr.cell? ⟨b, 2, none⟩ = some (.int .i64 (N % 8 + m : Nat)) := hi1.cell 2
        have e0 : wr.frozen? ⟨b, 0, none⟩ = false := hi1.free 0
        have e1 : wr.frozen? ⟨b, 1, none⟩ = false := hi1.free 1
        have e2 : wr.frozen? ⟨b, 2, none⟩ = false := hi1.free 2
        have hne : v1.ownBlock ≠ some b := own_ne hown1 hi1 (by decide)
        have hbl : b < wr.heap.size := hi1.lt
        have hsz := hb1.size
        have HI := Lib.hid hi1
        have HX := Lib.hid hx1
        have HL := Lib.hid hl1
        clear hi hi1 h0 h1 h2 f0 f1 f2 hx1 hl1
        obtain ⟨i0, hi0, hz0, hz1, hz2⟩ := info_parts info_u8
        have hlen1 : L1.length + 1 ≤ 140737488355328 := by have := HL.out; omega
        go_wp2
        go_region_law (refine step_append_lies _ (by rfl) _ _ _ (by rfl) lo 5 i0 _ 1 1 Tryd.underlying47 hi0 hz0 hz1 hz2 rfl (by omega) v1 L1.length (cellsOf L1) (by rfl) ((hown1.alloc _).drew) ⟨wr.heap.size, 0, none⟩ 1 1 [.int .u8 (IntKind.u8.wrap q)] (by rfl) (by rfl) (World.news_of_block (cs := #[.int .u8 (IntKind.u8.wrap q)]) (t := 5) (fr := (0, 0)) (heap_alloc_new wr _)) (by simp [Value.oneCell']) (by omega) (by unfold maxLen; omega) (by omega) (by simp; omega) (wr.heap.size + 1) (by simp) ?_; intro gg cap w1 hown2 hgrow hat hlt2; have hi2 := (((HI.out.alloc (.cells #[.int .u8 (IntKind.u8.wrap q)] 5)).drew).grown hgrow (Ne.symm hne)); have g0 : w1.cell? ⟨b, 0, none⟩ = some v1 := hi2.cell 0; have g1 : w1.cell? ⟨b, 1, none⟩ = some (.int .i64 (q : Nat)) := hi2.cell 1; have g2 : w1.frozen? ⟨b, 0, none⟩ = false := hi2.free 0; have g3 : w1.frozen? ⟨b, 1, none⟩ = false := hi2.free 1; have HI2 := Lib.hid hi2; clear hi2)
        all_goals go_wp2
        all_goals go_roundw
        case rel => exact ⟨j + 1, by omega, by go_num, wmid_step HI.out HL.out HX.out HQ.out hg1 hb1 hown1 hown2 hgrow hat⟩
        case measure => simp [intOf]; omega
        case rel => exact ⟨j + 1, by omega, by go_num, wmid_step HI.out HL.out HX.out HQ.out hg1 hb1 hown1 hown2 hgrow hat⟩
        case measure => simp [intOf]; omega
        case rel => exact ⟨j + 1, by omega, by go_num, wmid_step HI.out HL.out HX.out HQ.out hg1 hb1 hown1 hown2 hgrow hat⟩
        case measure => simp [intOf]; omega
      · have c2 : wr.cell? ⟨b, 2, none⟩ = some (.int .i64 (N % 8 + m : Nat)) := hi1.cell 2
        have e2 : wr.frozen? ⟨b, 2, none⟩ = false := hi1.free 2
        have HI := Lib.hid hi1
        have HX := Lib.hid hx1
        have HL := Lib.hid hl1
        clear hi hi1 h0 h1 h2 f0 f1 f2 hx1 hl1
        go_wp2
        go_end0
        have hfin := ws_final (v := v) hm hlen hnum hV hP hPlt (show j = (N % 8 + m) / 8 by omega) HQ.out HI.out HL.out HX.out hown1
        exact ⟨rfl, v1.ownBlock, hfin, hg1, hb1.setCell (.inl (by simp)) _⟩
end Go.Proofs.YtjeeiodpdfbgmaaDoor
namespace Go.Proofs.YtjeeiodpdfbgmaaDoor
set_option maxRecDepth 100000
open Go Go.RowKit
/-- A string appended to bytes that are owned: where the row lies then. -/
theorem run_append_str {P : Program} (w : World) (base : Nat) (t u ty e : TypeId) (i : TypeInfo) (ht : P.underlying t = some (.slice e)) (hu : P.underlying u = some .string) (hi : P.info? e = some i) (hz : i.zero = some (.int .u8 0))
    (hsize : i.size = 1) (hby : i.bytes = 1) (v : Value) (n : Nat) (xs : List Value) (hown : w.ownsRow base e 1 v n xs) (s : ByteArray) (hbound : n + s.size ≤ 140737488355328) (hbase : base ≤ w.heap.size) :
    ∃ v' w', (Builtin.append_ #[t, u] ty #[v, .string s]).run P w = .ok v' w' ∧ w'.ownsRow base e 1 v' (n + s.size) (xs ++ Lib.strCells s) ∧ w.grownBy w' v.ownBlock ∧ (∀ g, v'.ownBlock = some g → v.ownBlock = some g ∨ w.heap.size ≤ g) := by
  obtain ⟨v', w', hr, ho, hg, hn⟩ := Lib.run_append_own_string (P := P) w base t u ty e i ht hu hi hz hsize hby v n xs hown s (by unfold maxLen; omega) hbound hbase
  refine ⟨v', w', hr, ho, hg, fun g eg => ?_⟩
  have hok : ∀ {a : Value} {wa : World}, (Builtin.append_ #[t, u] ty #[v, .string s]).run P w = .ok a wa → v' = a := fun h => (Result.ok.inj (hr.symm.trans h)).1
  rcases hown.2 with ⟨rfl, rfl⟩ | ⟨g0, cap, cur, rfl, hbg, hgc, hnc, hcm, hcs, htake⟩
  · by_cases h0 : s.size = 0
    · rw [hn.2 ⟨rfl, h0⟩] at eg; simp [Value.ownBlock] at eg
    · have h := hok (run_append_nil_string (P := P) w t u ty e i (.int .u8 0) ht hu hi hz s (by omega) (by omega) (by rw [hby]; omega))
      rw [h] at eg
      simp [Value.ownBlock] at eg
      exact .inr (by omega)
  · by_cases hroom : n + s.size ≤ cap
    · have h := hok (Lib.run_append_room_string (P := P) w t u ty e i ht hu hi hsize g0 n cap cur hgc s hroom (by omega))
      rw [h] at eg
      exact .inl eg
    · have holds : ∀ j x, xs[j]? = some x → w.cell? ((⟨g0, 0, none⟩ : Addr).add j) = some x := hown.cells (g := g0) rfl
      have h := hok (Lib.run_append_grow_string (P := P) w t u ty e i (.int .u8 0) ht hu hi hz ⟨g0, 0, none⟩ n cap xs (by rw [hsize]; exact hown.1) holds s (by omega) (by omega) (by rw [hby]; exact growslice_fits (by omega) (by omega)))
      rw [h] at eg
      simp [Value.ownBlock] at eg
      exact .inr (by omega)
theorem own_slice {w : World} {base n size : Nat} {e : TypeId} {v : Value} {xs : List Value} (h : w.ownsRow base e size v n xs) : ∃ A c, v = .slice A n c ∧ n ≤ c := by
  rcases h.2 with ⟨rfl, rfl⟩ | ⟨g, cap, cur, rfl, _, _, hc, _⟩
  · exact ⟨none, 0, rfl, Nat.le_refl _⟩
  · exact ⟨_, cap, rfl, hc⟩
theorem wpList_append_str {P : Program} (w : World) {ops : Array Oper} {rest : List Oper} {o : Oper} {a : Act} {Q : Exit → Act → World → Prop} (hgd : o.guard = none) (sl x : Operand) (t u : TypeId)
    (ho : o.op = .call { callee := .builtin .append, args := #[sl, x], argTypes := #[t, u] })
    (base : Nat) (e : TypeId) (i : TypeInfo) (ht : P.underlying t = some (.slice e)) (hu : P.underlying u = some .string) (hi : P.info? e = some i) (hz : i.zero = some (.int .u8 0))
    (hsize : i.size = 1) (hby : i.bytes = 1) (v : Value) (n : Nat) (xs : List Value) (hs : a.eval sl = v) (hown : w.ownsRow base e 1 v n xs) (s : ByteArray) (hx : a.eval x = .string s)
    (hbound : n + s.size ≤ 140737488355328) (hbase : base ≤ w.heap.size)
    (h : ∀ A c w', w'.ownsRow base e 1 (.slice A (n + s.size) c) (n + s.size) (xs ++ Lib.strCells s) → w.grownBy w' v.ownBlock → (∀ g, (Value.slice A (n + s.size) c).ownBlock = some g → v.ownBlock = some g ∨ w.heap.size ≤ g) → wpList P ops Q rest (a.put o.dst (.slice A (n + s.size) c)) w') : wpList P ops Q (o :: rest) a w := by
  refine wpList_plain hgd fun K hK => ?_
  obtain ⟨v', w', hr, h2, h3, h4⟩ := run_append_str (P := P) w base t u o.type e i ht hu hi hz hsize hby v n xs hown s hbound hbase
  obtain ⟨A, c, rfl, _⟩ := own_slice h2
  unfold Oper.wp execOp
  simp only [ho, resolve, invoke, builtin, Sem.run_bind, Sem.run_pure, Result.andThen_ok, List.map_toArray, List.map_cons, List.map_nil, hs, hx, hr]
  exact hK _ _ (h A c w' h2 h3 h4)

theorem ownsRow_but {w w' : World} {base n size : Nat} {e : TypeId} {v : Value} {xs : List Value} {S : List Nat} (h : w.ownsRow base e size v n xs) (hw : But S w w') (hS : ∀ g, v.ownBlock = some g → g ∉ S) : w'.ownsRow base e size v n xs := by
  obtain ⟨h1, h2⟩ := h
  refine ⟨h1, ?_⟩
  rcases h2 with h2 | ⟨g, cap, cur, rfl, hg, hh, r⟩
  · exact .inl h2
  · have hlt : g < w.heap.size := (Array.getElem?_eq_some_iff.1 hh).1
    exact .inr ⟨g, cap, cur, rfl, hg, (hw.block g hlt (hS g rfl)).trans hh, r⟩
set_option maxRecDepth 100000 in
theorem WS.but {w w' : World} {lo b X N : Nat} {og : Option Nat} {S : List Nat} (h : WS w lo b og X N) (hw : But S w w') (hb : b ∉ S) (hg : ∀ g, og = some g → g ∉ S) : WS w' lo b og X N := by
  obtain ⟨v, L, part, hi, hown, hog, r⟩ := h
  exact ⟨v, L, part, hi.but hw hb, ownsRow_but hown hw (fun g e => hg g (by rw [← hog]; exact e)), hog, r⟩
set_option maxRecDepth 100000 in
theorem WS.lt {w : World} {lo b X N : Nat} {og : Option Nat} (h : WS w lo b og X N) : b < w.heap.size ∧ ∀ g, og = some g → g < w.heap.size ∧ g ≠ b := by
  obtain ⟨v, L, part, hi, hown, hog, r⟩ := h
  refine ⟨hi.lt, fun g e => ?_⟩
  subst hog
  exact ⟨(hown.lt g e).2, fun e2 => own_ne hown hi (by decide) (by rw [e, e2])⟩

theorem own_text {w : World} {base n : Nat} {v : Value} {L : List UInt8} (h : w.ownsRow base 5 1 v n (cellsOf L)) : (convert 47 9 v).run Tryd.prog w = .ok (.string ⟨L.toArray⟩) w := by
  have hl : L.length = n := by have := h.1; rw [cellsOf_length] at this; omega
  rcases h.2 with ⟨rfl, rfl⟩ | ⟨g, cap, cur, rfl, _⟩
  · have : L = [] := List.eq_nil_of_length_eq_zero hl
    subst this
    exact ByteRow.text ⟨rfl, fun h => absurd h (by simp)⟩
  · refine ByteRow.text ⟨hl, fun _ => ⟨g, 0, rfl, fun i hi => ?_⟩⟩
    have hc := h.cells (g := g) rfl i (.int .u8 (L[i].toNat : Int)) (by simp [cellsOf, hi])
    have e2 : (⟨g, 0, none⟩ : Addr).add i = ⟨g, 0 + i, none⟩ := by unfold Addr.add; split <;> simp_all
    rw [e2] at hc
    exact hc
theorem cellsOf_append (a b : List UInt8) : cellsOf (a ++ b) = cellsOf a ++ cellsOf b := by simp [cellsOf]

def bytesN (N : Nat) (s : ByteArray) : Nat := 8 * ((N + 7) / 8) + 8 * s.size
def bytesX (X N : Nat) (s : ByteArray) : Nat := X + num s.data.toList * 2 ^ (8 * ((N + 7) / 8))

set_option maxRecDepth 100000 in
theorem WS.bytes {w : World} {lo b : Nat} {og : Option Nat} {X N : Nat} (h : WS w lo b og X N) (hlo : lo ≤ w.heap.size) (hN : N ≤ 140737488355328) (s : ByteArray) (hs : s.size ≤ 70368744177664) :
    Calls Tryd.prog 49 #[.pointer (some ⟨b, 0, none⟩), .string s] w fun e w' => e = .returned (.tuple #[]) ∧
      ∃ og', WS w' lo b og' (bytesX X N s) (bytesN N s) ∧ (∀ g, og' = some g → og = some g ∨ w.heap.size ≤ g) ∧ But (b :: og.toList) w w' := by
  have h' := h
  obtain ⟨x, L, part, hi, hown, hog, hlen, hnum, hpart⟩ := h'
  have h0 : w.cell? ⟨b, 0, none⟩ = some x := hi.cell 0
  have h2 : w.cell? ⟨b, 2, none⟩ = some (.int .i64 (N % 8 : Nat)) := hi.cell 2
  clear hown hog hlen hnum hpart hi
  go_enter Tryd.func49, Tryd.ntmps49
  go_upto_if 10 with (fail)
  go_cut [] (fun w1 => ∃ og1, WS w1 lo b og1 X (8 * ((N + 7) / 8)) ∧ (∀ g, og1 = some g → og = some g ∨ w.heap.size ≤ g) ∧ But (b :: og.toList) w w1)
  case first =>
    by_cases hu : 0 < N % 8
    · go_wp2_with (go_at_call 48; refine (h.bits hlo hN 0 (8 - (N : Int) % 8)).mono ?_; rintro e w' ⟨rfl, hpost⟩)
      go_meet
      obtain ⟨og1, hW, hf, hB⟩ := hpost
      have e1 : layX X N 0 (8 - (N : Int) % 8) = X := by unfold layX; split <;> simp
      have e2 : layN N (8 - (N : Int) % 8) = 8 * ((N + 7) / 8) := by unfold layN; rw [if_neg (by omega)]; omega
      rw [e1, e2] at hW
      exact ⟨og1, hW, hf, hB⟩
    · go_wp2
      go_meet
      rw [show 8 * ((N + 7) / 8) = N from by omega]
      exact ⟨og, h, fun g e => .inl e, But.refl _ _⟩
  case rest =>
    obtain ⟨og1, hW, hf, hB⟩ := hcut
    clear h0 h2 h
    obtain ⟨x, L, part, hi, hown, hog, hlen, hnum, hpart⟩ := hW
    have h0 : wc.cell? ⟨b, 0, none⟩ = some x := hi.cell 0
    have hsz := hB.size
    have hpart0 : part = 0 := by have e : 8 * ((N + 7) / 8) % 8 = 0 := by omega
                                 rw [e] at hpart; omega
    subst hpart0
    have hne := own_ne hown hi (by decide)
    have hLb : L.length ≤ 17592186044417 := by omega
    have HL := Lib.hid hlen
    have HX := Lib.hid hnum
    have HI := Lib.hid hi
    clear hlen hnum hpart hi
    obtain ⟨i0, hi0, hz0, hz1, hz2⟩ := info_parts info_u8
    go_wp2_with (at_builtin; refine wpList_append_str _ rfl _ _ 47 9 rfl lo 5 i0 Tryd.underlying47 Tryd.underlying9 hi0 hz0 hz1 hz2 x L.length (cellsOf L) rfl hown s rfl (by omega) (by omega) ?_; intro A2 c2 w2 hown2 hgrow hat; have hi2 := HI.out.grown hgrow (Ne.symm hne); have g0 : w2.cell? ⟨b, 0, none⟩ = some x := hi2.cell 0; have g1 : w2.frozen? ⟨b, 0, none⟩ = false := hi2.free 0; have HI2 := Lib.hid hi2; clear hi2)
    go_end0
    have hB2 := (hB.grown hgrow (fun g e => by
      have e1 : og1 = some g := hog ▸ e
      rcases hf g e1 with h | h
      · subst h; exact .inl (by simp)
      · exact .inr h))
    have hpos : 8 * ((N + 7) / 8) / 8 = (N + 7) / 8 := by omega
    refine ⟨rfl, (Value.slice A2 (L.length + s.size) c2).ownBlock, ⟨_, L ++ s.data.toList, 0, ?_, ?_, rfl, ?_, ?_, by unfold bytesN; exact Nat.two_pow_pos _⟩, fun g e => ?_, hB2.setCell (.inl (by simp)) _⟩
    · have e8 : bytesN N s % 8 = 8 * ((N + 7) / 8) % 8 := by unfold bytesN; omega
      rw [e8]
      simpa using HI2.out.put 0 (.slice A2 (L.length + s.size) c2)
    · have ho : w2.ownsRow lo 5 1 (.slice A2 (L.length + s.size) c2) (L ++ s.data.toList).length (cellsOf (L ++ s.data.toList)) := by
        rw [List.length_append, cellsOf_append]
        exact hown2
      exact ownsRow_setCell_other ho (a := ⟨b, 0, none⟩) (own_ne hown2 HI2.out (by decide)) _
    · rw [List.length_append, HL.out]
      unfold bytesN
      have : s.data.toList.length = s.size := Array.length_toList
      omega
    · have hX := HX.out
      unfold bytesX
      rw [num_append, ← hX, HL.out, hpos, p256]
      simp [Nat.mul_comm]
    · rcases hat g e with h | h
      · exact hf g (hog ▸ h)
      · exact .inr (by omega)
end Go.Proofs.YtjeeiodpdfbgmaaDoor
namespace Go.Proofs.YtjeeiodpdfbgmaaDoor
set_option maxRecDepth 100000
open Go Go.RowKit
/-- The text of a writer. -/
def textOf (X N : Nat) : ByteArray := ⟨(bytesOf ((N + 7) / 8) X).toArray⟩
theorem bytes_snoc (L : List UInt8) (y : UInt8) : (⟨L.toArray⟩ ++ ⟨#[y]⟩ : ByteArray) = ⟨(L ++ [y]).toArray⟩ := by
  apply ByteArray.ext; simp
set_option maxRecDepth 100000 in
theorem WS.text {w : World} {lo b : Nat} {og : Option Nat} {X N : Nat} (h : WS w lo b og X N) (hN : N ≤ 140737488355328) :
    Calls Tryd.prog 27 #[.pointer (some ⟨b, 0, none⟩)] w fun e w' => e = .returned (.string (textOf X N)) ∧ But [] w w' := by
  obtain ⟨x, L, part, hi, hown, hog, hlen, hnum, hpart⟩ := h
  have h0 : w.cell? ⟨b, 0, none⟩ = some x := hi.cell 0
  have h1 : w.cell? ⟨b, 1, none⟩ = some (.int .i64 part) := hi.cell 1
  have h2 : w.cell? ⟨b, 2, none⟩ = some (.int .i64 (N % 8 : Nat)) := hi.cell 2
  have hcv := own_text hown
  have hLb : L.length ≤ 17592186044416 := by omega
  have HL := Lib.hid hlen
  have HX := Lib.hid hnum
  clear hi hown hog hlen hnum
  by_cases hu : 0 < N % 8
  · have hp7 : 2 ^ (N % 8) ≤ 2 ^ 7 := Nat.pow_le_pow_right (by decide) (by omega)
    obtain ⟨y, rfl⟩ : ∃ y : UInt8, y.toNat = part := ⟨UInt8.ofNat part, by
      have h : (UInt8.ofNat part).toNat = part % 256 := UInt8.toNat_ofNat'
      omega⟩
    have hylt := y.toNat_lt
    have hcv2 := own_text (L := [y]) (World.ownsRow_lit (base := w.heap.size) (e := 5) (size := 1) w #[.int .u8 (y.toNat : Int)] 1 (Nat.le_refl _) (by unfold maxLen; omega) rfl)
    clear hp7 hpart
    go_enter Tryd.func27, Tryd.ntmps27
    go_wp2
    go_ret
    refine ⟨?_, ((But.refl [] w).alloc _)⟩
    have e : textOf X N = ⟨(L ++ [y]).toArray⟩ := by
      unfold textOf
      rw [← bytesOf_eq (l := L ++ [y]) (k := (N + 7) / 8) (x := X) (by rw [List.length_append, HL.out, List.length_singleton]; omega) (by rw [num_snoc]; exact HX.out)]
    rw [e, ← bytes_snoc]
    rfl
  · have hp0 : part = 0 := by have e : N % 8 = 0 := by omega
                              rw [e] at hpart; omega
    subst hp0
    go_enter Tryd.func27, Tryd.ntmps27
    go_wp2
    go_ret
    refine ⟨?_, But.refl _ _⟩
    have e : textOf X N = ⟨L.toArray⟩ := by
      unfold textOf
      rw [← bytesOf_eq (l := L) (k := (N + 7) / 8) (x := X) (by rw [HL.out]; omega) (by rw [← HX.out]; simp)]
    rw [e]
    rfl
end Go.Proofs.YtjeeiodpdfbgmaaDoor
