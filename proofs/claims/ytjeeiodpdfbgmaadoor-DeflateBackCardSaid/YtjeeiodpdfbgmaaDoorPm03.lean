/- Several texts in one: WriteD, Awake, OrdW, CodesW (what Back, Best, Dynamic, Fixed, Least, Runs, Stored reach of them). -/
import Derived.Test.YtjeeiodpdfbgmaaDoorPm01
import Derived.Test.YtjeeiodpdfbgmaaDoorPm02
import Derived.Below
import Derived.BigQuiet
import Derived.BigRegion
import Derived.Deep.AppendLies
import Derived.Deep.CutRange
import Derived.Deep.DeepCutAuto
import Derived.Deep.Draws
import Derived.Deep.QuietTactic
import Derived.Deep.RegionLaw
import Derived.Deep.Slices
import Derived.Laws.BitsAllLaws
import Derived.Laws.BitsLemmas
import Derived.Laws.IdiomStrings
import Derived.Laws.OwnMore
import Derived.Laws.Rows
import Derived.Lib.AppendStr
import Derived.Lib.Hide
import Derived.Lib.Strings
import Derived.OneCell
import Derived.OpenShut
import Derived.Outline
import Derived.OwnWalk
import Derived.ProofKit
import Derived.RegionTactic
import Derived.StillTailTactics
import Derived.Test.YtjeeiodpdfbgmaaDoorChecked
import Derived.WalkKit
import Derived.WalkLawsBesides
import Derived.WalkSpells
set_option maxRecDepth 100000
set_option linter.unusedVariables false
namespace Go.Proofs.YtjeeiodpdfbgmaaDoor
set_option maxRecDepth 100000
open Go Go.RowKit
/-- The document's writer in block b: N bits are laid, the number X; its bytes lie in block og. -/
def FW (w : World) (lo b : Nat) (og : Option Nat) (X N : Nat) : Prop :=
  ∃ (v : Value) (L : List UInt8), Is w b 49 #[v, .int .i64 (N : Nat)] ∧ w.ownsRow lo 5 1 v L.length (cellsOf L) ∧ v.ownBlock = og ∧ L.length = (N + 7) / 8 ∧ num L = X ∧ X < 2 ^ N
set_option maxRecDepth 100000 in
theorem FW.but {w w' : World} {lo b X N : Nat} {og : Option Nat} {S : List Nat} (h : FW w lo b og X N) (hw : But S w w') (hb : b ∉ S) (hg : ∀ g, og = some g → g ∉ S) : FW w' lo b og X N := by
  obtain ⟨v, L, hi, hown, hog, r⟩ := h
  exact ⟨v, L, hi.but hw hb, ownsRow_but hown hw (fun g e => hg g (by rw [← hog]; exact e)), hog, r⟩
set_option maxRecDepth 100000 in
theorem FW.lt {w : World} {lo b X N : Nat} {og : Option Nat} (h : FW w lo b og X N) : b < w.heap.size ∧ ∀ g, og = some g → g < w.heap.size ∧ g ≠ b := by
  obtain ⟨v, L, hi, hown, hog, r⟩ := h
  refine ⟨hi.lt, fun g e => ?_⟩
  subst hog
  exact ⟨(hown.lt g e).2, fun e2 => own_ne hown hi (by decide) (by rw [e, e2])⟩
set_option maxRecDepth 100000 in
theorem FW.text {w : World} {lo b : Nat} {og : Option Nat} {X N : Nat} (h : FW w lo b og X N) :
    Calls Tryd.prog 30 #[.pointer (some ⟨b, 0, none⟩)] w fun e w' => e = .returned (.string (textOf X N)) ∧ w = w' := by
  obtain ⟨x, L, hi, hown, hog, hlen, hnum, hX⟩ := h
  have h0 : w.cell? ⟨b, 0, none⟩ = some x := hi.cell 0
  have hcv := own_text hown
  have e : textOf X N = ⟨L.toArray⟩ := by
    unfold textOf
    rw [← bytesOf_eq (l := L) hlen hnum]
  rw [e]
  clear hi hown hog hlen hnum hX
  go_enter Tryd.func30, Tryd.ntmps30
  go_wp2
  go_ret
  exact ⟨rfl, rfl⟩

set_option maxRecDepth 100000 in
theorem FW.bytes {w : World} {lo b : Nat} {og : Option Nat} {X N : Nat} (h : FW w lo b og X N) (hlo : lo ≤ w.heap.size) (hN : N ≤ 140737488355328) (s : ByteArray) (hs : s.size ≤ 70368744177664) :
    Calls Tryd.prog 29 #[.pointer (some ⟨b, 0, none⟩), .string s] w fun e w' => e = .returned (.tuple #[]) ∧
      ∃ og', FW w' lo b og' (bytesX X N s) (bytesN N s) ∧ (∀ g, og' = some g → og = some g ∨ w.heap.size ≤ g) ∧ But (b :: og.toList) w w' := by
  obtain ⟨x, L, hi, hown, hog, hlen, hnum, hX⟩ := h
  have h0 : w.cell? ⟨b, 0, none⟩ = some x := hi.cell 0
  have hne := own_ne hown hi (by decide)
  have hLb : L.length ≤ 17592186044417 := by omega
  have HL := Lib.hid hlen
  have HX := Lib.hid hnum
  have HI := Lib.hid hi
  clear hlen hnum hi
  obtain ⟨i0, hi0, hz0, hz1, hz2⟩ := info_parts info_u8
  go_enter Tryd.func29, Tryd.ntmps29
  go_wp2_with (at_builtin; refine wpList_append_str _ rfl _ _ 47 9 rfl lo 5 i0 Tryd.underlying47 Tryd.underlying9 hi0 hz0 hz1 hz2 x L.length (cellsOf L) rfl hown s rfl (by omega) (by omega) ?_; intro A2 c2 w2 hown2 hgrow hat; have hi2 := HI.out.grown hgrow (Ne.symm hne); have g0 : w2.cell? ⟨b, 0, none⟩ = some x := hi2.cell 0; have g1 : w2.frozen? ⟨b, 0, none⟩ = false := hi2.free 0; have g2 : w2.frozen? ⟨b, 1, none⟩ = false := hi2.free 1; have g3 : w2.cell? ⟨b, 1, none⟩ = some (.int .i64 (N : Nat)) := hi2.cell 1; have HI2 := Lib.hid hi2; clear hi2)
  go_end0
  have e8 : (8 * ((L.length : Int) + (s.size : Int))) = ((8 * (L.length + s.size) : Nat) : Int) := by omega
  have eN : bytesN N s = 8 * (L.length + s.size) := by have := HL.out; unfold bytesN; omega
  rw [e8, ← eN]
  have hB2 := ((But.refl (b :: og.toList) w).grown hgrow (fun g e => by
    have e1 : og = some g := hog ▸ e
    subst e1; exact .inl (by simp)))
  have hne2 := own_ne hown2 HI2.out (by decide)
  have hsl : s.data.toList.length = s.size := Array.length_toList
  refine ⟨rfl, (Value.slice A2 (L.length + s.size) c2).ownBlock, ⟨_, L ++ s.data.toList, ?_, ?_, rfl, ?_, ?_, ?_⟩, fun g e => ?_, (hB2.setCell (.inl (by simp)) _).setCell (.inl (by simp)) _⟩
  · simpa using (HI2.out.put 0 (.slice A2 (L.length + s.size) c2)).put 1 (.int .i64 (bytesN N s : Nat))
  · have ho : w2.ownsRow lo 5 1 (.slice A2 (L.length + s.size) c2) (L ++ s.data.toList).length (cellsOf (L ++ s.data.toList)) := by
      rw [List.length_append, cellsOf_append]
      exact hown2
    exact ownsRow_setCell_other (ownsRow_setCell_other ho (a := ⟨b, 0, none⟩) hne2 _) (a := ⟨b, 1, none⟩) hne2 _
  · rw [List.length_append, hsl, eN]; omega
  · unfold bytesX
    rw [num_append, ← HX.out, HL.out, p256, Nat.mul_comm]
  · have hlt := num_lt (L ++ s.data.toList)
    rw [num_append, List.length_append, hsl, p256, p256, ← eN] at hlt
    unfold bytesX
    rw [← HX.out, ← HL.out, Nat.mul_comm (num s.data.toList)]
    exact hlt
  · rcases hat g e with h | h
    · exact .inl (hog ▸ h)
    · exact .inr h

theorem num_set (L : List UInt8) (k : Nat) (h : k < L.length) (y : UInt8) : num (L.set k y) + 256 ^ k * L[k].toNat = num L + 256 ^ k * y.toNat := by
  induction L generalizing k with
  | nil => simp at h
  | cons x L ih =>
    cases k with
    | zero => simp [num]; omega
    | succ k =>
      have hk : k < L.length := by simpa using h
      have := ih k hk
      simp only [List.set_cons_succ, num, List.getElem_cons_succ, Nat.pow_succ]
      have e1 : 256 ^ k * 256 * (L[k]'hk).toNat = 256 * (256 ^ k * (L[k]'hk).toNat) := by rw [Nat.mul_comm (256 ^ k) 256, Nat.mul_assoc]
      have e2 : 256 ^ k * 256 * y.toNat = 256 * (256 ^ k * y.toNat) := by rw [Nat.mul_comm (256 ^ k) 256, Nat.mul_assoc]
      rw [e1, e2]
      omega
theorem i64_and_one (v : Int) : Go.bits .and .i64 v 1 = v % 2 := i64_mask v 1 (by decide)
theorem or_bit (old z r : Nat) (hr : r ≤ 7) (ho : old < 2 ^ r) (hz : z < 2) : Go.bits .or .u8 (old : Int) (IntKind.u8.wrap (IntKind.u8.wrap (z : Int) * 2 ^ r)) = ((old + z * 2 ^ r : Nat) : Int) := by
  have h7 : 2 ^ r ≤ 2 ^ 7 := Nat.pow_le_pow_right (by decide) hr
  have hzr : z * 2 ^ r ≤ 1 * 2 ^ 7 := Nat.mul_le_mul (by omega) h7
  have e1 : IntKind.u8.wrap (z : Int) = (z : Int) := by rw [IntKind.wrap_u8]; omega
  have e2 : IntKind.u8.wrap ((z * 2 ^ r : Nat) : Int) = ((z * 2 ^ r : Nat) : Int) := by rw [IntKind.wrap_u8]; omega
  rw [e1, int_pow, e2, u8_or_nat _ _ (by omega) (by omega), Nat.or_comm, nat_join r _ _ (Nat.mul_mod_left z _) ho, Nat.add_comm]

/-- The document's writer with room for one bit: the block g of its bytes, of which the last one is M/8. -/
def FMid (w w1 : World) (lo b g c : Nat) (og : Option Nat) (X M : Nat) (L : List UInt8) : Prop :=
  Is w1 b 49 #[.slice (some ⟨g, 0, none⟩) L.length c, .int .i64 (M : Nat)] ∧ w1.ownsRow lo 5 1 (.slice (some ⟨g, 0, none⟩) L.length c) L.length (cellsOf L) ∧
    L.length = M / 8 + 1 ∧ num L = X ∧ X < 2 ^ M ∧ (og = some g ∨ w.heap.size ≤ g) ∧ But (b :: og.toList) w w1

theorem own_cell {w : World} {base n g c k : Nat} {e : TypeId} {L : List UInt8} (h : w.ownsRow base e 1 (.slice (some ⟨g, 0, none⟩) n c) n (cellsOf L)) (hk : k < L.length) : w.cell? ⟨g, k, none⟩ = some (.int .u8 ((L[k]'hk).toNat : Int)) := by
  have hl := h.1
  rw [cellsOf_length] at hl
  rw [h.cellAt k (by omega)]
  simp [cellsOf, hk]
theorem FMid.drew {w w1 : World} {lo b g c X M : Nat} {og : Option Nat} {L : List UInt8} (h : FMid w w1 lo b g c og X M L) : FMid w w1.drew lo b g c og X M L := by
  obtain ⟨h1, h2, h3, h4, h5, h6, h7⟩ := h
  exact ⟨h1.drew, h2.drew, h3, h4, h5, h6, h7.drew⟩
theorem fmid_grow {w wr w1 : World} {lo b g c X M : Nat} {og og1 : Option Nat} {x : Value} {L : List UInt8} (h8 : M % 8 = 0) (hX : X < 2 ^ M) (hog : x.ownBlock = og1)
    (hf : ∀ g, og1 = some g → og = some g ∨ w.heap.size ≤ g) (hB : But (b :: og.toList) w wr) (hi : Is wr b 49 #[x, .int .i64 (M : Nat)]) (hnum : num L = X) (hlen : L.length = (M + 7) / 8)
    (hown : wr.ownsRow lo 5 1 x L.length (cellsOf L)) (hown2 : w1.ownsRow lo 5 1 (.slice (some ⟨g, 0, none⟩) (L.length + 1) c) (L.length + 1) (cellsOf L ++ [.int .u8 0]))
    (hgrow : (wr.alloc (.cells #[.int .u8 0] 5)).grownBy w1 x.ownBlock) (hat : x.ownBlock = some g ∨ g = wr.heap.size + 1) :
    FMid w (w1.setCell ⟨b, 0, none⟩ (.slice (some ⟨g, 0, none⟩) (L.length + 1) c)) lo b g c og X M (L ++ [0]) := by
  have hne := own_ne hown hi (by decide)
  have hi2 := (hi.alloc (.cells #[.int .u8 0] 5)).grown hgrow (Ne.symm hne)
  have hne2 := own_ne hown2 hi2 (by decide)
  have hS := hB.size
  have hB2 := (hB.alloc (.cells #[.int .u8 0] 5)).grown hgrow (fun k e => by
    rcases hf k (hog ▸ e) with h | h
    · subst h; exact .inl (by simp)
    · exact .inr h)
  have e1 : (L ++ [0]).length = L.length + 1 := by simp
  refine ⟨?_, ?_, by rw [e1]; omega, by rw [num_snoc]; simpa using hnum, hX, ?_, hB2.setCell (.inl (by simp)) _⟩
  · rw [e1]; simpa using hi2.put 0 (.slice (some ⟨g, 0, none⟩) (L.length + 1) c)
  · rw [e1, cellsOf_snoc]; exact ownsRow_setCell_other hown2 (a := ⟨b, 0, none⟩) hne2 _
  · rcases hat with h | h
    · exact hf g (hog ▸ h)
    · exact .inr (by omega)

theorem or_bit' (old z r : Nat) (hr : r ≤ 7) (ho : old < 2 ^ r) (hz : z < 2) : Go.bits .or .u8 (old : Int) ((z : Int) % 256 * 2 ^ r % 256) = ((old + z * 2 ^ r : Nat) : Int) := by
  have h := or_bit old z r hr ho hz
  rw [IntKind.wrap_u8, IntKind.wrap_u8] at h
  exact h
theorem emod_step (v : Int) (j : Nat) : (v % 2 ^ (j + 1)).toNat = (v % 2 ^ j).toNat + (v / 2 ^ j % 2).toNat * 2 ^ j := by
  have e : ((2 : Int) ^ j) = ((2 ^ j : Nat) : Int) := by simp
  have e1 : ((2 : Int) ^ (j + 1)) = ((2 ^ j : Nat) : Int) * 2 := by rw [Int.pow_succ, e]
  have hpos := Nat.two_pow_pos j
  rw [e1, e]
  generalize 2 ^ j = P at *
  have h1 := Int.emod_add_mul_ediv v (P : Int)
  have h2 := Int.emod_nonneg v (show (P : Int) ≠ 0 by omega)
  have h3 := Int.emod_lt_of_pos v (show (0 : Int) < (P : Int) by omega)
  generalize hr : v % (P : Int) = r at *
  generalize hq : v / (P : Int) = q at *
  have h4 := Int.emod_add_mul_ediv q 2
  have h5 : q % 2 = 0 ∨ q % 2 = 1 := by omega
  generalize q % 2 = z at *
  generalize q / 2 = q2 at *
  have hv : v = (r + P * z) + P * 2 * q2 := by rw [← h1, ← h4, Int.mul_add, ← Int.mul_assoc, Int.add_assoc]
  have hzP : (P : Int) * z = 0 ∨ (P : Int) * z = P := by rcases h5 with h | h <;> subst h <;> simp
  have hb : v % (P * 2) = r + P * z := by
    rw [hv, Int.add_mul_emod_self_left]
    exact Int.emod_eq_of_lt (by omega) (by omega)
  rw [hb]
  rcases h5 with h | h
  · subst h; simp
  · subst h; simp; omega
theorem fmid_step {w W : World} {lo b g c X0 M N j : Nat} {og : Option Nat} {L : List UInt8} {v : Int} {y : UInt8} (hM : N + j = M)
    (hi : Is W b 49 #[.slice (some ⟨g, 0, none⟩) L.length c, .int .i64 (M : Nat)]) (ho : W.ownsRow lo 5 1 (.slice (some ⟨g, 0, none⟩) L.length c) L.length (cellsOf L))
    (hl : L.length = M / 8 + 1) (hn : num L = X0 + (v % 2 ^ j).toNat * 2 ^ N) (hx : X0 + (v % 2 ^ j).toNat * 2 ^ N < 2 ^ M) (hg : og = some g ∨ w.heap.size ≤ g) (hB : But (b :: og.toList) w W)
    (hk : M / 8 < L.length) (hy : L[M / 8] = y) :
    ∃ og1, FW ((W.setCell ⟨g, M / 8, none⟩ (.int .u8 (Go.bits .or .u8 (y.toNat : Int) (Go.bits .and .i64 (v / 2 ^ j) 1 % 256 * 2 ^ (M % 8) % 256)))).setCell ⟨b, 1, none⟩ (.int .i64 ((M : Int) + 1))) lo b og1 (X0 + (v % 2 ^ (j + 1)).toNat * 2 ^ N) (N + (j + 1)) ∧
      (∀ g, og1 = some g → og = some g ∨ w.heap.size ≤ g) ∧
      But (b :: og.toList) w ((W.setCell ⟨g, M / 8, none⟩ (.int .u8 (Go.bits .or .u8 (y.toNat : Int) (Go.bits .and .i64 (v / 2 ^ j) 1 % 256 * 2 ^ (M % 8) % 256)))).setCell ⟨b, 1, none⟩ (.int .i64 ((M : Int) + 1))) := by
  have hold : y.toNat < 2 ^ (M % 8) := by
    rw [← hy, num_get L (M / 8) hk, hn, p256]
    refine Nat.lt_of_le_of_lt (Nat.mod_le _ _) ?_
    apply Nat.div_lt_of_lt_mul
    rw [← Nat.pow_add, show 8 * (M / 8) + M % 8 = M from by omega]
    exact hx
  have hz : (v / 2 ^ j % 2).toNat < 2 := by omega
  have ez : v / 2 ^ j % 2 = (((v / 2 ^ j % 2).toNat : Nat) : Int) := by omega
  have hstep := emod_step v j
  have h7 : 2 ^ (M % 8) ≤ 2 ^ 7 := Nat.pow_le_pow_right (by decide) (by omega)
  rw [i64_and_one, ez, hstep]
  generalize (v / 2 ^ j % 2).toNat = z at *
  rw [or_bit' y.toNat z (M % 8) (by omega) hold hz]
  have hzr : z * 2 ^ (M % 8) ≤ 1 * 2 ^ (M % 8) := Nat.mul_le_mul_right _ (by omega)
  have hby : (UInt8.ofNat (y.toNat + z * 2 ^ (M % 8))).toNat = y.toNat + z * 2 ^ (M % 8) := by
    have h : (UInt8.ofNat (y.toNat + z * 2 ^ (M % 8))).toNat = (y.toNat + z * 2 ^ (M % 8)) % 256 := UInt8.toNat_ofNat'
    omega
  have hgb : g ≠ b := fun e => own_ne ho hi (by decide) (by rw [e]; rfl)
  have hst := (ho.stored (M / 8) (.int .u8 ((y.toNat + z * 2 ^ (M % 8) : Nat) : Int))).1
  have hnum : num (L.set (M / 8) (UInt8.ofNat (y.toNat + z * 2 ^ (M % 8)))) = num L + z * 2 ^ M := by
    have h := num_set L (M / 8) hk (UInt8.ofNat (y.toNat + z * 2 ^ (M % 8)))
    rw [hby, hy, Nat.mul_add, p256] at h
    have e : 2 ^ (8 * (M / 8)) * (z * 2 ^ (M % 8)) = z * 2 ^ M := by
      rw [Nat.mul_left_comm, ← Nat.pow_add, show 8 * (M / 8) + M % 8 = M from by omega]
    omega
  have hX' : X0 + ((v % 2 ^ j).toNat + z * 2 ^ j) * 2 ^ N = num L + z * 2 ^ M := by
    rw [hn, Nat.add_mul, Nat.mul_assoc, ← Nat.pow_add, show j + N = M from by omega, Nat.add_assoc]
  have e1 : ((M : Int) + 1) = ((M + 1 : Nat) : Int) := by omega
  have hB1 : But (b :: og.toList) w ((W.setCell ⟨g, M / 8, none⟩ (.int .u8 ((y.toNat + z * 2 ^ (M % 8) : Nat) : Int))).setCell ⟨b, 1, none⟩ (.int .i64 ((M : Int) + 1))) :=
    (hB.setCell (p := ⟨g, M / 8, none⟩) (hg.elim (fun h => .inl (by subst h; simp)) .inr) _).setCell (p := ⟨b, 1, none⟩) (.inl (by simp)) _
  refine ⟨some g, ⟨.slice (some ⟨g, 0, none⟩) L.length c, L.set (M / 8) (UInt8.ofNat (y.toNat + z * 2 ^ (M % 8))), ?_, ?_, rfl, ?_, ?_, ?_⟩, fun k e => ?_, hB1⟩
  · rw [show N + (j + 1) = M + 1 from by omega, e1]
    have h := (hi.far (p := ⟨g, M / 8, none⟩) (Ne.symm hgb) (.int .u8 ((y.toNat + z * 2 ^ (M % 8) : Nat) : Int))).put 1 (.int .i64 ((M + 1 : Nat) : Int))
    simpa using h
  · have ec : cellsOf (L.set (M / 8) (UInt8.ofNat (y.toNat + z * 2 ^ (M % 8)))) = (cellsOf L).set (M / 8) (.int .u8 ((y.toNat + z * 2 ^ (M % 8) : Nat) : Int)) := by
      unfold cellsOf; rw [List.map_set, hby]
    rw [ec, List.length_set]
    exact ownsRow_setCell_other hst (a := ⟨b, 1, none⟩) (by simp [Value.ownBlock]; exact hgb) _
  · rw [List.length_set]; omega
  · rw [hnum, hX']
  · rw [hX', show N + (j + 1) = M + 1 from by omega, Nat.pow_succ, hn]
    have : z * 2 ^ M ≤ 1 * 2 ^ M := Nat.mul_le_mul_right _ (by omega)
    omega
  · have : g = k := by simpa using e
    subst this; exact hg

set_option maxHeartbeats 1000000 in
set_option maxRecDepth 100000 in
theorem FW.bits {w : World} {lo b : Nat} {og : Option Nat} {X N : Nat} (h : FW w lo b og X N) (hlo : lo ≤ w.heap.size) (hN : N ≤ 140737488355328) (v n : Int) :
    Calls Tryd.prog 28 #[.pointer (some ⟨b, 0, none⟩), .int .i64 v, .int .i64 n] w fun e w' => e = .returned (.tuple #[]) ∧
      ∃ og', FW w' lo b og' (layX X N v n) (layN N n) ∧ (∀ g, og' = some g → og = some g ∨ w.heap.size ≤ g) ∧ But (b :: og.toList) w w' := by
  by_cases hn : n < 0 ∨ 24 < n
  · have hx : layX X N v n = X := by unfold layX; rw [if_pos hn]
    have hy : layN N n = N := by unfold layN; rw [if_pos hn]
    rw [hx, hy]
    clear hx hy
    rcases hn with hn | hn
    · go_enter Tryd.func28, Tryd.ntmps28
      go_wp2
      exact bodyPost_ret (results_none rfl _ _ _) rfl ⟨rfl, og, h, fun g e => .inl e, But.refl _ _⟩
    · have hn0 : ¬ n < 0 := by omega
      go_enter Tryd.func28, Tryd.ntmps28
      go_wp2
      exact bodyPost_ret (results_none rfl _ _ _) rfl ⟨rfl, og, h, fun g e => .inl e, But.refl _ _⟩
  · obtain ⟨m, rfl⟩ := Int.eq_ofNat_of_zero_le (show 0 ≤ n by omega)
    have hm : m ≤ 24 := by omega
    have d1 : decide ((m : Int) < 0) = false := by simp
    have d2 : decide ((24 : Int) < (m : Int)) = false := by simp; omega
    have hx : layX X N v (m : Int) = X + (v % 2 ^ m).toNat * 2 ^ N := by unfold layX; rw [if_neg hn]; rfl
    have hy : layN N (m : Int) = N + m := by unfold layN; rw [if_neg hn]; rfl
    rw [hx, hy]
    clear hx hy hn
    obtain ⟨i0, hi0, hz0, hz1, hz2⟩ := info_parts info_u8
    go_enter Tryd.func28, Tryd.ntmps28
    go_wp2
    go_loopw [6] (fun i wr => ∃ j : Nat, j ≤ m ∧ i = .int .i64 j ∧ ∃ og1, FW wr lo b og1 (X + (v % 2 ^ j).toNat * 2 ^ N) (N + j) ∧ (∀ g, og1 = some g → og = some g ∨ w.heap.size ≤ g) ∧ But (b :: og.toList) w wr) (fun i _ => m - (intOf i).toNat)
    case atStart => exact ⟨0, Nat.zero_le _, rfl, og, by simpa using h, fun g e => .inl e, But.refl _ _⟩
    case round =>
      obtain ⟨j, hj, rfl, og1, hF, hf, hB⟩ := hrel
      by_cases hlt : j < m
      · generalize hM : N + j = M at *
        have HM := Lib.hid hM
        have hMb : M ≤ 140737488355400 := by omega
        clear hM h
        have hmid : ∃ (x : Value) (L : List UInt8), Is wr b 49 #[x, .int .i64 (M : Nat)] ∧ wr.ownsRow lo 5 1 x L.length (cellsOf L) ∧ x.ownBlock = og1 ∧ L.length = (M + 7) / 8 ∧ num L = X + (v % 2 ^ j).toNat * 2 ^ N ∧ X + (v % 2 ^ j).toNat * 2 ^ N < 2 ^ M := hF
        clear hF
        obtain ⟨x, L, hi, hown, hog, hlen, hnum, hX⟩ := hmid
        have hbl : b < wr.heap.size := hi.lt
        have hsz := hB.size
        have h1 : wr.cell? ⟨b, 1, none⟩ = some (.int .i64 (M : Nat)) := hi.cell 1
        have f0 : wr.frozen? ⟨b, 0, none⟩ = false := hi.free 0
        have f1 : wr.frozen? ⟨b, 1, none⟩ = false := hi.free 1
        have hne := own_ne hown hi (by decide)
        have hLb : L.length ≤ 17592186044500 := by omega
        have HI := Lib.hid hi
        have HX := Lib.hid hnum
        have HL := Lib.hid hlen
        clear hnum hlen
        by_cases h8 : M % 8 = 0
        case' pos =>
          have h0 : wr.cell? ⟨b, 0, none⟩ = some x := hi.cell 0
          have t8 : ((M : Int) % 8 == 0) = true := by rw [beq_iff_eq]; omega
          clear hi
          go_wp2_with (at_builtin; refine wpList_append_lies _ rfl _ _ _ rfl lo 5 i0 _ 1 1 Tryd.underlying47 hi0 hz0 hz1 hz2 rfl (by omega) x L.length (cellsOf L) rfl (hown.alloc _) ⟨wr.heap.size, 0, none⟩ 1 1 [.int .u8 0] rfl rfl (cell_one_new _ _ _) (by simp [Value.oneCell']) (by omega) (by unfold maxLen; omega) (by omega) (by simp; omega) (wr.heap.size + 1) (by simp) ?_; intro g c w1 hown2 hgrow hat hlt2; have hi2 := ((HI.out.alloc (.cells #[.int .u8 0] 5)).grown hgrow (Ne.symm hne)); have g0 : w1.cell? ⟨b, 0, none⟩ = some x := hi2.cell 0; have g1 : w1.cell? ⟨b, 1, none⟩ = some (.int .i64 (M : Nat)) := hi2.cell 1; have g2 : w1.frozen? ⟨b, 0, none⟩ = false := hi2.free 0; have g3 : w1.frozen? ⟨b, 1, none⟩ = false := hi2.free 1; have HI2 := Lib.hid hi2; clear hi2)
          have hF := fmid_grow h8 hX hog hf hB HI.out HX.out HL.out hown hown2 hgrow hat
          clear g0 g1 g2 g3 h0 h1 f0 f1 hown hown2 hgrow hat HI2 hog hf HI HX HL hne hLb hlt2 t8 h8
          generalize w1.setCell ⟨b, 0, none⟩ (.slice (some ⟨g, 0, none⟩) (L.length + 1) c) = W at *
          generalize L ++ [0] = L' at *
        case' neg =>
          have t8 : ((M : Int) % 8 == 0) = false := by rw [beq_eq_false_iff_ne]; omega
          have hpos : 0 < L.length := by have := HL.out; omega
          obtain ⟨g, c, rfl, _, hlt2⟩ := hown.form hpos
          have h0 : wr.cell? ⟨b, 0, none⟩ = some (.slice (some ⟨g, 0, none⟩) L.length c) := hi.cell 0
          clear hi
          go_wp2_with fail
          have hF : FMid w wr lo b g c og (X + (v % 2 ^ j).toNat * 2 ^ N) M L := ⟨HI.out, hown, by have := HL.out; omega, HX.out, hX, hf g (hog ▸ rfl), hB⟩
          clear h0 h1 f0 f1 hown hog hf HI HX HL hne hLb hlt2 t8 h8 hpos
          generalize hLL : L = L' at *
          generalize hWW : wr = W at *
        all_goals
          obtain ⟨hi3, ho3, hl3, hn3, hx3, hg3, hb3⟩ := hF.drew
          refine wp_region_still_tail 33 (by kernel_rfl) (by kernel_rfl) ?_
          simp only [List.take_succ_cons, List.take_zero, List.drop_succ_cons, List.drop_zero]
          change wpStill _ _ W.drew (fun a' => wpList _ _ _ _ a' W.drew) _ _
          generalize W.drew = W at *
          have c0 : W.cell? ⟨b, 0, none⟩ = some (.slice (some ⟨g, 0, none⟩) L'.length c) := hi3.cell 0
          have c1 : W.cell? ⟨b, 1, none⟩ = some (.int .i64 (M : Nat)) := hi3.cell 1
          have e1 : W.frozen? ⟨b, 1, none⟩ = false := hi3.free 1
          have hk : M / 8 < L'.length := by omega
          have ce : W.cell? ⟨g, M / 8, none⟩ = some (.int .u8 ((L'[M / 8]'hk).toNat : Int)) := own_cell ho3 hk
          have ef : W.frozen? ⟨g, M / 8, none⟩ = false := ho3.frozenAt _
          have hgb : g ≠ b := fun e => own_ne ho3 hi3 (by decide) (by rw [e]; rfl)
          have HI3 := Lib.hid hi3
          have HL3 := Lib.hid hl3
          have HN3 := Lib.hid hn3
          have hidx : (M : Int) / 8 < (L'.length : Int) := by omega
          have hidx0 : 0 ≤ (M : Int) / 8 := by omega
          clear hi3 hl3 hn3
          generalize hy : L'[M / 8] = y at *
          have q1 : IntKind.i64.wrap ((M : Int) / 8) = (M : Int) / 8 := IntWalk.i64_in _ (by omega)
          have q2 : ((M : Int) / 8).toNat = M / 8 := by omega
          have q3 : 0 ≤ (M : Int) % 8 := by omega
          have q4 : IntKind.i64.wrap ((M : Int) % 8) = (M : Int) % 8 := IntWalk.i64_in _ (by omega)
          have q5 : ((M : Int) % 8).toNat = M % 8 := by omega
          have q6 : min (M % 8) 8 = M % 8 := by omega
          have q7 : (M : Int).tmod 8 = (M : Int) % 8 := Int.tmod_eq_emod_of_nonneg (by omega)
          repeat still_step
          refine wpStill_nil ?_
          clear q1 q2 q3 q4 q5 q6 q7
          go_wp2
          go_roundw
          case rel => exact ⟨j + 1, by omega, by go_num, fmid_step HM.out HI3.out ho3 HL3.out HN3.out hx3 hg3 hb3 hk hy⟩
          case measure => simp [intOf]; omega
      · obtain rfl : j = m := by omega
        clear h
        go_wp2
        go_end0
        exact ⟨rfl, og1, hF, hf, hB⟩
end Go.Proofs.YtjeeiodpdfbgmaaDoor
namespace Go.Proofs.YtjeeiodpdfbgmaaDoor
set_option maxRecDepth 100000
open Go Go.RowKit
theorem But.fresh {w w1 w2 : World} {S : List Nat} (h : But [] w w1) (k : But S w1 w2) (hS : ∀ i ∈ S, w.heap.size ≤ i) : But [] w w2 :=
  ⟨k.os.trans h.os, k.tape.trans h.tape, k.output.trans h.output, Nat.le_trans h.size k.size, fun i hi _ =>
    (k.block i (Nat.lt_of_lt_of_le hi h.size) (fun e => by have := hS i e; omega)).trans (h.block i hi (by simp))⟩
theorem But.belowNew {w w' : World} (h : But [] w w') : Below w.heap.size w w' := ⟨h.os, h.tape, h.output, h.size, fun k hk => h.block k hk (by simp)⟩
theorem new_at (w : World) (lo H : Nat) (hH : w.heap.size = H) :
    Calls Tryd.prog 24 #[] w fun e w' => e = .returned (.pointer (some ⟨H, 0, none⟩)) ∧ WS w' lo H none 0 0 ∧ But [] w w' ∧ w'.heap.size = H + 1 := by
  subst hH
  refine (bits_new w).mono ?_
  rintro e w' ⟨rfl, rfl⟩
  exact ⟨rfl, ws_new w lo, (But.refl [] w).alloc _, by simp⟩
end Go.Proofs.YtjeeiodpdfbgmaaDoor
namespace Go.Proofs.YtjeeiodpdfbgmaaDoor
set_option maxRecDepth 100000
open Go Go.RowKit
/-- A slice of numbers of the call's own. -/
def OwnI (w : World) (base : Nat) (v : Value) (l : List Int) : Prop := w.ownsRow base 3 1 v l.length (l.map (.int .i64))
theorem info_int : (Tryd.prog.info? 3).map (fun i => (i.zero, i.size, i.bytes)) = some (some (.int .i64 0), 1, 8) := by kernel_rfl
theorem OwnI.open {w : World} {base : Nat} {v : Value} {l : List Int} (h : OwnI w base v l) : ∃ A c, v = .slice A l.length c ∧ Ints w A l.length l ∧ (∀ a, A = some a → v.ownBlock = some a.block) := by
  unfold OwnI at h
  rcases h.2 with ⟨rfl, e⟩ | ⟨g, cap, cur, rfl, hg, hh, r⟩
  · have : l = [] := by cases l with
      | nil => rfl
      | cons x l => simp at e
    subst this
    exact ⟨none, 0, rfl, ⟨rfl, fun h => absurd h (by simp)⟩, by simp⟩
  · refine ⟨some ⟨g, 0, none⟩, cap, rfl, ⟨rfl, fun hn => ⟨g, 0, rfl, (h.lt g rfl).2, fun i hi => ?_⟩⟩, by simp [Value.ownBlock]⟩
    have hc := h.cells (g := g) rfl i (.int .i64 l[i]) (by simp [hi])
    rw [Go.WideShapes.add_plain] at hc
    exact hc
theorem OwnI.nil (w : World) (base : Nat) : OwnI w base (.slice none 0 0) [] := World.ownsRow_nil _ _ _ _
theorem OwnI.but {w w' : World} {base : Nat} {v : Value} {l : List Int} (h : OwnI w base v l) {S : List Nat} (hw : But S w w') (hS : ∀ k ∈ S, v.ownBlock ≠ some k) : OwnI w' base v l := by
  unfold OwnI at h ⊢
  refine ⟨h.1, ?_⟩
  rcases h.2 with h2 | ⟨g, cap, cur, hv, hg, hh, r⟩
  · exact .inl h2
  · refine .inr ⟨g, cap, cur, hv, hg, ?_, r⟩
    have hlt : g < w.heap.size := (h.lt g (by rw [hv]; rfl)).2
    rw [hw.block g hlt (fun hk => hS g hk (by rw [hv]; rfl))]
    exact hh

theorem OwnI.pushed {w wr w' : World} {v v' : Value} {L : List Int} {x : Int} (hB : But [] w wr) (hO : OwnI wr w.heap.size v L)
    (h1 : w'.ownsRow w.heap.size 3 1 v' (L.length + 1) (L.map (.int .i64) ++ [.int .i64 x])) (hg : (wr.alloc (.cells #[.int .i64 x] 3)).grownBy w' v.ownBlock) :
    OwnI w' w.heap.size v' (L ++ [x]) ∧ But [] w w' := by
  refine ⟨?_, (hB.alloc _).grown hg (fun g e => .inr (hO.lt g e).1)⟩
  unfold OwnI
  rw [List.length_append, List.map_append]
  exact h1
theorem nats_snoc (p : List Nat) (s : Nat) : (p ++ [s]).map (fun s : Nat => (s : Int)) = p.map (fun s : Nat => (s : Int)) ++ [(s : Int)] := by simp

set_option maxRecDepth 100000 in
theorem ordered_any {w : World} {A : Option Addr} {len cap : Nat} {l : List Int} (hl : Ints w A len l) (h288 : len ≤ 288) :
    Calls Tryd.prog 88 #[.slice A len cap] w fun e w' => ∃ v, e = .returned v ∧ OwnI w' w.heap.size v ((ord l).map fun s : Nat => (s : Int)) ∧ But [] w w' := by
  obtain ⟨i0, hi0, hz0, hz1, hz2⟩ := info_parts info_int
  have hlen := hl.1
  have hp : ∀ n k, k ≤ len → n < 15 → (pre l n k).length ≤ 288 := fun n k hk hn => by
    obtain ⟨r, hr⟩ := pre_ord l n k (by omega) hn
    have hnd : (pre l n k).Nodup := (List.nodup_append.1 (hr ▸ nodup_ordTo l 15 : (pre l n k ++ r).Nodup)).1
    have := sum_le_of_nodup (fun _ => 1) len (pre l n k) hnd (fun s hs => by
      have := (ord_len (l := l) (s := s) (hr ▸ List.mem_append_left r hs)).1; omega)
    simp only [List.map_const', List.sum_replicate_nat, List.length_range, Nat.mul_one] at this
    omega
  have HP := Lib.hid hp
  clear hp
  go_enter Tryd.func88, Tryd.ntmps88
  go_wp2
  go_loopw [3, 4] (fun v n wr => ∃ m : Nat, m ≤ 15 ∧ n = .int .i64 ((m : Int) + 1) ∧ OwnI wr w.heap.size v ((ordTo l m).map fun s : Nat => (s : Int)) ∧ But [] w wr) (fun _ n _ => 16 - (intOf n).toNat)
  case atStart => exact ⟨0, by omega, rfl, OwnI.nil _ _, But.refl _ _⟩
  case round =>
    obtain ⟨m, hm, rfl, ho, hb⟩ := hrel
    by_cases hlt : m < 15
    · obtain ⟨wo, rfl⟩ : ∃ wo : World, wo = wr := ⟨_, rfl⟩
      have t15 : decide ((m : Int) + 1 ≤ 15) = true := by simp; omega
      go_wp2
      have hlo := hl.but hb (by simp)
      go_loopw [3, 13] (fun v i wr => ∃ k : Nat, k ≤ len ∧ i = .int .i64 k ∧ OwnI wr w.heap.size v ((pre l m k).map fun s : Nat => (s : Int)) ∧ But [] w wr) (fun _ i _ => len - (intOf i).toNat)
      case atStart => exact ⟨0, Nat.zero_le _, rfl, by rw [pre_zero]; exact ho, hb⟩
      case round =>
        clear ho hb hlo
        obtain ⟨k, hk, rfl, ho, hb⟩ := hrel
        by_cases hlt2 : k < len
        · obtain ⟨g, o, rfl, hg, hc⟩ := (hl.but hb (by simp)).at hlt2
          have hgd : l.getD k 0 = l[k]'(by omega) := by rw [List.getD_eq_getElem?_getD, List.getElem?_eq_getElem (by omega)]; rfl
          have hps := pre_succ l m k
          rw [hgd] at hps
          have HPS := Lib.hid hps
          clear hps hgd
          generalize l[k]'(by omega) = x at *
          have hlp := HP.out m k hk hlt
          clear hlen
          by_cases he : x = (m : Int) + 1
          · subst he
            have hpe : pre l m (k + 1) = pre l m k ++ [k] := by rw [HPS.out, if_pos (by omega)]
            have HPE := Lib.hid hpe
            have hB0 := hb.alloc (.cells #[.int .i64 (k : Int)] 3)
            have HO := Lib.hid ho
            have HB := Lib.hid hb
            have hsz := hb.size
            have hpl : ((pre l m k).map fun s : Nat => (s : Int)).length ≤ 288 := by rw [List.length_map]; exact hlp
            obtain ⟨L, hL⟩ : ∃ L, L = (pre l m k).map (fun s : Nat => (s : Int)) := ⟨_, rfl⟩
            rw [← hL] at ho HO hpl
            have HL := Lib.hid hL.symm
            clear hL
            clear hpe ho hb hlp
            go_wp2_with (at_builtin; refine wpList_append_own _ rfl _ _ 22 rfl w.heap.size 3 i0 (.int .i64 0) 1 8 Tryd.underlying22 hi0 hz0 hz1 hz2 rfl (by decide) _ L.length (L.map (.int .i64)) rfl (HO.out.alloc _) ⟨wr.heap.size, 0, none⟩ 1 1 [.int .i64 (k : Int)] rfl rfl ?c1 ?c2 ?c3 ?c4 ?c5 ?_)
            case c1 => exact World.news_of_block (cs := #[.int .i64 (k : Int)]) (t := 3) (fr := (0, 0)) (heap_alloc_new wr _)
            case c2 => simp [Value.oneCell']
            case c3 => unfold maxLen; omega
            case c4 => omega
            case c5 => simp; omega
            intro v' w1 hown1 hgrow _
            have HN := Lib.hid (OwnI.pushed HB.out HO.out hown1 hgrow)
            clear hown1 hgrow
            go_wp2
            go_roundw
            case rel => exact ⟨k + 1, by omega, by go_num, by rw [HPE.out, nats_snoc, HL.out]; exact HN.out.1, HN.out.2⟩
            case measure => simp [intOf]; omega
          · have hpe : pre l m (k + 1) = pre l m k := by rw [HPS.out, if_neg (by omega)]
            have HPE := Lib.hid hpe
            have he2 : (x == (m : Int) + 1) = false := by simp; omega
            clear hpe he
            go_wp2
            go_roundw
            case rel => exact ⟨k + 1, by omega, by go_num, by rw [HPE.out]; exact ho, hb⟩
            case measure => simp [intOf]; omega
        · obtain rfl : k = len := by omega
          rw [← hlen, pre_full] at ho
          go_wp2
          go_roundw
          case rel => exact ⟨m + 1, by omega, by go_num, ho, hb⟩
          case measure => simp [intOf]; omega
    · obtain rfl : m = 15 := by omega
      go_wp2
      go_ret
      exact ⟨_, rfl, ho, hb⟩
end Go.Proofs.YtjeeiodpdfbgmaaDoor
namespace Go.Proofs.YtjeeiodpdfbgmaaDoor
set_option maxRecDepth 100000
open Go Go.RowKit
theorem made_ints (n : Nat) : (madeCells (Value.int .i64 0).cells (n * 1)).toList = (List.replicate n (0 : Int)).map (.int .i64) := by
  have e : (Value.int .i64 0).cells = #[.int .i64 0] := rfl
  rw [e, toList_madeCells_one, Nat.mul_one, List.map_replicate]
theorem OwnI.made {w1 : World} {base n : Nat} {v : Value} (h : w1.ownsRow base 3 1 v n (madeCells (Value.int .i64 0).cells (n * 1)).toList) : OwnI w1 base v (List.replicate n 0) := by
  rw [made_ints] at h; unfold OwnI; rw [List.length_replicate]; exact h
theorem OwnI.len {w : World} {base n c : Nat} {a : Addr} {l : List Int} (h : OwnI w base (.slice (some a) n c) l) : n = l.length := by
  unfold OwnI at h
  rcases h.2 with ⟨e, _⟩ | ⟨g, cap, cur, e, _⟩
  · cases e
  · injection e
theorem OwnI.set {w : World} {base g n c : Nat} {l : List Int} (h : OwnI w base (.slice (some ⟨g, 0, none⟩) n c) l) (j : Nat) (x : Int) :
    OwnI (w.setCell ⟨g, j, none⟩ (.int .i64 x)) base (.slice (some ⟨g, 0, none⟩) n c) (l.set j x) := by
  obtain rfl := h.len
  unfold OwnI at h ⊢
  have hs := (h.stored j (.int .i64 x)).1
  rw [List.length_set, List.map_set]; exact hs
theorem OwnI.cell {w : World} {base g n c : Nat} {l : List Int} (h : OwnI w base (.slice (some ⟨g, 0, none⟩) n c) l) {j : Nat} (hj : j < l.length) :
    w.cell? ⟨g, j, none⟩ = some (.int .i64 l[j]) := by
  have hc := World.ownsRow.cells h (g := g) rfl j (.int .i64 l[j]) (by simp [hj])
  rw [Go.WideShapes.add_plain, Nat.zero_add] at hc
  exact hc
theorem OwnI.free {w : World} {base g n c : Nat} {l : List Int} (h : OwnI w base (.slice (some ⟨g, 0, none⟩) n c) l) (j : Nat) : w.frozen? ⟨g, j, none⟩ = false := by
  obtain rfl := h.len
  exact World.ownsRow.frozenAt h _

theorem OwnI.ints {w : World} {base g c n : Nat} {l : List Int} (h : OwnI w base (.slice (some ⟨g, 0, none⟩) n c) l) : Ints w (some ⟨g, 0, none⟩) n l := by
  obtain rfl := h.len
  exact ⟨rfl, fun _ => ⟨g, 0, rfl, (World.ownsRow.lt h g rfl).2, fun i hi => by rw [Nat.zero_add]; exact h.cell hi⟩⟩

theorem cds_zero (l : List Int) : cds l [] = List.replicate l.length 0 := rfl

set_option maxRecDepth 100000 in
set_option maxHeartbeats 200000 in
theorem codesOf_any {w : World} {A B : Option Addr} {len cap m cap2 : Nat} {l : List Int} (hl : Ints w A len l) (ho : Ints w B m ((ord l).map fun s : Nat => (s : Int))) (h288 : len ≤ 288) (hk : ksum l ≤ 32768) :
    Calls Tryd.prog 89 #[.slice A len cap, .slice B m cap2] w fun e w' => e = .returned (.slice (some ⟨w.heap.size, 0, none⟩) len len) ∧ OwnI w' w.heap.size (.slice (some ⟨w.heap.size, 0, none⟩) len len) (codes l) ∧ But [] w w' := by
  obtain ⟨i0, hi0, hz0, hz1, hz2⟩ := info_parts info_int
  have hlen := hl.1
  have hom := ho.1
  rw [List.length_map] at hom
  have hm288 : m ≤ 288 := by
    have := sum_le_of_nodup (fun _ => 1) len (ord l) (nodup_ordTo l 15) (fun s hs => by have := (ord_len hs).1; omega)
    simp only [List.map_const', List.sum_replicate_nat, List.length_range, Nat.mul_one] at this
    omega
  go_enter Tryd.func89, Tryd.ntmps89
  go_wp2_with (at_make; refine wpList_make_full _ rfl _ _ 22 rfl w.heap.size 3 i0 _ 1 Tryd.underlying22 hi0 hz0 hz1 _ _ _ _ len rfl rfl (by omega) (by omega) (by rw [hz2]; omega) (by unfold maxLen; omega) (by simp) ?_; intro w1 hown hgrow)
  have hO1 := OwnI.made hown
  have hB1 : But [] w w1 := (But.refl [] w).grown hgrow (by simp)
  clear hown hgrow
  go_loopw [6, 7, 15] (fun nx la i wr => ∃ j : Nat, j ≤ m ∧ i = .int .i64 j ∧ nx = .int .i64 (kp l ((ord l).take j) / 2 ^ (15 - was l ((ord l).take j)) : Nat) ∧ la = .int .i64 (was l ((ord l).take j)) ∧
    OwnI wr w.heap.size (.slice (some ⟨w.heap.size, 0, none⟩) len len) (cds l ((ord l).take j)) ∧ But [] w wr) (fun _ _ i _ => m - (intOf i).toNat)
  case atStart => exact ⟨0, Nat.zero_le _, rfl, by simp [kp, cst], rfl, by rw [List.take_zero, cds_zero, hlen]; exact hO1, hB1⟩
  case round =>
    obtain ⟨j, hj, rfl, rfl, rfl, hO, hB⟩ := hrel
    clear hO1 hB1
    by_cases hlt : j < m
    · have hsp : ord l = (ord l).take j ++ (ord l)[j]'(by omega) :: (ord l).drop (j + 1) := by
        rw [List.getElem_cons_drop, List.take_append_drop]
      have hts : (ord l).take (j + 1) = (ord l).take j ++ [(ord l)[j]'(by omega)] := List.take_succ_eq_append_getElem (by omega)
      obtain ⟨g, o, rfl, hg, hc⟩ := ho.at hlt
      replace hc := hB.cell hc (by simp)
      rw [List.getElem_map] at hc
      have hsl := ord_len (List.getElem_mem (show j < (ord l).length by omega))
      generalize (ord l)[j]'(by omega) = s at *
      obtain ⟨g2, o2, rfl, hg2, hc2⟩ := hl.at (show s < len by omega)
      replace hc2 := hB.cell hc2 (by simp)
      have hgd : l.getD s 0 = l[s]'(by omega) := by rw [List.getD_eq_getElem?_getD, List.getElem?_eq_getElem (by omega)]; rfl
      have h1 := next_len hsp
      have h2 := next_code hsp
      have h3 := next_more hsp
      have h4 := code_lt hsp hk
      have h5 := cds_snoc l ((ord l).take j) s
      have h6 := was_snoc l ((ord l).take j) s
      have hlc := length_cds l ((ord l).take j)
      rw [← hts] at h3 h5 h6
      clear hsp hts
      obtain ⟨n, hn⟩ : ∃ n, n = (l.getD s 0).toNat := ⟨_, rfl⟩
      have hln : l[s]'(by omega) = (n : Int) := by rw [← hgd]; omega
      rw [hln] at hc2
      rw [← hn] at h1 h2 h3 h4 h5 h6
      have hn15 : n ≤ 15 := by omega
      clear hln hgd
      have H3 := Lib.hid h3
      have H5 := Lib.hid h5
      have H6 := Lib.hid h6
      clear h3 h5 h6 hn
      generalize hW : was l ((ord l).take j) = W at *
      generalize hK : kp l ((ord l).take j) = K at *
      clear hW hK
      have hce := hO.cell (show s < (cds l ((ord l).take j)).length by omega)
      have hcf := hO.free s
      generalize (cds l ((ord l).take j))[s]'_ = cv at hce
      have hp15 : 2 ^ n ≤ 2 ^ 15 := Nat.pow_le_pow_right (by decide) hn15
      have hc15 : K / 2 ^ (15 - n) < 32768 := Nat.lt_of_lt_of_le h4 hp15
      obtain ⟨d, hd⟩ : ∃ d, d = n - W := ⟨_, rfl⟩
      have hd15 : d ≤ 15 := by omega
      have esub : IntKind.i64.wrap ((n : Int) - (W : Int)) = (d : Int) := by rw [IntKind.wrap_i64]; omega
      have esub2 : (n : Int) - (W : Int) = (d : Int) := by omega
      have d0 : 0 ≤ (n : Int) - (W : Int) := by omega
      rw [← hd] at h2
      generalize K / 2 ^ (15 - n) = c at *
      generalize K / 2 ^ (15 - W) = a at *
      have hsh : (a : Int) * 2 ^ d = (c : Int) := by rw [← h2]; simp
      have s0 : 0 ≤ (s : Int) := by omega
      have sl : (s : Int) < (len : Int) := by omega
      clear h2 hp15 h4 hd h1 hsl hk
      have HO := Lib.hid hO
      have HB := Lib.hid hB
      clear hO hB
      have hlen' : l.length ≤ 288 := by omega
      clear hlc hlen hom
      go_wp2
      go_roundw
      case rel =>
        refine ⟨j + 1, by omega, by go_num, by rw [H3.out]; go_num, by rw [H6.out], ?_, HB.out.setCell (.inr (Nat.le_refl _)) _⟩
        rw [H5.out]
        exact HO.out.set s _
      case measure => simp [intOf]; omega
    · obtain rfl : j = m := by omega
      rw [List.take_of_length_le (by omega)] at hO
      go_wp2
      go_ret
      exact ⟨rfl, hO, hB⟩

/-- The order lies in memory of its own. -/
theorem ordered_new {w : World} {A : Option Addr} {len cap : Nat} {l : List Int} (hl : Ints w A len l) (h288 : len ≤ 288) :
    Calls Tryd.prog 88 #[.slice A len cap] w fun e w' => ∃ B c, e = .returned (.slice B (ord l).length c) ∧ Ints w' B (ord l).length ((ord l).map fun s : Nat => (s : Int)) ∧ But [] w w' ∧ (∀ a, B = some a → w.heap.size ≤ a.block) := by
  refine (ordered_any hl h288).mono ?_
  rintro e w1 ⟨v, rfl, hO, hB⟩
  obtain ⟨B, c, rfl, hI, hb⟩ := hO.open
  rw [List.length_map] at hI ⊢
  exact ⟨B, c, rfl, hI, hB, fun a e => (World.ownsRow.lt hO _ (hb a e)).1⟩
end Go.Proofs.YtjeeiodpdfbgmaaDoor
