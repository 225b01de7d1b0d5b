/- The contracts of the writers of bits. -/
import Derived.Test.YtobmghjpfkdooaaDoorMa
import Derived.Deep.RegionLaw
import Derived.Deep.AppendLies
import Derived.Deep.CutRange
import Derived.BigRegion
import Derived.OwnWalk
import Derived.OneCell
namespace Go.Proofs.YtobmghjpfkdooaaDoor
set_option maxRecDepth 100000
open Go Go.RowKit

/-- Bytes as cells. -/
def cellsOf (l : List UInt8) : List Value := l.map fun x => .int .u8 (x.toNat : Int)
theorem cellsOf_length (l : List UInt8) : (cellsOf l).length = l.length := by simp [cellsOf]
theorem cellsOf_snoc (l : List UInt8) (x : UInt8) : cellsOf (l ++ [x]) = cellsOf l ++ [.int .u8 (x.toNat : Int)] := by simp [cellsOf]
theorem info_u8 : (Tryd.prog.info? 5).map (fun i => (i.zero, i.size, i.bytes)) = some (some (.int .u8 0), 1, 1) := by kernel_rfl

/-- A writer in block b: N bits are laid, the number X; its bytes lie in block og. -/
def WS (w : World) (lo b : Nat) (og : Option Nat) (X N : Nat) : Prop :=
  ∃ (v : Value) (L : List UInt8) (part : Nat), Is w b 132 #[v, .int .i64 part, .int .i64 (N % 8 : Nat)] ∧ w.ownsRow lo 5 1 v L.length (cellsOf L) ∧ v.ownBlock = og ∧
    L.length = N / 8 ∧ num L + 256 ^ L.length * part = X ∧ part < 2 ^ (N % 8)
/-- What has been laid by Bits(v, n). -/
def layN (N : Nat) (n : Int) : Nat := if n < 0 ∨ 24 < n then N else N + n.toNat
def layX (X N : Nat) (v n : Int) : Nat := if n < 0 ∨ 24 < n then X else X + (v % 2 ^ n.toNat).toNat * 2 ^ N

theorem ws_new (w : World) (lo : Nat) : WS (w.alloc (.cells #[.slice none 0 0, .int .i64 0, .int .i64 0] 132)) lo w.heap.size none 0 0 :=
  ⟨.slice none 0 0, [], 0, Is.fresh w _ _, World.ownsRow_nil _ _ _ _, rfl, rfl, by decide, by decide⟩

theorem lay_part (v : Int) (part m u : Nat) (hm : m ≤ 24) (hu : u ≤ 7) (hp : part < 2 ^ u) :
    Go.bits .or .i64 (part : Int) (wrap64 (Go.bits .and .i64 v (wrap64 (wrap64 (2 ^ m) - 1)) * 2 ^ u)) = ((part + (v % 2 ^ m).toNat * 2 ^ u : Nat) : Int) := by
  rw [mask_word m hm, i64_mask v m (by omega)]
  have hpos : (0 : Int) < 2 ^ m := by
    have := Nat.two_pow_pos m
    have e : ((2 : Int) ^ m) = ((2 ^ m : Nat) : Int) := by simp
    omega
  have h0 := Int.emod_nonneg v (show (2 : Int) ^ m ≠ 0 by omega)
  have h1 := Int.emod_lt_of_pos v hpos
  have hm2 : 2 ^ m ≤ 2 ^ 24 := Nat.pow_le_pow_right (by decide) hm
  have e : ((2 : Int) ^ m) = ((2 ^ m : Nat) : Int) := by simp
  have hz : (v % 2 ^ m).toNat < 2 ^ m := by omega
  have ez : v % 2 ^ m = (((v % 2 ^ m).toNat : Nat) : Int) := by omega
  generalize (v % 2 ^ m).toNat = z at *
  rw [ez, int_pow]
  have hu2 : 2 ^ u ≤ 2 ^ 7 := Nat.pow_le_pow_right (by decide) hu
  have hzu : z * 2 ^ u ≤ 2 ^ 24 * 2 ^ 7 := Nat.mul_le_mul (by omega) hu2
  have ew : wrap64 ((z * 2 ^ u : Nat) : Int) = ((z * 2 ^ u : Nat) : Int) := IntWalk.wrap64_in _ ⟨by omega, by omega⟩
  rw [ew]
  exact i64_join _ _ u (by omega) hp (Nat.mul_mod_left z _) (by omega)

/-- The writer in the middle of its loop: j bytes of P have been handed on. -/
def WMid (w w' : World) (lo b : Nat) (og : Option Nat) (X' P k u j : Nat) : Prop :=
  ∃ (v : Value) (L : List UInt8), Is w' b 132 #[v, .int .i64 (P / 256 ^ j : Nat), .int .i64 (u : Nat)] ∧ w'.ownsRow lo 5 1 v L.length (cellsOf L) ∧
    L.length = k + j ∧ num L + 256 ^ L.length * (P / 256 ^ j) = X' ∧ (∀ g, v.ownBlock = some g → og = some g ∨ w.heap.size ≤ g) ∧ But (b :: og.toList) w w'

theorem own_ne {w : World} {base b n size : Nat} {e t : TypeId} {v : Value} {xs : List Value} {cs : Array Value} (h : w.ownsRow base e size v n xs) (hb : Is w b t cs) (hne : e ≠ t) : v.ownBlock ≠ some b := by
  rcases h.2 with ⟨rfl, _⟩ | ⟨g, cap, cur, rfl, _, hh, _⟩
  · simp [Value.ownBlock]
  · intro he
    have he' : g = b := by simpa [Value.ownBlock] using he
    subst he'
    exact Is.ne (w := w) (t := e) hh hb hne rfl

theorem part_lt (v : Int) (part m u V : Nat) (hV : (v % 2 ^ m).toNat = V) (hp : part < 2 ^ u) : part + V * 2 ^ u < 2 ^ (u + m) := by
  have e : ((2 : Int) ^ m) = ((2 ^ m : Nat) : Int) := by simp
  have hpos := Nat.two_pow_pos m
  have h1 := Int.emod_lt_of_pos v (show (0 : Int) < 2 ^ m by omega)
  have hz : V + 1 ≤ 2 ^ m := by omega
  have := Nat.mul_le_mul_right (2 ^ u) hz
  rw [Nat.pow_add, Nat.mul_comm (2 ^ u)]
  rw [Nat.add_mul] at this
  omega
theorem num_step (L : List UInt8) (q : Nat) : num (L ++ [UInt8.ofNat q]) + 256 ^ (L.length + 1) * (q / 256) = num L + 256 ^ L.length * q := by
  have h : (UInt8.ofNat q).toNat = q % 256 := UInt8.toNat_ofNat'
  rw [num_snoc, h, Nat.pow_succ, Nat.add_assoc, Nat.mul_assoc, ← Nat.mul_add]
  congr 2
  omega
theorem wmid_step {w wr w1 : World} {lo b gg cap j q k u P X' : Nat} {og : Option Nat} {v1 : Value} {L1 : List UInt8}
    (hi1 : Is wr b 132 #[v1, .int .i64 (q : Nat), .int .i64 (u : Nat)]) (hl : L1.length = k + j) (hx : num L1 + 256 ^ L1.length * q = X') (hq : q = P / 256 ^ j)
    (hg1 : ∀ g, v1.ownBlock = some g → og = some g ∨ w.heap.size ≤ g) (hb1 : But (b :: og.toList) w wr) (hown1 : wr.ownsRow lo 5 1 v1 L1.length (cellsOf L1))
    (hown2 : w1.ownsRow lo 5 1 (.slice (some ⟨gg, 0, none⟩) (L1.length + 1) cap) (L1.length + 1) (cellsOf L1 ++ [.int .u8 (IntKind.u8.wrap q)]))
    (hgrow : ((wr.alloc (.cells #[.int .u8 (IntKind.u8.wrap q)] 5)).drew).grownBy w1 v1.ownBlock) (hat : v1.ownBlock = some gg ∨ gg = wr.heap.size + 1) :
    WMid w ((w1.setCell ⟨b, 0, none⟩ (.slice (some ⟨gg, 0, none⟩) (L1.length + 1) cap)).setCell ⟨b, 1, none⟩ (.int .i64 ((q : Int) / 256))) lo b og X' P k u (j + 1) := by
  have hne := own_ne hown1 hi1 (by decide)
  have hi2 := ((hi1.alloc (.cells #[.int .u8 (IntKind.u8.wrap q)] 5)).drew).grown hgrow (Ne.symm hne)
  have hne2 := own_ne hown2 hi2 (by decide)
  have hw : IntKind.u8.wrap q = ((UInt8.ofNat q).toNat : Int) := by
    have h : (UInt8.ofNat q).toNat = q % 256 := UInt8.toNat_ofNat'
    rw [h, IntKind.wrap_u8]; omega
  have ho : w1.ownsRow lo 5 1 (.slice (some ⟨gg, 0, none⟩) (L1.length + 1) cap) (L1 ++ [UInt8.ofNat q]).length (cellsOf (L1 ++ [UInt8.ofNat q])) := by
    rw [cellsOf_snoc, ← hw, List.length_append]; exact hown2
  have hS := hb1.size
  have hB := ((hb1.alloc (.cells #[.int .u8 (IntKind.u8.wrap q)] 5)).drew).grown hgrow (fun g e => by
    rcases hg1 g e with h | h
    · subst h; exact .inl (by simp)
    · exact .inr h)
  have e2 : ((q : Int) / 256) = ((q / 256 : Nat) : Int) := by omega
  have e3 : q / 256 = P / 256 ^ (j + 1) := by rw [hq, Nat.pow_succ, Nat.div_div_eq_div_mul]
  rw [e2]
  refine ⟨.slice (some ⟨gg, 0, none⟩) (L1.length + 1) cap, L1 ++ [UInt8.ofNat q], ?_, ?_, ?_, ?_, ?_, ?_⟩
  · rw [← e3]
    simpa using (hi2.put 0 (.slice (some ⟨gg, 0, none⟩) (L1.length + 1) cap)).put 1 (.int .i64 ((q / 256 : Nat) : Int))
  · exact ownsRow_setCell_other (ownsRow_setCell_other ho (a := ⟨b, 0, none⟩) hne2 _) (a := ⟨b, 1, none⟩) hne2 _
  · simp; omega
  · rw [← e3, List.length_append, List.length_singleton, num_step]; exact hx
  · intro g e
    have : gg = g := by simpa [Value.ownBlock] using e
    subst this
    rcases hat with h | h
    · exact hg1 _ h
    · exact .inr (by omega)
  · exact (hB.setCell (p := ⟨b, 0, none⟩) (.inl (by simp)) _).setCell (p := ⟨b, 1, none⟩) (.inl (by simp)) _
theorem ws_final {w' : World} {lo b N X P V m j q part : Nat} {v : Int} {v1 : Value} {L L1 : List UInt8} (hm : m ≤ 24)
    (hlen : L.length = N / 8) (hnum : num L + 256 ^ L.length * part = X) (hV : (v % 2 ^ m).toNat = V) (hP : part + V * 2 ^ (N % 8) = P) (hPlt : P < 2 ^ (N % 8 + m))
    (hj : j = (N % 8 + m) / 8) (hq : q = P / 256 ^ j) (hi1 : Is w' b 132 #[v1, .int .i64 (q : Nat), .int .i64 (N % 8 + m : Nat)]) (hl : L1.length = N / 8 + j)
    (hx : num L1 + 256 ^ L1.length * q = num L + 256 ^ L.length * P) (hown1 : w'.ownsRow lo 5 1 v1 L1.length (cellsOf L1)) :
    WS (w'.setCell ⟨b, 2, none⟩ (.int .i64 (((N : Int) + (m : Int)) % 8))) lo b v1.ownBlock (layX X N v (m : Int)) (layN N (m : Int)) := by
  have h24 : ¬ ((m : Int) < 0 ∨ 24 < (m : Int)) := by omega
  have e1 : layN N (m : Int) = N + m := by unfold layN; rw [if_neg h24]; rfl
  have e2 : layX X N v (m : Int) = X + V * 2 ^ N := by unfold layX; rw [if_neg h24, ← hV]; rfl
  have e3 : (((N : Int) + (m : Int)) % 8) = (((N + m) % 8 : Nat) : Int) := by omega
  rw [e1, e2, e3]
  refine ⟨v1, L1, q, ?_, ?_, rfl, by omega, ?_, ?_⟩
  · simpa using hi1.put 2 (.int .i64 (((N + m) % 8 : Nat) : Int))
  · exact ownsRow_setCell_other hown1 (a := ⟨b, 2, none⟩) (own_ne hown1 hi1 (by decide)) _
  · rw [hx, ← hP, ← hnum, Nat.mul_add, ← Nat.add_assoc, hlen, p256]
    congr 1
    rw [Nat.mul_left_comm, ← Nat.pow_add, show 8 * (N / 8) + N % 8 = N from by omega]
  · rw [hq, hj, p256]
    apply Nat.div_lt_of_lt_mul
    rw [← Nat.pow_add, show 8 * ((N % 8 + m) / 8) + (N + m) % 8 = N % 8 + m from by omega]
    exact hPlt

end Go.Proofs.YtobmghjpfkdooaaDoor
