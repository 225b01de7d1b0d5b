/- Several texts in one: Writer, WriteB, WriteC, WriteD, Awake (what Unwraps, Wraps reach of them). -/
import Derived.Test.YtghegmbafbpnjaaGreatDoorPm01
import Derived.Below
import Derived.BigQuiet
import Derived.BigRegion
import Derived.Deep.AppendLies
import Derived.Deep.CutRange
import Derived.Deep.DeepCutAuto
import Derived.Deep.Draws
import Derived.Deep.QuietTactic
import Derived.Deep.RegionLaw
import Derived.Laws.BitsAllLaws
import Derived.Laws.BitsLemmas
import Derived.Laws.IdiomStrings
import Derived.Laws.OwnMore
import Derived.Laws.Rows
import Derived.Lib.AppendStr
import Derived.Lib.Hide
import Derived.Lib.Strings
import Derived.OneCell
import Derived.Outline
import Derived.OwnWalk
import Derived.RegionTactic
import Derived.StillTailTactics
import Derived.Test.YtghegmbafbpnjaaGreatDoorChecked
import Derived.WalkKit
import Derived.WalkLawsBesides
import Derived.WalkSpells
set_option maxRecDepth 100000
set_option linter.unusedVariables false
namespace Go.Proofs.YtghegmbafbpnjaaGreatDoor
set_option maxRecDepth 100000
open Go Go.RowKit
/-- Bytes as cells. -/
def cellsOf (l : List UInt8) : List Value := l.map fun x => .int .u8 (x.toNat : Int)
theorem cellsOf_length (l : List UInt8) : (cellsOf l).length = l.length := by simp [cellsOf]
theorem cellsOf_snoc (l : List UInt8) (x : UInt8) : cellsOf (l ++ [x]) = cellsOf l ++ [.int .u8 (x.toNat : Int)] := by simp [cellsOf]
theorem info_u8 : (Tryz.prog.info? 5).map (fun i => (i.zero, i.size, i.bytes)) = some (some (.int .u8 0), 1, 1) := by kernel_rfl

/-- A writer in block b: N bits are laid, the number X; its bytes lie in block og. -/
def WS (w : World) (lo b : Nat) (og : Option Nat) (X N : Nat) : Prop :=
  ∃ (v : Value) (L : List UInt8) (part : Nat), Is w b 110 #[v, .int .i64 part, .int .i64 (N % 8 : Nat)] ∧ w.ownsRow lo 5 1 v L.length (cellsOf L) ∧ v.ownBlock = og ∧
    L.length = N / 8 ∧ num L + 256 ^ L.length * part = X ∧ part < 2 ^ (N % 8)
/-- What has been laid by Bits(v, n). -/
def layN (N : Nat) (n : Int) : Nat := if n < 0 ∨ 24 < n then N else N + n.toNat
def layX (X N : Nat) (v n : Int) : Nat := if n < 0 ∨ 24 < n then X else X + (v % 2 ^ n.toNat).toNat * 2 ^ N

set_option maxHeartbeats 1000000 in
theorem bits_new (w : World) :
    Calls Tryz.prog 37 #[] w fun e w' => e = .returned (.pointer (some ⟨w.heap.size, 0, none⟩)) ∧ w' = w.alloc (.cells #[.slice none 0 0, .int .i64 0, .int .i64 0] 110) := by
  go_enter Tryz.func37, Tryz.ntmps37
  go_wp2
  go_ret
  exact ⟨rfl, rfl⟩
theorem ws_new (w : World) (lo : Nat) : WS (w.alloc (.cells #[.slice none 0 0, .int .i64 0, .int .i64 0] 110)) lo w.heap.size none 0 0 :=
  ⟨.slice none 0 0, [], 0, Is.fresh w _ _, World.ownsRow_nil _ _ _ _, rfl, rfl, by decide, by decide⟩

theorem lay_part (v : Int) (part m u : Nat) (hm : m ≤ 24) (hu : u ≤ 7) (hp : part < 2 ^ u) :
    Go.bits .or .i64 (part : Int) (wrap64 (Go.bits .and .i64 v (wrap64 (wrap64 (2 ^ m) - 1)) * 2 ^ u)) = ((part + (v % 2 ^ m).toNat * 2 ^ u : Nat) : Int) := by
  rw [mask_word m hm, i64_mask v m (by omega)]
  have hpos : (0 : Int) < 2 ^ m := by
    have := Nat.two_pow_pos m
    have e : ((2 : Int) ^ m) = ((2 ^ m : Nat) : Int) := by simp
    omega
  have h0 := Int.emod_nonneg v (show (2 : Int) ^ m ≠ 0 by omega)
  have h1 := Int.emod_lt_of_pos v hpos
  have hm2 : 2 ^ m ≤ 2 ^ 24 := Nat.pow_le_pow_right (by decide) hm
  have e : ((2 : Int) ^ m) = ((2 ^ m : Nat) : Int) := by simp
  have hz : (v % 2 ^ m).toNat < 2 ^ m := by omega
  have ez : v % 2 ^ m = (((v % 2 ^ m).toNat : Nat) : Int) := by omega
  generalize (v % 2 ^ m).toNat = z at *
  rw [ez, int_pow]
  have hu2 : 2 ^ u ≤ 2 ^ 7 := Nat.pow_le_pow_right (by decide) hu
  have hzu : z * 2 ^ u ≤ 2 ^ 24 * 2 ^ 7 := Nat.mul_le_mul (by omega) hu2
  have ew : wrap64 ((z * 2 ^ u : Nat) : Int) = ((z * 2 ^ u : Nat) : Int) := IntWalk.wrap64_in _ ⟨by omega, by omega⟩
  rw [ew]
  exact i64_join _ _ u (by omega) hp (Nat.mul_mod_left z _) (by omega)

/-- The writer in the middle of its loop: j bytes of P have been handed on. -/
def WMid (w w' : World) (lo b : Nat) (og : Option Nat) (X' P k u j : Nat) : Prop :=
  ∃ (v : Value) (L : List UInt8), Is w' b 110 #[v, .int .i64 (P / 256 ^ j : Nat), .int .i64 (u : Nat)] ∧ w'.ownsRow lo 5 1 v L.length (cellsOf L) ∧
    L.length = k + j ∧ num L + 256 ^ L.length * (P / 256 ^ j) = X' ∧ (∀ g, v.ownBlock = some g → og = some g ∨ w.heap.size ≤ g) ∧ But (b :: og.toList) w w'

theorem own_ne {w : World} {base b n size : Nat} {e t : TypeId} {v : Value} {xs : List Value} {cs : Array Value} (h : w.ownsRow base e size v n xs) (hb : Is w b t cs) (hne : e ≠ t) : v.ownBlock ≠ some b := by
  rcases h.2 with ⟨rfl, _⟩ | ⟨g, cap, cur, rfl, _, hh, _⟩
  · simp [Value.ownBlock]
  · intro he
    have he' : g = b := by simpa [Value.ownBlock] using he
    subst he'
    exact Is.ne (w := w) (t := e) hh hb hne rfl

theorem part_lt (v : Int) (part m u V : Nat) (hV : (v % 2 ^ m).toNat = V) (hp : part < 2 ^ u) : part + V * 2 ^ u < 2 ^ (u + m) := by
  have e : ((2 : Int) ^ m) = ((2 ^ m : Nat) : Int) := by simp
  have hpos := Nat.two_pow_pos m
  have h1 := Int.emod_lt_of_pos v (show (0 : Int) < 2 ^ m by omega)
  have hz : V + 1 ≤ 2 ^ m := by omega
  have := Nat.mul_le_mul_right (2 ^ u) hz
  rw [Nat.pow_add, Nat.mul_comm (2 ^ u)]
  rw [Nat.add_mul] at this
  omega
theorem num_step (L : List UInt8) (q : Nat) : num (L ++ [UInt8.ofNat q]) + 256 ^ (L.length + 1) * (q / 256) = num L + 256 ^ L.length * q := by
  have h : (UInt8.ofNat q).toNat = q % 256 := UInt8.toNat_ofNat'
  rw [num_snoc, h, Nat.pow_succ, Nat.add_assoc, Nat.mul_assoc, ← Nat.mul_add]
  congr 2
  omega
theorem wmid_step {w wr w1 : World} {lo b gg cap j q k u P X' : Nat} {og : Option Nat} {v1 : Value} {L1 : List UInt8}
    (hi1 : Is wr b 110 #[v1, .int .i64 (q : Nat), .int .i64 (u : Nat)]) (hl : L1.length = k + j) (hx : num L1 + 256 ^ L1.length * q = X') (hq : q = P / 256 ^ j)
    (hg1 : ∀ g, v1.ownBlock = some g → og = some g ∨ w.heap.size ≤ g) (hb1 : But (b :: og.toList) w wr) (hown1 : wr.ownsRow lo 5 1 v1 L1.length (cellsOf L1))
    (hown2 : w1.ownsRow lo 5 1 (.slice (some ⟨gg, 0, none⟩) (L1.length + 1) cap) (L1.length + 1) (cellsOf L1 ++ [.int .u8 (IntKind.u8.wrap q)]))
    (hgrow : ((wr.alloc (.cells #[.int .u8 (IntKind.u8.wrap q)] 5)).drew).grownBy w1 v1.ownBlock) (hat : v1.ownBlock = some gg ∨ gg = wr.heap.size + 1) :
    WMid w ((w1.setCell ⟨b, 0, none⟩ (.slice (some ⟨gg, 0, none⟩) (L1.length + 1) cap)).setCell ⟨b, 1, none⟩ (.int .i64 ((q : Int) / 256))) lo b og X' P k u (j + 1) := by
  have hne := own_ne hown1 hi1 (by decide)
  have hi2 := ((hi1.alloc (.cells #[.int .u8 (IntKind.u8.wrap q)] 5)).drew).grown hgrow (Ne.symm hne)
  have hne2 := own_ne hown2 hi2 (by decide)
  have hw : IntKind.u8.wrap q = ((UInt8.ofNat q).toNat : Int) := by
    have h : (UInt8.ofNat q).toNat = q % 256 := UInt8.toNat_ofNat'
    rw [h, IntKind.wrap_u8]; omega
  have ho : w1.ownsRow lo 5 1 (.slice (some ⟨gg, 0, none⟩) (L1.length + 1) cap) (L1 ++ [UInt8.ofNat q]).length (cellsOf (L1 ++ [UInt8.ofNat q])) := by
    rw [cellsOf_snoc, ← hw, List.length_append]; exact hown2
  have hS := hb1.size
  have hB := ((hb1.alloc (.cells #[.int .u8 (IntKind.u8.wrap q)] 5)).drew).grown hgrow (fun g e => by
    rcases hg1 g e with h | h
    · subst h; exact .inl (by simp)
    · exact .inr h)
  have e2 : ((q : Int) / 256) = ((q / 256 : Nat) : Int) := by omega
  have e3 : q / 256 = P / 256 ^ (j + 1) := by rw [hq, Nat.pow_succ, Nat.div_div_eq_div_mul]
  rw [e2]
  refine ⟨.slice (some ⟨gg, 0, none⟩) (L1.length + 1) cap, L1 ++ [UInt8.ofNat q], ?_, ?_, ?_, ?_, ?_, ?_⟩
  · rw [← e3]
    simpa using (hi2.put 0 (.slice (some ⟨gg, 0, none⟩) (L1.length + 1) cap)).put 1 (.int .i64 ((q / 256 : Nat) : Int))
  · exact ownsRow_setCell_other (ownsRow_setCell_other ho (a := ⟨b, 0, none⟩) hne2 _) (a := ⟨b, 1, none⟩) hne2 _
  · simp; omega
  · rw [← e3, List.length_append, List.length_singleton, num_step]; exact hx
  · intro g e
    have : gg = g := by simpa [Value.ownBlock] using e
    subst this
    rcases hat with h | h
    · exact hg1 _ h
    · exact .inr (by omega)
  · exact (hB.setCell (p := ⟨b, 0, none⟩) (.inl (by simp)) _).setCell (p := ⟨b, 1, none⟩) (.inl (by simp)) _
theorem ws_final {w' : World} {lo b N X P V m j q part : Nat} {v : Int} {v1 : Value} {L L1 : List UInt8} (hm : m ≤ 24)
    (hlen : L.length = N / 8) (hnum : num L + 256 ^ L.length * part = X) (hV : (v % 2 ^ m).toNat = V) (hP : part + V * 2 ^ (N % 8) = P) (hPlt : P < 2 ^ (N % 8 + m))
    (hj : j = (N % 8 + m) / 8) (hq : q = P / 256 ^ j) (hi1 : Is w' b 110 #[v1, .int .i64 (q : Nat), .int .i64 (N % 8 + m : Nat)]) (hl : L1.length = N / 8 + j)
    (hx : num L1 + 256 ^ L1.length * q = num L + 256 ^ L.length * P) (hown1 : w'.ownsRow lo 5 1 v1 L1.length (cellsOf L1)) :
    WS (w'.setCell ⟨b, 2, none⟩ (.int .i64 (((N : Int) + (m : Int)) % 8))) lo b v1.ownBlock (layX X N v (m : Int)) (layN N (m : Int)) := by
  have h24 : ¬ ((m : Int) < 0 ∨ 24 < (m : Int)) := by omega
  have e1 : layN N (m : Int) = N + m := by unfold layN; rw [if_neg h24]; rfl
  have e2 : layX X N v (m : Int) = X + V * 2 ^ N := by unfold layX; rw [if_neg h24, ← hV]; rfl
  have e3 : (((N : Int) + (m : Int)) % 8) = (((N + m) % 8 : Nat) : Int) := by omega
  rw [e1, e2, e3]
  refine ⟨v1, L1, q, ?_, ?_, rfl, by omega, ?_, ?_⟩
  · simpa using hi1.put 2 (.int .i64 (((N + m) % 8 : Nat) : Int))
  · exact ownsRow_setCell_other hown1 (a := ⟨b, 2, none⟩) (own_ne hown1 hi1 (by decide)) _
  · rw [hx, ← hP, ← hnum, Nat.mul_add, ← Nat.add_assoc, hlen, p256]
    congr 1
    rw [Nat.mul_left_comm, ← Nat.pow_add, show 8 * (N / 8) + N % 8 = N from by omega]
  · rw [hq, hj, p256]
    apply Nat.div_lt_of_lt_mul
    rw [← Nat.pow_add, show 8 * ((N % 8 + m) / 8) + (N + m) % 8 = N % 8 + m from by omega]
    exact hPlt

set_option maxHeartbeats 1000000 in
set_option maxRecDepth 100000 in
theorem WS.bits {w : World} {lo b : Nat} {og : Option Nat} {X N : Nat} (h : WS w lo b og X N) (hlo : lo ≤ w.heap.size) (hN : N ≤ 140737488355328) (v n : Int) :
    Calls Tryz.prog 71 #[.pointer (some ⟨b, 0, none⟩), .int .i64 v, .int .i64 n] w fun e w' => e = .returned (.tuple #[]) ∧
      ∃ og', WS w' lo b og' (layX X N v n) (layN N n) ∧ (∀ g, og' = some g → og = some g ∨ w.heap.size ≤ g) ∧ But (b :: og.toList) w w' := by
  by_cases hn : n < 0 ∨ 24 < n
  · have hx : layX X N v n = X := by unfold layX; rw [if_pos hn]
    have hy : layN N n = N := by unfold layN; rw [if_pos hn]
    rw [hx, hy]
    clear hx hy
    rcases hn with hn | hn
    · go_enter Tryz.func71, Tryz.ntmps71
      go_wp2
      exact bodyPost_ret (results_none rfl _ _ _) rfl ⟨rfl, og, h, fun g e => .inl e, But.refl _ _⟩
    · have hn0 : ¬ n < 0 := by omega
      go_enter Tryz.func71, Tryz.ntmps71
      go_wp2
      exact bodyPost_ret (results_none rfl _ _ _) rfl ⟨rfl, og, h, fun g e => .inl e, But.refl _ _⟩
  · obtain ⟨m, rfl⟩ := Int.eq_ofNat_of_zero_le (show 0 ≤ n by omega)
    have hm : m ≤ 24 := by omega
    obtain ⟨x, L, part, hi, hown, hog, hlen, hnum, hpart⟩ := h
    have h0 : w.cell? ⟨b, 0, none⟩ = some x := hi.cell 0
    have h1 : w.cell? ⟨b, 1, none⟩ = some (.int .i64 part) := hi.cell 1
    have h2 : w.cell? ⟨b, 2, none⟩ = some (.int .i64 (N % 8 : Nat)) := hi.cell 2
    have f0 : w.frozen? ⟨b, 0, none⟩ = false := hi.free 0
    have f1 : w.frozen? ⟨b, 1, none⟩ = false := hi.free 1
    have f2 : w.frozen? ⟨b, 2, none⟩ = false := hi.free 2
    have hn0 : ¬ (m : Int) < 0 := by omega
    have hn1 : ¬ (24 : Int) < (m : Int) := by omega
    go_enter Tryz.func71, Tryz.ntmps71
    go_wp2
    go_region
    have hlp := Lib.hid (lay_part v part m (N % 8) hm (by omega) hpart)
    generalize hV : (v % 2 ^ m).toNat = V at *
    have hPlt : part + V * 2 ^ (N % 8) < 2 ^ (N % 8 + m) := part_lt v part m (N % 8) V hV hpart
    generalize hP : part + V * 2 ^ (N % 8) = P at *
    go_wp2
    go_loopw [46] (fun i wr => ∃ j : Nat, j ≤ (N % 8 + m) / 8 ∧ i = .int .i64 j ∧ WMid w wr lo b og (num L + 256 ^ L.length * P) P (N / 8) (N % 8 + m) j) (fun i _ => (N % 8 + m) / 8 - (intOf i).toNat)
    case atStart =>
      refine ⟨0, Nat.zero_le _, rfl, x, L, ?_, ?_, by omega, by simp, fun g e => .inl (by rw [← hog]; exact e), ?_⟩
      · have e3 : ((N : Int) % 8 + (m : Int)) = ((N % 8 + m : Nat) : Int) := by omega
        rw [hlp.out, e3]
        have := ((hi.put 1 (.int .i64 (P : Int))).put 2 (.int .i64 ((N % 8 + m : Nat) : Int))).drew
        simpa using this
      · exact (ownsRow_setCell_other (ownsRow_setCell_other hown (a := ⟨b, 1, none⟩) (own_ne hown hi (by decide)) _) (a := ⟨b, 2, none⟩) (own_ne hown hi (by decide)) _).drew
      · exact (((But.refl (b :: og.toList) w).setCell (p := ⟨b, 1, none⟩) (.inl (by simp)) _).setCell (p := ⟨b, 2, none⟩) (.inl (by simp)) _).drew
    case round =>
      obtain ⟨j, hj, rfl, v1, L1, hi1, hown1, hl1, hx1, hg1, hb1⟩ := hrel
      obtain ⟨q, hq⟩ : ∃ q, q = P / 256 ^ j := ⟨_, rfl⟩
      rw [← hq] at hi1 hx1
      have HQ := Lib.hid hq
      clear hq
      by_cases hlt : j < (N % 8 + m) / 8
      · have c0 : wr.cell? ⟨b, 0, none⟩ = some v1 := hi1.cell 0
        have c1 : wr.cell? ⟨b, 1, none⟩ = some (.int .i64 (q : Nat)) := hi1.cell 1
        have c2 : wr.cell? ⟨b, 2, none⟩ = some (.int .i64 (N % 8 + m : Nat)) := hi1.cell 2
        have e0 : wr.frozen? ⟨b, 0, none⟩ = false := hi1.free 0
        have e1 : wr.frozen? ⟨b, 1, none⟩ = false := hi1.free 1
        have e2 : wr.frozen? ⟨b, 2, none⟩ = false := hi1.free 2
        have hne : v1.ownBlock ≠ some b := own_ne hown1 hi1 (by decide)
        have hbl : b < wr.heap.size := hi1.lt
        have hsz := hb1.size
        have HI := Lib.hid hi1
        have HX := Lib.hid hx1
        have HL := Lib.hid hl1
        clear hi hi1 h0 h1 h2 f0 f1 f2 hx1 hl1
        obtain ⟨i0, hi0, hz0, hz1, hz2⟩ := info_parts info_u8
        have hlen1 : L1.length + 1 ≤ 140737488355328 := by have := HL.out; omega
        go_wp2
        go_region_law (refine step_append_lies _ (by rfl) _ _ _ (by rfl) lo 5 i0 _ 1 1 Tryz.underlying40 hi0 hz0 hz1 hz2 rfl (by omega) v1 L1.length (cellsOf L1) (by rfl) ((hown1.alloc _).drew) ⟨wr.heap.size, 0, none⟩ 1 1 [.int .u8 (IntKind.u8.wrap q)] (by rfl) (by rfl) (World.news_of_block (cs := #[.int .u8 (IntKind.u8.wrap q)]) (t := 5) (fr := (0, 0)) (heap_alloc_new wr _)) (by simp [Value.oneCell']) (by omega) (by unfold maxLen; omega) (by omega) (by simp; omega) (wr.heap.size + 1) (by simp) ?_; intro gg cap w1 hown2 hgrow hat hlt2; have hi2 := (((HI.out.alloc (.cells #[.int .u8 (IntKind.u8.wrap q)] 5)).drew).grown hgrow (Ne.symm hne)); have g0 : w1.cell? ⟨b, 0, none⟩ = some v1 := hi2.cell 0; have g1 : w1.cell? ⟨b, 1, none⟩ = some (.int .i64 (q : Nat)) := hi2.cell 1; have g2 : w1.frozen? ⟨b, 0, none⟩ = false := hi2.free 0; have g3 : w1.frozen? ⟨b, 1, none⟩ = false := hi2.free 1; have HI2 := Lib.hid hi2; clear hi2)
        all_goals go_wp2
        all_goals go_roundw
        case rel => exact ⟨j + 1, by omega, by go_num, wmid_step HI.out HL.out HX.out HQ.out hg1 hb1 hown1 hown2 hgrow hat⟩
        case measure => simp [intOf]; omega
        case rel => exact ⟨j + 1, by omega, by go_num, wmid_step HI.out HL.out HX.out HQ.out hg1 hb1 hown1 hown2 hgrow hat⟩
        case measure => simp [intOf]; omega
        case rel => exact ⟨j + 1, by omega, by go_num, wmid_step HI.out HL.out HX.out HQ.out hg1 hb1 hown1 hown2 hgrow hat⟩
        case measure => simp [intOf]; omega
      · have c2 : wr.cell? ⟨b, 2, none⟩ = some (.int .i64 (N % 8 + m : Nat)) := hi1.cell 2
        have e2 : wr.frozen? ⟨b, 2, none⟩ = false := hi1.free 2
        have HI := Lib.hid hi1
        have HX := Lib.hid hx1
        have HL := Lib.hid hl1
        clear hi hi1 h0 h1 h2 f0 f1 f2 hx1 hl1
        go_wp2
        go_end0
        have hfin := ws_final (v := v) hm hlen hnum hV hP hPlt (show j = (N % 8 + m) / 8 by omega) HQ.out HI.out HL.out HX.out hown1
        exact ⟨rfl, v1.ownBlock, hfin, hg1, hb1.setCell (.inl (by simp)) _⟩
end Go.Proofs.YtghegmbafbpnjaaGreatDoor
namespace Go.Proofs.YtghegmbafbpnjaaGreatDoor
set_option maxRecDepth 100000
open Go Go.RowKit
/-- A string appended to bytes that are owned: where the row lies then. -/
theorem run_append_str {P : Program} (w : World) (base : Nat) (t u ty e : TypeId) (i : TypeInfo) (ht : P.underlying t = some (.slice e)) (hu : P.underlying u = some .string) (hi : P.info? e = some i) (hz : i.zero = some (.int .u8 0))
    (hsize : i.size = 1) (hby : i.bytes = 1) (v : Value) (n : Nat) (xs : List Value) (hown : w.ownsRow base e 1 v n xs) (s : ByteArray) (hbound : n + s.size ≤ 140737488355328) (hbase : base ≤ w.heap.size) :
    ∃ v' w', (Builtin.append_ #[t, u] ty #[v, .string s]).run P w = .ok v' w' ∧ w'.ownsRow base e 1 v' (n + s.size) (xs ++ Lib.strCells s) ∧ w.grownBy w' v.ownBlock ∧ (∀ g, v'.ownBlock = some g → v.ownBlock = some g ∨ w.heap.size ≤ g) := by
  obtain ⟨v', w', hr, ho, hg, hn⟩ := Lib.run_append_own_string (P := P) w base t u ty e i ht hu hi hz hsize hby v n xs hown s (by unfold maxLen; omega) hbound hbase
  refine ⟨v', w', hr, ho, hg, fun g eg => ?_⟩
  have hok : ∀ {a : Value} {wa : World}, (Builtin.append_ #[t, u] ty #[v, .string s]).run P w = .ok a wa → v' = a := fun h => (Result.ok.inj (hr.symm.trans h)).1
  rcases hown.2 with ⟨rfl, rfl⟩ | ⟨g0, cap, cur, rfl, hbg, hgc, hnc, hcm, hcs, htake⟩
  · by_cases h0 : s.size = 0
    · rw [hn.2 ⟨rfl, h0⟩] at eg; simp [Value.ownBlock] at eg
    · have h := hok (run_append_nil_string (P := P) w t u ty e i (.int .u8 0) ht hu hi hz s (by omega) (by omega) (by rw [hby]; omega))
      rw [h] at eg
      simp [Value.ownBlock] at eg
      exact .inr (by omega)
  · by_cases hroom : n + s.size ≤ cap
    · have h := hok (Lib.run_append_room_string (P := P) w t u ty e i ht hu hi hsize g0 n cap cur hgc s hroom (by omega))
      rw [h] at eg
      exact .inl eg
    · have holds : ∀ j x, xs[j]? = some x → w.cell? ((⟨g0, 0, none⟩ : Addr).add j) = some x := hown.cells (g := g0) rfl
      have h := hok (Lib.run_append_grow_string (P := P) w t u ty e i (.int .u8 0) ht hu hi hz ⟨g0, 0, none⟩ n cap xs (by rw [hsize]; exact hown.1) holds s (by omega) (by omega) (by rw [hby]; exact growslice_fits (by omega) (by omega)))
      rw [h] at eg
      simp [Value.ownBlock] at eg
      exact .inr (by omega)
theorem own_slice {w : World} {base n size : Nat} {e : TypeId} {v : Value} {xs : List Value} (h : w.ownsRow base e size v n xs) : ∃ A c, v = .slice A n c ∧ n ≤ c := by
  rcases h.2 with ⟨rfl, rfl⟩ | ⟨g, cap, cur, rfl, _, _, hc, _⟩
  · exact ⟨none, 0, rfl, Nat.le_refl _⟩
  · exact ⟨_, cap, rfl, hc⟩
theorem wpList_append_str {P : Program} (w : World) {ops : Array Oper} {rest : List Oper} {o : Oper} {a : Act} {Q : Exit → Act → World → Prop} (hgd : o.guard = none) (sl x : Operand) (t u : TypeId)
    (ho : o.op = .call { callee := .builtin .append, args := #[sl, x], argTypes := #[t, u] })
    (base : Nat) (e : TypeId) (i : TypeInfo) (ht : P.underlying t = some (.slice e)) (hu : P.underlying u = some .string) (hi : P.info? e = some i) (hz : i.zero = some (.int .u8 0))
    (hsize : i.size = 1) (hby : i.bytes = 1) (v : Value) (n : Nat) (xs : List Value) (hs : a.eval sl = v) (hown : w.ownsRow base e 1 v n xs) (s : ByteArray) (hx : a.eval x = .string s)
    (hbound : n + s.size ≤ 140737488355328) (hbase : base ≤ w.heap.size)
    (h : ∀ A c w', w'.ownsRow base e 1 (.slice A (n + s.size) c) (n + s.size) (xs ++ Lib.strCells s) → w.grownBy w' v.ownBlock → (∀ g, (Value.slice A (n + s.size) c).ownBlock = some g → v.ownBlock = some g ∨ w.heap.size ≤ g) → wpList P ops Q rest (a.put o.dst (.slice A (n + s.size) c)) w') : wpList P ops Q (o :: rest) a w := by
  refine wpList_plain hgd fun K hK => ?_
  obtain ⟨v', w', hr, h2, h3, h4⟩ := run_append_str (P := P) w base t u o.type e i ht hu hi hz hsize hby v n xs hown s hbound hbase
  obtain ⟨A, c, rfl, _⟩ := own_slice h2
  unfold Oper.wp execOp
  simp only [ho, resolve, invoke, builtin, Sem.run_bind, Sem.run_pure, Result.andThen_ok, List.map_toArray, List.map_cons, List.map_nil, hs, hx, hr]
  exact hK _ _ (h A c w' h2 h3 h4)

theorem ownsRow_but {w w' : World} {base n size : Nat} {e : TypeId} {v : Value} {xs : List Value} {S : List Nat} (h : w.ownsRow base e size v n xs) (hw : But S w w') (hS : ∀ g, v.ownBlock = some g → g ∉ S) : w'.ownsRow base e size v n xs := by
  obtain ⟨h1, h2⟩ := h
  refine ⟨h1, ?_⟩
  rcases h2 with h2 | ⟨g, cap, cur, rfl, hg, hh, r⟩
  · exact .inl h2
  · have hlt : g < w.heap.size := (Array.getElem?_eq_some_iff.1 hh).1
    exact .inr ⟨g, cap, cur, rfl, hg, (hw.block g hlt (hS g rfl)).trans hh, r⟩
set_option maxRecDepth 100000 in
theorem WS.but {w w' : World} {lo b X N : Nat} {og : Option Nat} {S : List Nat} (h : WS w lo b og X N) (hw : But S w w') (hb : b ∉ S) (hg : ∀ g, og = some g → g ∉ S) : WS w' lo b og X N := by
  obtain ⟨v, L, part, hi, hown, hog, r⟩ := h
  exact ⟨v, L, part, hi.but hw hb, ownsRow_but hown hw (fun g e => hg g (by rw [← hog]; exact e)), hog, r⟩
set_option maxRecDepth 100000 in
theorem WS.lt {w : World} {lo b X N : Nat} {og : Option Nat} (h : WS w lo b og X N) : b < w.heap.size ∧ ∀ g, og = some g → g < w.heap.size ∧ g ≠ b := by
  obtain ⟨v, L, part, hi, hown, hog, r⟩ := h
  refine ⟨hi.lt, fun g e => ?_⟩
  subst hog
  exact ⟨(hown.lt g e).2, fun e2 => own_ne hown hi (by decide) (by rw [e, e2])⟩

theorem own_text {w : World} {base n : Nat} {v : Value} {L : List UInt8} (h : w.ownsRow base 5 1 v n (cellsOf L)) : (convert 40 9 v).run Tryz.prog w = .ok (.string ⟨L.toArray⟩) w := by
  have hl : L.length = n := by have := h.1; rw [cellsOf_length] at this; omega
  rcases h.2 with ⟨rfl, rfl⟩ | ⟨g, cap, cur, rfl, _⟩
  · have : L = [] := List.eq_nil_of_length_eq_zero hl
    subst this
    exact ByteRow.text ⟨rfl, fun h => absurd h (by simp)⟩
  · refine ByteRow.text ⟨hl, fun _ => ⟨g, 0, rfl, fun i hi => ?_⟩⟩
    have hc := h.cells (g := g) rfl i (.int .u8 (L[i].toNat : Int)) (by simp [cellsOf, hi])
    have e2 : (⟨g, 0, none⟩ : Addr).add i = ⟨g, 0 + i, none⟩ := by unfold Addr.add; split <;> simp_all
    rw [e2] at hc
    exact hc
theorem cellsOf_append (a b : List UInt8) : cellsOf (a ++ b) = cellsOf a ++ cellsOf b := by simp [cellsOf]

def bytesN (N : Nat) (s : ByteArray) : Nat := 8 * ((N + 7) / 8) + 8 * s.size
def bytesX (X N : Nat) (s : ByteArray) : Nat := X + num s.data.toList * 2 ^ (8 * ((N + 7) / 8))

set_option maxHeartbeats 1000000 in
set_option maxRecDepth 100000 in
theorem WS.bytes {w : World} {lo b : Nat} {og : Option Nat} {X N : Nat} (h : WS w lo b og X N) (hlo : lo ≤ w.heap.size) (hN : N ≤ 140737488355328) (s : ByteArray) (hs : s.size ≤ 70368744177664) :
    Calls Tryz.prog 72 #[.pointer (some ⟨b, 0, none⟩), .string s] w fun e w' => e = .returned (.tuple #[]) ∧
      ∃ og', WS w' lo b og' (bytesX X N s) (bytesN N s) ∧ (∀ g, og' = some g → og = some g ∨ w.heap.size ≤ g) ∧ But (b :: og.toList) w w' := by
  have h' := h
  obtain ⟨x, L, part, hi, hown, hog, hlen, hnum, hpart⟩ := h'
  have h0 : w.cell? ⟨b, 0, none⟩ = some x := hi.cell 0
  have h2 : w.cell? ⟨b, 2, none⟩ = some (.int .i64 (N % 8 : Nat)) := hi.cell 2
  clear hown hog hlen hnum hpart hi
  go_enter Tryz.func72, Tryz.ntmps72
  go_upto_if 10 with (fail)
  go_cut [] (fun w1 => ∃ og1, WS w1 lo b og1 X (8 * ((N + 7) / 8)) ∧ (∀ g, og1 = some g → og = some g ∨ w.heap.size ≤ g) ∧ But (b :: og.toList) w w1)
  case first =>
    by_cases hu : 0 < N % 8
    · go_wp2_with (go_at_call 71; refine (h.bits hlo hN 0 (8 - (N : Int) % 8)).mono ?_; rintro e w' ⟨rfl, hpost⟩)
      go_meet
      obtain ⟨og1, hW, hf, hB⟩ := hpost
      have e1 : layX X N 0 (8 - (N : Int) % 8) = X := by unfold layX; split <;> simp
      have e2 : layN N (8 - (N : Int) % 8) = 8 * ((N + 7) / 8) := by unfold layN; rw [if_neg (by omega)]; omega
      rw [e1, e2] at hW
      exact ⟨og1, hW, hf, hB⟩
    · go_wp2
      go_meet
      rw [show 8 * ((N + 7) / 8) = N from by omega]
      exact ⟨og, h, fun g e => .inl e, But.refl _ _⟩
  case rest =>
    obtain ⟨og1, hW, hf, hB⟩ := hcut
    clear h0 h2 h
    obtain ⟨x, L, part, hi, hown, hog, hlen, hnum, hpart⟩ := hW
    have h0 : wc.cell? ⟨b, 0, none⟩ = some x := hi.cell 0
    have hsz := hB.size
    have hpart0 : part = 0 := by have e : 8 * ((N + 7) / 8) % 8 = 0 := by omega
                                 rw [e] at hpart; omega
    subst hpart0
    have hne := own_ne hown hi (by decide)
    have hLb : L.length ≤ 17592186044417 := by omega
    have HL := Lib.hid hlen
    have HX := Lib.hid hnum
    have HI := Lib.hid hi
    clear hlen hnum hpart hi
    obtain ⟨i0, hi0, hz0, hz1, hz2⟩ := info_parts info_u8
    go_wp2_with (at_builtin; refine wpList_append_str _ rfl _ _ 40 9 rfl lo 5 i0 Tryz.underlying40 Tryz.underlying9 hi0 hz0 hz1 hz2 x L.length (cellsOf L) rfl hown s rfl (by omega) (by omega) ?_; intro A2 c2 w2 hown2 hgrow hat; have hi2 := HI.out.grown hgrow (Ne.symm hne); have g0 : w2.cell? ⟨b, 0, none⟩ = some x := hi2.cell 0; have g1 : w2.frozen? ⟨b, 0, none⟩ = false := hi2.free 0; have HI2 := Lib.hid hi2; clear hi2)
    go_end0
    have hB2 := (hB.grown hgrow (fun g e => by
      have e1 : og1 = some g := hog ▸ e
      rcases hf g e1 with h | h
      · subst h; exact .inl (by simp)
      · exact .inr h))
    have hpos : 8 * ((N + 7) / 8) / 8 = (N + 7) / 8 := by omega
    refine ⟨rfl, (Value.slice A2 (L.length + s.size) c2).ownBlock, ⟨_, L ++ s.data.toList, 0, ?_, ?_, rfl, ?_, ?_, by unfold bytesN; exact Nat.two_pow_pos _⟩, fun g e => ?_, hB2.setCell (.inl (by simp)) _⟩
    · have e8 : bytesN N s % 8 = 8 * ((N + 7) / 8) % 8 := by unfold bytesN; omega
      rw [e8]
      simpa using HI2.out.put 0 (.slice A2 (L.length + s.size) c2)
    · have ho : w2.ownsRow lo 5 1 (.slice A2 (L.length + s.size) c2) (L ++ s.data.toList).length (cellsOf (L ++ s.data.toList)) := by
        rw [List.length_append, cellsOf_append]
        exact hown2
      exact ownsRow_setCell_other ho (a := ⟨b, 0, none⟩) (own_ne hown2 HI2.out (by decide)) _
    · rw [List.length_append, HL.out]
      unfold bytesN
      have : s.data.toList.length = s.size := Array.length_toList
      omega
    · have hX := HX.out
      unfold bytesX
      rw [num_append, ← hX, HL.out, hpos, p256]
      simp [Nat.mul_comm]
    · rcases hat g e with h | h
      · exact hf g (hog ▸ h)
      · exact .inr (by omega)
end Go.Proofs.YtghegmbafbpnjaaGreatDoor
namespace Go.Proofs.YtghegmbafbpnjaaGreatDoor
set_option maxRecDepth 100000
open Go Go.RowKit
/-- The text of a writer. -/
def textOf (X N : Nat) : ByteArray := ⟨(bytesOf ((N + 7) / 8) X).toArray⟩
theorem textOf_size (X N : Nat) : (textOf X N).size = (N + 7) / 8 := by
  show (bytesOf ((N + 7) / 8) X).toArray.size = _
  simp [length_bytesOf]

theorem bytes_snoc (L : List UInt8) (y : UInt8) : (⟨L.toArray⟩ ++ ⟨#[y]⟩ : ByteArray) = ⟨(L ++ [y]).toArray⟩ := by
  apply ByteArray.ext; simp
set_option maxHeartbeats 1000000 in
set_option maxRecDepth 100000 in
theorem WS.text {w : World} {lo b : Nat} {og : Option Nat} {X N : Nat} (h : WS w lo b og X N) (hN : N ≤ 140737488355328) :
    Calls Tryz.prog 40 #[.pointer (some ⟨b, 0, none⟩)] w fun e w' => e = .returned (.string (textOf X N)) ∧ But [] w w' := by
  obtain ⟨x, L, part, hi, hown, hog, hlen, hnum, hpart⟩ := h
  have h0 : w.cell? ⟨b, 0, none⟩ = some x := hi.cell 0
  have h1 : w.cell? ⟨b, 1, none⟩ = some (.int .i64 part) := hi.cell 1
  have h2 : w.cell? ⟨b, 2, none⟩ = some (.int .i64 (N % 8 : Nat)) := hi.cell 2
  have hcv := own_text hown
  have hLb : L.length ≤ 17592186044416 := by omega
  have HL := Lib.hid hlen
  have HX := Lib.hid hnum
  clear hi hown hog hlen hnum
  by_cases hu : 0 < N % 8
  · have hp7 : 2 ^ (N % 8) ≤ 2 ^ 7 := Nat.pow_le_pow_right (by decide) (by omega)
    obtain ⟨y, rfl⟩ : ∃ y : UInt8, y.toNat = part := ⟨UInt8.ofNat part, by
      have h : (UInt8.ofNat part).toNat = part % 256 := UInt8.toNat_ofNat'
      omega⟩
    have hylt := y.toNat_lt
    have hcv2 := own_text (L := [y]) (World.ownsRow_lit (base := w.heap.size) (e := 5) (size := 1) w #[.int .u8 (y.toNat : Int)] 1 (Nat.le_refl _) (by unfold maxLen; omega) rfl)
    clear hp7 hpart
    go_enter Tryz.func40, Tryz.ntmps40
    go_wp2
    go_ret
    refine ⟨?_, ((But.refl [] w).alloc _)⟩
    have e : textOf X N = ⟨(L ++ [y]).toArray⟩ := by
      unfold textOf
      rw [← bytesOf_eq (l := L ++ [y]) (k := (N + 7) / 8) (x := X) (by rw [List.length_append, HL.out, List.length_singleton]; omega) (by rw [num_snoc]; exact HX.out)]
    rw [e, ← bytes_snoc]
    rfl
  · have hp0 : part = 0 := by have e : N % 8 = 0 := by omega
                              rw [e] at hpart; omega
    subst hp0
    go_enter Tryz.func40, Tryz.ntmps40
    go_wp2
    go_ret
    refine ⟨?_, But.refl _ _⟩
    have e : textOf X N = ⟨L.toArray⟩ := by
      unfold textOf
      rw [← bytesOf_eq (l := L) (k := (N + 7) / 8) (x := X) (by rw [HL.out]; omega) (by rw [← HX.out]; simp)]
    rw [e]
    rfl
end Go.Proofs.YtghegmbafbpnjaaGreatDoor
namespace Go.Proofs.YtghegmbafbpnjaaGreatDoor
set_option maxRecDepth 100000
open Go Go.RowKit
/-- The document's writer in block b: N bits are laid, the number X; its bytes lie in block og. -/
def FW (w : World) (lo b : Nat) (og : Option Nat) (X N : Nat) : Prop :=
  ∃ (v : Value) (L : List UInt8), Is w b 79 #[v, .int .i64 (N : Nat)] ∧ w.ownsRow lo 5 1 v L.length (cellsOf L) ∧ v.ownBlock = og ∧ L.length = (N + 7) / 8 ∧ num L = X ∧ X < 2 ^ N
set_option maxRecDepth 100000 in
theorem FW.but {w w' : World} {lo b X N : Nat} {og : Option Nat} {S : List Nat} (h : FW w lo b og X N) (hw : But S w w') (hb : b ∉ S) (hg : ∀ g, og = some g → g ∉ S) : FW w' lo b og X N := by
  obtain ⟨v, L, hi, hown, hog, r⟩ := h
  exact ⟨v, L, hi.but hw hb, ownsRow_but hown hw (fun g e => hg g (by rw [← hog]; exact e)), hog, r⟩
set_option maxRecDepth 100000 in
theorem FW.lt {w : World} {lo b X N : Nat} {og : Option Nat} (h : FW w lo b og X N) : b < w.heap.size ∧ ∀ g, og = some g → g < w.heap.size ∧ g ≠ b := by
  obtain ⟨v, L, hi, hown, hog, r⟩ := h
  refine ⟨hi.lt, fun g e => ?_⟩
  subst hog
  exact ⟨(hown.lt g e).2, fun e2 => own_ne hown hi (by decide) (by rw [e, e2])⟩
set_option maxHeartbeats 1000000 in
set_option maxRecDepth 100000 in
theorem FW.text {w : World} {lo b : Nat} {og : Option Nat} {X N : Nat} (h : FW w lo b og X N) :
    Calls Tryz.prog 50 #[.pointer (some ⟨b, 0, none⟩)] w fun e w' => e = .returned (.string (textOf X N)) ∧ w = w' := by
  obtain ⟨x, L, hi, hown, hog, hlen, hnum, hX⟩ := h
  have h0 : w.cell? ⟨b, 0, none⟩ = some x := hi.cell 0
  have hcv := own_text hown
  have e : textOf X N = ⟨L.toArray⟩ := by
    unfold textOf
    rw [← bytesOf_eq (l := L) hlen hnum]
  rw [e]
  clear hi hown hog hlen hnum hX
  go_enter Tryz.func50, Tryz.ntmps50
  go_wp2
  go_ret
  exact ⟨rfl, rfl⟩

set_option maxHeartbeats 1000000 in
set_option maxRecDepth 100000 in
theorem FW.bytes {w : World} {lo b : Nat} {og : Option Nat} {X N : Nat} (h : FW w lo b og X N) (hlo : lo ≤ w.heap.size) (hN : N ≤ 140737488355328) (s : ByteArray) (hs : s.size ≤ 70368744177664) :
    Calls Tryz.prog 49 #[.pointer (some ⟨b, 0, none⟩), .string s] w fun e w' => e = .returned (.tuple #[]) ∧
      ∃ og', FW w' lo b og' (bytesX X N s) (bytesN N s) ∧ (∀ g, og' = some g → og = some g ∨ w.heap.size ≤ g) ∧ But (b :: og.toList) w w' := by
  obtain ⟨x, L, hi, hown, hog, hlen, hnum, hX⟩ := h
  have h0 : w.cell? ⟨b, 0, none⟩ = some x := hi.cell 0
  have hne := own_ne hown hi (by decide)
  have hLb : L.length ≤ 17592186044417 := by omega
  have HL := Lib.hid hlen
  have HX := Lib.hid hnum
  have HI := Lib.hid hi
  clear hlen hnum hi
  obtain ⟨i0, hi0, hz0, hz1, hz2⟩ := info_parts info_u8
  go_enter Tryz.func49, Tryz.ntmps49
  go_wp2_with (at_builtin; refine wpList_append_str _ rfl _ _ 40 9 rfl lo 5 i0 Tryz.underlying40 Tryz.underlying9 hi0 hz0 hz1 hz2 x L.length (cellsOf L) rfl hown s rfl (by omega) (by omega) ?_; intro A2 c2 w2 hown2 hgrow hat; have hi2 := HI.out.grown hgrow (Ne.symm hne); have g0 : w2.cell? ⟨b, 0, none⟩ = some x := hi2.cell 0; have g1 : w2.frozen? ⟨b, 0, none⟩ = false := hi2.free 0; have g2 : w2.frozen? ⟨b, 1, none⟩ = false := hi2.free 1; have g3 : w2.cell? ⟨b, 1, none⟩ = some (.int .i64 (N : Nat)) := hi2.cell 1; have HI2 := Lib.hid hi2; clear hi2)
  go_end0
  have e8 : (8 * ((L.length : Int) + (s.size : Int))) = ((8 * (L.length + s.size) : Nat) : Int) := by omega
  have eN : bytesN N s = 8 * (L.length + s.size) := by have := HL.out; unfold bytesN; omega
  rw [e8, ← eN]
  have hB2 := ((But.refl (b :: og.toList) w).grown hgrow (fun g e => by
    have e1 : og = some g := hog ▸ e
    subst e1; exact .inl (by simp)))
  have hne2 := own_ne hown2 HI2.out (by decide)
  have hsl : s.data.toList.length = s.size := Array.length_toList
  refine ⟨rfl, (Value.slice A2 (L.length + s.size) c2).ownBlock, ⟨_, L ++ s.data.toList, ?_, ?_, rfl, ?_, ?_, ?_⟩, fun g e => ?_, (hB2.setCell (.inl (by simp)) _).setCell (.inl (by simp)) _⟩
  · simpa using (HI2.out.put 0 (.slice A2 (L.length + s.size) c2)).put 1 (.int .i64 (bytesN N s : Nat))
  · have ho : w2.ownsRow lo 5 1 (.slice A2 (L.length + s.size) c2) (L ++ s.data.toList).length (cellsOf (L ++ s.data.toList)) := by
      rw [List.length_append, cellsOf_append]
      exact hown2
    exact ownsRow_setCell_other (ownsRow_setCell_other ho (a := ⟨b, 0, none⟩) hne2 _) (a := ⟨b, 1, none⟩) hne2 _
  · rw [List.length_append, hsl, eN]; omega
  · unfold bytesX
    rw [num_append, ← HX.out, HL.out, p256, Nat.mul_comm]
  · have hlt := num_lt (L ++ s.data.toList)
    rw [num_append, List.length_append, hsl, p256, p256, ← eN] at hlt
    unfold bytesX
    rw [← HX.out, ← HL.out, Nat.mul_comm (num s.data.toList)]
    exact hlt
  · rcases hat g e with h | h
    · exact .inl (hog ▸ h)
    · exact .inr h

theorem num_set (L : List UInt8) (k : Nat) (h : k < L.length) (y : UInt8) : num (L.set k y) + 256 ^ k * L[k].toNat = num L + 256 ^ k * y.toNat := by
  induction L generalizing k with
  | nil => simp at h
  | cons x L ih =>
    cases k with
    | zero => simp [num]; omega
    | succ k =>
      have hk : k < L.length := by simpa using h
      have := ih k hk
      simp only [List.set_cons_succ, num, List.getElem_cons_succ, Nat.pow_succ]
      have e1 : 256 ^ k * 256 * (L[k]'hk).toNat = 256 * (256 ^ k * (L[k]'hk).toNat) := by rw [Nat.mul_comm (256 ^ k) 256, Nat.mul_assoc]
      have e2 : 256 ^ k * 256 * y.toNat = 256 * (256 ^ k * y.toNat) := by rw [Nat.mul_comm (256 ^ k) 256, Nat.mul_assoc]
      rw [e1, e2]
      omega
theorem i64_and_one (v : Int) : Go.bits .and .i64 v 1 = v % 2 := i64_mask v 1 (by decide)
theorem or_bit (old z r : Nat) (hr : r ≤ 7) (ho : old < 2 ^ r) (hz : z < 2) : Go.bits .or .u8 (old : Int) (IntKind.u8.wrap (IntKind.u8.wrap (z : Int) * 2 ^ r)) = ((old + z * 2 ^ r : Nat) : Int) := by
  have h7 : 2 ^ r ≤ 2 ^ 7 := Nat.pow_le_pow_right (by decide) hr
  have hzr : z * 2 ^ r ≤ 1 * 2 ^ 7 := Nat.mul_le_mul (by omega) h7
  have e1 : IntKind.u8.wrap (z : Int) = (z : Int) := by rw [IntKind.wrap_u8]; omega
  have e2 : IntKind.u8.wrap ((z * 2 ^ r : Nat) : Int) = ((z * 2 ^ r : Nat) : Int) := by rw [IntKind.wrap_u8]; omega
  rw [e1, int_pow, e2, u8_or_nat _ _ (by omega) (by omega), Nat.or_comm, nat_join r _ _ (Nat.mul_mod_left z _) ho, Nat.add_comm]

/-- The document's writer with room for one bit: the block g of its bytes, of which the last one is M/8. -/
def FMid (w w1 : World) (lo b g c : Nat) (og : Option Nat) (X M : Nat) (L : List UInt8) : Prop :=
  Is w1 b 79 #[.slice (some ⟨g, 0, none⟩) L.length c, .int .i64 (M : Nat)] ∧ w1.ownsRow lo 5 1 (.slice (some ⟨g, 0, none⟩) L.length c) L.length (cellsOf L) ∧
    L.length = M / 8 + 1 ∧ num L = X ∧ X < 2 ^ M ∧ (og = some g ∨ w.heap.size ≤ g) ∧ But (b :: og.toList) w w1

theorem own_cell {w : World} {base n g c k : Nat} {e : TypeId} {L : List UInt8} (h : w.ownsRow base e 1 (.slice (some ⟨g, 0, none⟩) n c) n (cellsOf L)) (hk : k < L.length) : w.cell? ⟨g, k, none⟩ = some (.int .u8 ((L[k]'hk).toNat : Int)) := by
  have hl := h.1
  rw [cellsOf_length] at hl
  rw [h.cellAt k (by omega)]
  simp [cellsOf, hk]
theorem FMid.drew {w w1 : World} {lo b g c X M : Nat} {og : Option Nat} {L : List UInt8} (h : FMid w w1 lo b g c og X M L) : FMid w w1.drew lo b g c og X M L := by
  obtain ⟨h1, h2, h3, h4, h5, h6, h7⟩ := h
  exact ⟨h1.drew, h2.drew, h3, h4, h5, h6, h7.drew⟩
theorem fmid_grow {w wr w1 : World} {lo b g c X M : Nat} {og og1 : Option Nat} {x : Value} {L : List UInt8} (h8 : M % 8 = 0) (hX : X < 2 ^ M) (hog : x.ownBlock = og1)
    (hf : ∀ g, og1 = some g → og = some g ∨ w.heap.size ≤ g) (hB : But (b :: og.toList) w wr) (hi : Is wr b 79 #[x, .int .i64 (M : Nat)]) (hnum : num L = X) (hlen : L.length = (M + 7) / 8)
    (hown : wr.ownsRow lo 5 1 x L.length (cellsOf L)) (hown2 : w1.ownsRow lo 5 1 (.slice (some ⟨g, 0, none⟩) (L.length + 1) c) (L.length + 1) (cellsOf L ++ [.int .u8 0]))
    (hgrow : (wr.alloc (.cells #[.int .u8 0] 5)).grownBy w1 x.ownBlock) (hat : x.ownBlock = some g ∨ g = wr.heap.size + 1) :
    FMid w (w1.setCell ⟨b, 0, none⟩ (.slice (some ⟨g, 0, none⟩) (L.length + 1) c)) lo b g c og X M (L ++ [0]) := by
  have hne := own_ne hown hi (by decide)
  have hi2 := (hi.alloc (.cells #[.int .u8 0] 5)).grown hgrow (Ne.symm hne)
  have hne2 := own_ne hown2 hi2 (by decide)
  have hS := hB.size
  have hB2 := (hB.alloc (.cells #[.int .u8 0] 5)).grown hgrow (fun k e => by
    rcases hf k (hog ▸ e) with h | h
    · subst h; exact .inl (by simp)
    · exact .inr h)
  have e1 : (L ++ [0]).length = L.length + 1 := by simp
  refine ⟨?_, ?_, by rw [e1]; omega, by rw [num_snoc]; simpa using hnum, hX, ?_, hB2.setCell (.inl (by simp)) _⟩
  · rw [e1]; simpa using hi2.put 0 (.slice (some ⟨g, 0, none⟩) (L.length + 1) c)
  · rw [e1, cellsOf_snoc]; exact ownsRow_setCell_other hown2 (a := ⟨b, 0, none⟩) hne2 _
  · rcases hat with h | h
    · exact hf g (hog ▸ h)
    · exact .inr (by omega)

theorem or_bit' (old z r : Nat) (hr : r ≤ 7) (ho : old < 2 ^ r) (hz : z < 2) : Go.bits .or .u8 (old : Int) ((z : Int) % 256 * 2 ^ r % 256) = ((old + z * 2 ^ r : Nat) : Int) := by
  have h := or_bit old z r hr ho hz
  rw [IntKind.wrap_u8, IntKind.wrap_u8] at h
  exact h
theorem emod_step (v : Int) (j : Nat) : (v % 2 ^ (j + 1)).toNat = (v % 2 ^ j).toNat + (v / 2 ^ j % 2).toNat * 2 ^ j := by
  have e : ((2 : Int) ^ j) = ((2 ^ j : Nat) : Int) := by simp
  have e1 : ((2 : Int) ^ (j + 1)) = ((2 ^ j : Nat) : Int) * 2 := by rw [Int.pow_succ, e]
  have hpos := Nat.two_pow_pos j
  rw [e1, e]
  generalize 2 ^ j = P at *
  have h1 := Int.emod_add_mul_ediv v (P : Int)
  have h2 := Int.emod_nonneg v (show (P : Int) ≠ 0 by omega)
  have h3 := Int.emod_lt_of_pos v (show (0 : Int) < (P : Int) by omega)
  generalize hr : v % (P : Int) = r at *
  generalize hq : v / (P : Int) = q at *
  have h4 := Int.emod_add_mul_ediv q 2
  have h5 : q % 2 = 0 ∨ q % 2 = 1 := by omega
  generalize q % 2 = z at *
  generalize q / 2 = q2 at *
  have hv : v = (r + P * z) + P * 2 * q2 := by rw [← h1, ← h4, Int.mul_add, ← Int.mul_assoc, Int.add_assoc]
  have hzP : (P : Int) * z = 0 ∨ (P : Int) * z = P := by rcases h5 with h | h <;> subst h <;> simp
  have hb : v % (P * 2) = r + P * z := by
    rw [hv, Int.add_mul_emod_self_left]
    exact Int.emod_eq_of_lt (by omega) (by omega)
  rw [hb]
  rcases h5 with h | h
  · subst h; simp
  · subst h; simp; omega
theorem fmid_step {w W : World} {lo b g c X0 M N j : Nat} {og : Option Nat} {L : List UInt8} {v : Int} {y : UInt8} (hM : N + j = M)
    (hi : Is W b 79 #[.slice (some ⟨g, 0, none⟩) L.length c, .int .i64 (M : Nat)]) (ho : W.ownsRow lo 5 1 (.slice (some ⟨g, 0, none⟩) L.length c) L.length (cellsOf L))
    (hl : L.length = M / 8 + 1) (hn : num L = X0 + (v % 2 ^ j).toNat * 2 ^ N) (hx : X0 + (v % 2 ^ j).toNat * 2 ^ N < 2 ^ M) (hg : og = some g ∨ w.heap.size ≤ g) (hB : But (b :: og.toList) w W)
    (hk : M / 8 < L.length) (hy : L[M / 8] = y) :
    ∃ og1, FW ((W.setCell ⟨g, M / 8, none⟩ (.int .u8 (Go.bits .or .u8 (y.toNat : Int) (Go.bits .and .i64 (v / 2 ^ j) 1 % 256 * 2 ^ (M % 8) % 256)))).setCell ⟨b, 1, none⟩ (.int .i64 ((M : Int) + 1))) lo b og1 (X0 + (v % 2 ^ (j + 1)).toNat * 2 ^ N) (N + (j + 1)) ∧
      (∀ g, og1 = some g → og = some g ∨ w.heap.size ≤ g) ∧
      But (b :: og.toList) w ((W.setCell ⟨g, M / 8, none⟩ (.int .u8 (Go.bits .or .u8 (y.toNat : Int) (Go.bits .and .i64 (v / 2 ^ j) 1 % 256 * 2 ^ (M % 8) % 256)))).setCell ⟨b, 1, none⟩ (.int .i64 ((M : Int) + 1))) := by
  have hold : y.toNat < 2 ^ (M % 8) := by
    rw [← hy, num_get L (M / 8) hk, hn, p256]
    refine Nat.lt_of_le_of_lt (Nat.mod_le _ _) ?_
    apply Nat.div_lt_of_lt_mul
    rw [← Nat.pow_add, show 8 * (M / 8) + M % 8 = M from by omega]
    exact hx
  have hz : (v / 2 ^ j % 2).toNat < 2 := by omega
  have ez : v / 2 ^ j % 2 = (((v / 2 ^ j % 2).toNat : Nat) : Int) := by omega
  have hstep := emod_step v j
  have h7 : 2 ^ (M % 8) ≤ 2 ^ 7 := Nat.pow_le_pow_right (by decide) (by omega)
  rw [i64_and_one, ez, hstep]
  generalize (v / 2 ^ j % 2).toNat = z at *
  rw [or_bit' y.toNat z (M % 8) (by omega) hold hz]
  have hzr : z * 2 ^ (M % 8) ≤ 1 * 2 ^ (M % 8) := Nat.mul_le_mul_right _ (by omega)
  have hby : (UInt8.ofNat (y.toNat + z * 2 ^ (M % 8))).toNat = y.toNat + z * 2 ^ (M % 8) := by
    have h : (UInt8.ofNat (y.toNat + z * 2 ^ (M % 8))).toNat = (y.toNat + z * 2 ^ (M % 8)) % 256 := UInt8.toNat_ofNat'
    omega
  have hgb : g ≠ b := fun e => own_ne ho hi (by decide) (by rw [e]; rfl)
  have hst := (ho.stored (M / 8) (.int .u8 ((y.toNat + z * 2 ^ (M % 8) : Nat) : Int))).1
  have hnum : num (L.set (M / 8) (UInt8.ofNat (y.toNat + z * 2 ^ (M % 8)))) = num L + z * 2 ^ M := by
    have h := num_set L (M / 8) hk (UInt8.ofNat (y.toNat + z * 2 ^ (M % 8)))
    rw [hby, hy, Nat.mul_add, p256] at h
    have e : 2 ^ (8 * (M / 8)) * (z * 2 ^ (M % 8)) = z * 2 ^ M := by
      rw [Nat.mul_left_comm, ← Nat.pow_add, show 8 * (M / 8) + M % 8 = M from by omega]
    omega
  have hX' : X0 + ((v % 2 ^ j).toNat + z * 2 ^ j) * 2 ^ N = num L + z * 2 ^ M := by
    rw [hn, Nat.add_mul, Nat.mul_assoc, ← Nat.pow_add, show j + N = M from by omega, Nat.add_assoc]
  have e1 : ((M : Int) + 1) = ((M + 1 : Nat) : Int) := by omega
  have hB1 : But (b :: og.toList) w ((W.setCell ⟨g, M / 8, none⟩ (.int .u8 ((y.toNat + z * 2 ^ (M % 8) : Nat) : Int))).setCell ⟨b, 1, none⟩ (.int .i64 ((M : Int) + 1))) :=
    (hB.setCell (p := ⟨g, M / 8, none⟩) (hg.elim (fun h => .inl (by subst h; simp)) .inr) _).setCell (p := ⟨b, 1, none⟩) (.inl (by simp)) _
  refine ⟨some g, ⟨.slice (some ⟨g, 0, none⟩) L.length c, L.set (M / 8) (UInt8.ofNat (y.toNat + z * 2 ^ (M % 8))), ?_, ?_, rfl, ?_, ?_, ?_⟩, fun k e => ?_, hB1⟩
  · rw [show N + (j + 1) = M + 1 from by omega, e1]
    have h := (hi.far (p := ⟨g, M / 8, none⟩) (Ne.symm hgb) (.int .u8 ((y.toNat + z * 2 ^ (M % 8) : Nat) : Int))).put 1 (.int .i64 ((M + 1 : Nat) : Int))
    simpa using h
  · have ec : cellsOf (L.set (M / 8) (UInt8.ofNat (y.toNat + z * 2 ^ (M % 8)))) = (cellsOf L).set (M / 8) (.int .u8 ((y.toNat + z * 2 ^ (M % 8) : Nat) : Int)) := by
      unfold cellsOf; rw [List.map_set, hby]
    rw [ec, List.length_set]
    exact ownsRow_setCell_other hst (a := ⟨b, 1, none⟩) (by simp [Value.ownBlock]; exact hgb) _
  · rw [List.length_set]; omega
  · rw [hnum, hX']
  · rw [hX', show N + (j + 1) = M + 1 from by omega, Nat.pow_succ, hn]
    have : z * 2 ^ M ≤ 1 * 2 ^ M := Nat.mul_le_mul_right _ (by omega)
    omega
  · have : g = k := by simpa using e
    subst this; exact hg

set_option maxHeartbeats 1000000 in
set_option maxRecDepth 100000 in
theorem FW.bits {w : World} {lo b : Nat} {og : Option Nat} {X N : Nat} (h : FW w lo b og X N) (hlo : lo ≤ w.heap.size) (hN : N ≤ 140737488355328) (v n : Int) :
    Calls Tryz.prog 48 #[.pointer (some ⟨b, 0, none⟩), .int .i64 v, .int .i64 n] w fun e w' => e = .returned (.tuple #[]) ∧
      ∃ og', FW w' lo b og' (layX X N v n) (layN N n) ∧ (∀ g, og' = some g → og = some g ∨ w.heap.size ≤ g) ∧ But (b :: og.toList) w w' := by
  by_cases hn : n < 0 ∨ 24 < n
  · have hx : layX X N v n = X := by unfold layX; rw [if_pos hn]
    have hy : layN N n = N := by unfold layN; rw [if_pos hn]
    rw [hx, hy]
    clear hx hy
    rcases hn with hn | hn
    · go_enter Tryz.func48, Tryz.ntmps48
      go_wp2
      exact bodyPost_ret (results_none rfl _ _ _) rfl ⟨rfl, og, h, fun g e => .inl e, But.refl _ _⟩
    · have hn0 : ¬ n < 0 := by omega
      go_enter Tryz.func48, Tryz.ntmps48
      go_wp2
      exact bodyPost_ret (results_none rfl _ _ _) rfl ⟨rfl, og, h, fun g e => .inl e, But.refl _ _⟩
  · obtain ⟨m, rfl⟩ := Int.eq_ofNat_of_zero_le (show 0 ≤ n by omega)
    have hm : m ≤ 24 := by omega
    have d1 : decide ((m : Int) < 0) = false := by simp
    have d2 : decide ((24 : Int) < (m : Int)) = false := by simp; omega
    have hx : layX X N v (m : Int) = X + (v % 2 ^ m).toNat * 2 ^ N := by unfold layX; rw [if_neg hn]; rfl
    have hy : layN N (m : Int) = N + m := by unfold layN; rw [if_neg hn]; rfl
    rw [hx, hy]
    clear hx hy hn
    obtain ⟨i0, hi0, hz0, hz1, hz2⟩ := info_parts info_u8
    go_enter Tryz.func48, Tryz.ntmps48
    go_wp2
    go_loopw [6] (fun i wr => ∃ j : Nat, j ≤ m ∧ i = .int .i64 j ∧ ∃ og1, FW wr lo b og1 (X + (v % 2 ^ j).toNat * 2 ^ N) (N + j) ∧ (∀ g, og1 = some g → og = some g ∨ w.heap.size ≤ g) ∧ But (b :: og.toList) w wr) (fun i _ => m - (intOf i).toNat)
    case atStart => exact ⟨0, Nat.zero_le _, rfl, og, by simpa using h, fun g e => .inl e, But.refl _ _⟩
    case round =>
      obtain ⟨j, hj, rfl, og1, hF, hf, hB⟩ := hrel
      by_cases hlt : j < m
      · generalize hM : N + j = M at *
        have HM := Lib.hid hM
        have hMb : M ≤ 140737488355400 := by omega
        clear hM h
        have hmid : ∃ (x : Value) (L : List UInt8), Is wr b 79 #[x, .int .i64 (M : Nat)] ∧ wr.ownsRow lo 5 1 x L.length (cellsOf L) ∧ x.ownBlock = og1 ∧ L.length = (M + 7) / 8 ∧ num L = X + (v % 2 ^ j).toNat * 2 ^ N ∧ X + (v % 2 ^ j).toNat * 2 ^ N < 2 ^ M := hF
        clear hF
        obtain ⟨x, L, hi, hown, hog, hlen, hnum, hX⟩ := hmid
        have hbl : b < wr.heap.size := hi.lt
        have hsz := hB.size
        have h1 : wr.cell? ⟨b, 1, none⟩ = some (.int .i64 (M : Nat)) := hi.cell 1
        have f0 : wr.frozen? ⟨b, 0, none⟩ = false := hi.free 0
        have f1 : wr.frozen? ⟨b, 1, none⟩ = false := hi.free 1
        have hne := own_ne hown hi (by decide)
        have hLb : L.length ≤ 17592186044500 := by omega
        have HI := Lib.hid hi
        have HX := Lib.hid hnum
        have HL := Lib.hid hlen
        clear hnum hlen
        by_cases h8 : M % 8 = 0
        case' pos =>
          have h0 : wr.cell? ⟨b, 0, none⟩ = some x := hi.cell 0
          have t8 : ((M : Int) % 8 == 0) = true := by rw [beq_iff_eq]; omega
          clear hi
          go_wp2_with (at_builtin; refine wpList_append_lies _ rfl _ _ _ rfl lo 5 i0 _ 1 1 Tryz.underlying40 hi0 hz0 hz1 hz2 rfl (by omega) x L.length (cellsOf L) rfl (hown.alloc _) ⟨wr.heap.size, 0, none⟩ 1 1 [.int .u8 0] rfl rfl (cell_one_new _ _ _) (by simp [Value.oneCell']) (by omega) (by unfold maxLen; omega) (by omega) (by simp; omega) (wr.heap.size + 1) (by simp) ?_; intro g c w1 hown2 hgrow hat hlt2; have hi2 := ((HI.out.alloc (.cells #[.int .u8 0] 5)).grown hgrow (Ne.symm hne)); have g0 : w1.cell? ⟨b, 0, none⟩ = some x := hi2.cell 0; have g1 : w1.cell? ⟨b, 1, none⟩ = some (.int .i64 (M : Nat)) := hi2.cell 1; have g2 : w1.frozen? ⟨b, 0, none⟩ = false := hi2.free 0; have g3 : w1.frozen? ⟨b, 1, none⟩ = false := hi2.free 1; have HI2 := Lib.hid hi2; clear hi2)
          have hF := fmid_grow h8 hX hog hf hB HI.out HX.out HL.out hown hown2 hgrow hat
          clear g0 g1 g2 g3 h0 h1 f0 f1 hown hown2 hgrow hat HI2 hog hf HI HX HL hne hLb hlt2 t8 h8
          generalize w1.setCell ⟨b, 0, none⟩ (.slice (some ⟨g, 0, none⟩) (L.length + 1) c) = W at *
          generalize L ++ [0] = L' at *
        case' neg =>
          have t8 : ((M : Int) % 8 == 0) = false := by rw [beq_eq_false_iff_ne]; omega
          have hpos : 0 < L.length := by have := HL.out; omega
          obtain ⟨g, c, rfl, _, hlt2⟩ := hown.form hpos
          have h0 : wr.cell? ⟨b, 0, none⟩ = some (.slice (some ⟨g, 0, none⟩) L.length c) := hi.cell 0
          clear hi
          go_wp2_with fail
          have hF : FMid w wr lo b g c og (X + (v % 2 ^ j).toNat * 2 ^ N) M L := ⟨HI.out, hown, by have := HL.out; omega, HX.out, hX, hf g (hog ▸ rfl), hB⟩
          clear h0 h1 f0 f1 hown hog hf HI HX HL hne hLb hlt2 t8 h8 hpos
          generalize hLL : L = L' at *
          generalize hWW : wr = W at *
        all_goals
          obtain ⟨hi3, ho3, hl3, hn3, hx3, hg3, hb3⟩ := hF.drew
          refine wp_region_still_tail 33 (by kernel_rfl) (by kernel_rfl) ?_
          simp only [List.take_succ_cons, List.take_zero, List.drop_succ_cons, List.drop_zero]
          change wpStill _ _ W.drew (fun a' => wpList _ _ _ _ a' W.drew) _ _
          generalize W.drew = W at *
          have c0 : W.cell? ⟨b, 0, none⟩ = some (.slice (some ⟨g, 0, none⟩) L'.length c) := hi3.cell 0
          have c1 : W.cell? ⟨b, 1, none⟩ = some (.int .i64 (M : Nat)) := hi3.cell 1
          have e1 : W.frozen? ⟨b, 1, none⟩ = false := hi3.free 1
          have hk : M / 8 < L'.length := by omega
          have ce : W.cell? ⟨g, M / 8, none⟩ = some (.int .u8 ((L'[M / 8]'hk).toNat : Int)) := own_cell ho3 hk
          have ef : W.frozen? ⟨g, M / 8, none⟩ = false := ho3.frozenAt _
          have hgb : g ≠ b := fun e => own_ne ho3 hi3 (by decide) (by rw [e]; rfl)
          have HI3 := Lib.hid hi3
          have HL3 := Lib.hid hl3
          have HN3 := Lib.hid hn3
          have hidx : (M : Int) / 8 < (L'.length : Int) := by omega
          have hidx0 : 0 ≤ (M : Int) / 8 := by omega
          clear hi3 hl3 hn3
          generalize hy : L'[M / 8] = y at *
          have q1 : IntKind.i64.wrap ((M : Int) / 8) = (M : Int) / 8 := IntWalk.i64_in _ (by omega)
          have q2 : ((M : Int) / 8).toNat = M / 8 := by omega
          have q3 : 0 ≤ (M : Int) % 8 := by omega
          have q4 : IntKind.i64.wrap ((M : Int) % 8) = (M : Int) % 8 := IntWalk.i64_in _ (by omega)
          have q5 : ((M : Int) % 8).toNat = M % 8 := by omega
          have q6 : min (M % 8) 8 = M % 8 := by omega
          have q7 : (M : Int).tmod 8 = (M : Int) % 8 := Int.tmod_eq_emod_of_nonneg (by omega)
          repeat still_step
          refine wpStill_nil ?_
          clear q1 q2 q3 q4 q5 q6 q7
          go_wp2
          go_roundw
          case rel => exact ⟨j + 1, by omega, by go_num, fmid_step HM.out HI3.out ho3 HL3.out HN3.out hx3 hg3 hb3 hk hy⟩
          case measure => simp [intOf]; omega
      · obtain rfl : j = m := by omega
        clear h
        go_wp2
        go_end0
        exact ⟨rfl, og1, hF, hf, hB⟩
end Go.Proofs.YtghegmbafbpnjaaGreatDoor
namespace Go.Proofs.YtghegmbafbpnjaaGreatDoor
set_option maxRecDepth 100000
open Go Go.RowKit
theorem But.fresh {w w1 w2 : World} {S : List Nat} (h : But [] w w1) (k : But S w1 w2) (hS : ∀ i ∈ S, w.heap.size ≤ i) : But [] w w2 :=
  ⟨k.os.trans h.os, k.tape.trans h.tape, k.output.trans h.output, Nat.le_trans h.size k.size, fun i hi _ =>
    (k.block i (Nat.lt_of_lt_of_le hi h.size) (fun e => by have := hS i e; omega)).trans (h.block i hi (by simp))⟩
theorem But.belowNew {w w' : World} (h : But [] w w') : Below w.heap.size w w' := ⟨h.os, h.tape, h.output, h.size, fun k hk => h.block k hk (by simp)⟩
theorem new_at (w : World) (lo H : Nat) (hH : w.heap.size = H) :
    Calls Tryz.prog 37 #[] w fun e w' => e = .returned (.pointer (some ⟨H, 0, none⟩)) ∧ WS w' lo H none 0 0 ∧ But [] w w' ∧ w'.heap.size = H + 1 := by
  subst hH
  refine (bits_new w).mono ?_
  rintro e w' ⟨rfl, rfl⟩
  exact ⟨rfl, ws_new w lo, (But.refl [] w).alloc _, by simp⟩
end Go.Proofs.YtghegmbafbpnjaaGreatDoor
