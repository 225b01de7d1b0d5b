/- Several texts in one: Writer, WriteB, WriteC, Awake, ZlA, Codes, Ints, Check (what Back, Heads, Told reach of them). -/
import Derived.Test.YtghegmbafbpnjaaDoorPm01
import Derived.Below
import Derived.BigQuiet
import Derived.BigRegion
import Derived.Deep.AppendLies
import Derived.Deep.CutRange
import Derived.Deep.DeepCutAuto
import Derived.Deep.Draws
import Derived.Deep.QuietTactic
import Derived.Deep.RegionLaw
import Derived.Deep.RegionWith
import Derived.Deep.Slices
import Derived.Laws.BitsAllLaws
import Derived.Laws.BitsLemmas
import Derived.Laws.IdiomStrings
import Derived.Laws.OwnMore
import Derived.Laws.Rows
import Derived.Lib.AppendStr
import Derived.Lib.Hide
import Derived.Lib.Strings
import Derived.OneCell
import Derived.OpenShut
import Derived.Outline
import Derived.OwnWalk
import Derived.ProofKit
import Derived.RegionTactic
import Derived.StillTailTactics
import Derived.Test.YtghegmbafbpnjaaDoorChecked
import Derived.WalkKit
import Derived.WalkLawsBesides
import Derived.WalkSpells
set_option maxRecDepth 100000
set_option linter.unusedVariables false
namespace Go.Proofs.YtghegmbafbpnjaaDoor
set_option maxRecDepth 100000
open Go Go.RowKit
/-- Bytes as cells. -/
def cellsOf (l : List UInt8) : List Value := l.map fun x => .int .u8 (x.toNat : Int)
theorem cellsOf_length (l : List UInt8) : (cellsOf l).length = l.length := by simp [cellsOf]
theorem cellsOf_snoc (l : List UInt8) (x : UInt8) : cellsOf (l ++ [x]) = cellsOf l ++ [.int .u8 (x.toNat : Int)] := by simp [cellsOf]
theorem info_u8 : (Tryd.prog.info? 5).map (fun i => (i.zero, i.size, i.bytes)) = some (some (.int .u8 0), 1, 1) := by kernel_rfl

/-- A writer in block b: N bits are laid, the number X; its bytes lie in block og. -/
def WS (w : World) (lo b : Nat) (og : Option Nat) (X N : Nat) : Prop :=
  ∃ (v : Value) (L : List UInt8) (part : Nat), Is w b 76 #[v, .int .i64 part, .int .i64 (N % 8 : Nat)] ∧ w.ownsRow lo 5 1 v L.length (cellsOf L) ∧ v.ownBlock = og ∧
    L.length = N / 8 ∧ num L + 256 ^ L.length * part = X ∧ part < 2 ^ (N % 8)
/-- What has been laid by Bits(v, n). -/
def layN (N : Nat) (n : Int) : Nat := if n < 0 ∨ 24 < n then N else N + n.toNat
def layX (X N : Nat) (v n : Int) : Nat := if n < 0 ∨ 24 < n then X else X + (v % 2 ^ n.toNat).toNat * 2 ^ N

set_option maxHeartbeats 1000000 in
theorem bits_new (w : World) :
    Calls Tryd.prog 23 #[] w fun e w' => e = .returned (.pointer (some ⟨w.heap.size, 0, none⟩)) ∧ w' = w.alloc (.cells #[.slice none 0 0, .int .i64 0, .int .i64 0] 76) := by
  go_enter Tryd.func23, Tryd.ntmps23
  go_wp2
  go_ret
  exact ⟨rfl, rfl⟩
theorem ws_new (w : World) (lo : Nat) : WS (w.alloc (.cells #[.slice none 0 0, .int .i64 0, .int .i64 0] 76)) lo w.heap.size none 0 0 :=
  ⟨.slice none 0 0, [], 0, Is.fresh w _ _, World.ownsRow_nil _ _ _ _, rfl, rfl, by decide, by decide⟩

theorem lay_part (v : Int) (part m u : Nat) (hm : m ≤ 24) (hu : u ≤ 7) (hp : part < 2 ^ u) :
    Go.bits .or .i64 (part : Int) (wrap64 (Go.bits .and .i64 v (wrap64 (wrap64 (2 ^ m) - 1)) * 2 ^ u)) = ((part + (v % 2 ^ m).toNat * 2 ^ u : Nat) : Int) := by
  rw [mask_word m hm, i64_mask v m (by omega)]
  have hpos : (0 : Int) < 2 ^ m := by
    have := Nat.two_pow_pos m
    have e : ((2 : Int) ^ m) = ((2 ^ m : Nat) : Int) := by simp
    omega
  have h0 := Int.emod_nonneg v (show (2 : Int) ^ m ≠ 0 by omega)
  have h1 := Int.emod_lt_of_pos v hpos
  have hm2 : 2 ^ m ≤ 2 ^ 24 := Nat.pow_le_pow_right (by decide) hm
  have e : ((2 : Int) ^ m) = ((2 ^ m : Nat) : Int) := by simp
  have hz : (v % 2 ^ m).toNat < 2 ^ m := by omega
  have ez : v % 2 ^ m = (((v % 2 ^ m).toNat : Nat) : Int) := by omega
  generalize (v % 2 ^ m).toNat = z at *
  rw [ez, int_pow]
  have hu2 : 2 ^ u ≤ 2 ^ 7 := Nat.pow_le_pow_right (by decide) hu
  have hzu : z * 2 ^ u ≤ 2 ^ 24 * 2 ^ 7 := Nat.mul_le_mul (by omega) hu2
  have ew : wrap64 ((z * 2 ^ u : Nat) : Int) = ((z * 2 ^ u : Nat) : Int) := IntWalk.wrap64_in _ ⟨by omega, by omega⟩
  rw [ew]
  exact i64_join _ _ u (by omega) hp (Nat.mul_mod_left z _) (by omega)

/-- The writer in the middle of its loop: j bytes of P have been handed on. -/
def WMid (w w' : World) (lo b : Nat) (og : Option Nat) (X' P k u j : Nat) : Prop :=
  ∃ (v : Value) (L : List UInt8), Is w' b 76 #[v, .int .i64 (P / 256 ^ j : Nat), .int .i64 (u : Nat)] ∧ w'.ownsRow lo 5 1 v L.length (cellsOf L) ∧
    L.length = k + j ∧ num L + 256 ^ L.length * (P / 256 ^ j) = X' ∧ (∀ g, v.ownBlock = some g → og = some g ∨ w.heap.size ≤ g) ∧ But (b :: og.toList) w w'

theorem own_ne {w : World} {base b n size : Nat} {e t : TypeId} {v : Value} {xs : List Value} {cs : Array Value} (h : w.ownsRow base e size v n xs) (hb : Is w b t cs) (hne : e ≠ t) : v.ownBlock ≠ some b := by
  rcases h.2 with ⟨rfl, _⟩ | ⟨g, cap, cur, rfl, _, hh, _⟩
  · simp [Value.ownBlock]
  · intro he
    have he' : g = b := by simpa [Value.ownBlock] using he
    subst he'
    exact Is.ne (w := w) (t := e) hh hb hne rfl

theorem part_lt (v : Int) (part m u V : Nat) (hV : (v % 2 ^ m).toNat = V) (hp : part < 2 ^ u) : part + V * 2 ^ u < 2 ^ (u + m) := by
  have e : ((2 : Int) ^ m) = ((2 ^ m : Nat) : Int) := by simp
  have hpos := Nat.two_pow_pos m
  have h1 := Int.emod_lt_of_pos v (show (0 : Int) < 2 ^ m by omega)
  have hz : V + 1 ≤ 2 ^ m := by omega
  have := Nat.mul_le_mul_right (2 ^ u) hz
  rw [Nat.pow_add, Nat.mul_comm (2 ^ u)]
  rw [Nat.add_mul] at this
  omega
theorem num_step (L : List UInt8) (q : Nat) : num (L ++ [UInt8.ofNat q]) + 256 ^ (L.length + 1) * (q / 256) = num L + 256 ^ L.length * q := by
  have h : (UInt8.ofNat q).toNat = q % 256 := UInt8.toNat_ofNat'
  rw [num_snoc, h, Nat.pow_succ, Nat.add_assoc, Nat.mul_assoc, ← Nat.mul_add]
  congr 2
  omega
theorem wmid_step {w wr w1 : World} {lo b gg cap j q k u P X' : Nat} {og : Option Nat} {v1 : Value} {L1 : List UInt8}
    (hi1 : Is wr b 76 #[v1, .int .i64 (q : Nat), .int .i64 (u : Nat)]) (hl : L1.length = k + j) (hx : num L1 + 256 ^ L1.length * q = X') (hq : q = P / 256 ^ j)
    (hg1 : ∀ g, v1.ownBlock = some g → og = some g ∨ w.heap.size ≤ g) (hb1 : But (b :: og.toList) w wr) (hown1 : wr.ownsRow lo 5 1 v1 L1.length (cellsOf L1))
    (hown2 : w1.ownsRow lo 5 1 (.slice (some ⟨gg, 0, none⟩) (L1.length + 1) cap) (L1.length + 1) (cellsOf L1 ++ [.int .u8 (IntKind.u8.wrap q)]))
    (hgrow : ((wr.alloc (.cells #[.int .u8 (IntKind.u8.wrap q)] 5)).drew).grownBy w1 v1.ownBlock) (hat : v1.ownBlock = some gg ∨ gg = wr.heap.size + 1) :
    WMid w ((w1.setCell ⟨b, 0, none⟩ (.slice (some ⟨gg, 0, none⟩) (L1.length + 1) cap)).setCell ⟨b, 1, none⟩ (.int .i64 ((q : Int) / 256))) lo b og X' P k u (j + 1) := by
  have hne := own_ne hown1 hi1 (by decide)
  have hi2 := ((hi1.alloc (.cells #[.int .u8 (IntKind.u8.wrap q)] 5)).drew).grown hgrow (Ne.symm hne)
  have hne2 := own_ne hown2 hi2 (by decide)
  have hw : IntKind.u8.wrap q = ((UInt8.ofNat q).toNat : Int) := by
    have h : (UInt8.ofNat q).toNat = q % 256 := UInt8.toNat_ofNat'
    rw [h, IntKind.wrap_u8]; omega
  have ho : w1.ownsRow lo 5 1 (.slice (some ⟨gg, 0, none⟩) (L1.length + 1) cap) (L1 ++ [UInt8.ofNat q]).length (cellsOf (L1 ++ [UInt8.ofNat q])) := by
    rw [cellsOf_snoc, ← hw, List.length_append]; exact hown2
  have hS := hb1.size
  have hB := ((hb1.alloc (.cells #[.int .u8 (IntKind.u8.wrap q)] 5)).drew).grown hgrow (fun g e => by
    rcases hg1 g e with h | h
    · subst h; exact .inl (by simp)
    · exact .inr h)
  have e2 : ((q : Int) / 256) = ((q / 256 : Nat) : Int) := by omega
  have e3 : q / 256 = P / 256 ^ (j + 1) := by rw [hq, Nat.pow_succ, Nat.div_div_eq_div_mul]
  rw [e2]
  refine ⟨.slice (some ⟨gg, 0, none⟩) (L1.length + 1) cap, L1 ++ [UInt8.ofNat q], ?_, ?_, ?_, ?_, ?_, ?_⟩
  · rw [← e3]
    simpa using (hi2.put 0 (.slice (some ⟨gg, 0, none⟩) (L1.length + 1) cap)).put 1 (.int .i64 ((q / 256 : Nat) : Int))
  · exact ownsRow_setCell_other (ownsRow_setCell_other ho (a := ⟨b, 0, none⟩) hne2 _) (a := ⟨b, 1, none⟩) hne2 _
  · simp; omega
  · rw [← e3, List.length_append, List.length_singleton, num_step]; exact hx
  · intro g e
    have : gg = g := by simpa [Value.ownBlock] using e
    subst this
    rcases hat with h | h
    · exact hg1 _ h
    · exact .inr (by omega)
  · exact (hB.setCell (p := ⟨b, 0, none⟩) (.inl (by simp)) _).setCell (p := ⟨b, 1, none⟩) (.inl (by simp)) _
theorem ws_final {w' : World} {lo b N X P V m j q part : Nat} {v : Int} {v1 : Value} {L L1 : List UInt8} (hm : m ≤ 24)
    (hlen : L.length = N / 8) (hnum : num L + 256 ^ L.length * part = X) (hV : (v % 2 ^ m).toNat = V) (hP : part + V * 2 ^ (N % 8) = P) (hPlt : P < 2 ^ (N % 8 + m))
    (hj : j = (N % 8 + m) / 8) (hq : q = P / 256 ^ j) (hi1 : Is w' b 76 #[v1, .int .i64 (q : Nat), .int .i64 (N % 8 + m : Nat)]) (hl : L1.length = N / 8 + j)
    (hx : num L1 + 256 ^ L1.length * q = num L + 256 ^ L.length * P) (hown1 : w'.ownsRow lo 5 1 v1 L1.length (cellsOf L1)) :
    WS (w'.setCell ⟨b, 2, none⟩ (.int .i64 (((N : Int) + (m : Int)) % 8))) lo b v1.ownBlock (layX X N v (m : Int)) (layN N (m : Int)) := by
  have h24 : ¬ ((m : Int) < 0 ∨ 24 < (m : Int)) := by omega
  have e1 : layN N (m : Int) = N + m := by unfold layN; rw [if_neg h24]; rfl
  have e2 : layX X N v (m : Int) = X + V * 2 ^ N := by unfold layX; rw [if_neg h24, ← hV]; rfl
  have e3 : (((N : Int) + (m : Int)) % 8) = (((N + m) % 8 : Nat) : Int) := by omega
  rw [e1, e2, e3]
  refine ⟨v1, L1, q, ?_, ?_, rfl, by omega, ?_, ?_⟩
  · simpa using hi1.put 2 (.int .i64 (((N + m) % 8 : Nat) : Int))
  · exact ownsRow_setCell_other hown1 (a := ⟨b, 2, none⟩) (own_ne hown1 hi1 (by decide)) _
  · rw [hx, ← hP, ← hnum, Nat.mul_add, ← Nat.add_assoc, hlen, p256]
    congr 1
    rw [Nat.mul_left_comm, ← Nat.pow_add, show 8 * (N / 8) + N % 8 = N from by omega]
  · rw [hq, hj, p256]
    apply Nat.div_lt_of_lt_mul
    rw [← Nat.pow_add, show 8 * ((N % 8 + m) / 8) + (N + m) % 8 = N % 8 + m from by omega]
    exact hPlt

set_option maxHeartbeats 1000000 in
set_option maxRecDepth 100000 in
theorem WS.bits {w : World} {lo b : Nat} {og : Option Nat} {X N : Nat} (h : WS w lo b og X N) (hlo : lo ≤ w.heap.size) (hN : N ≤ 140737488355328) (v n : Int) :
    Calls Tryd.prog 38 #[.pointer (some ⟨b, 0, none⟩), .int .i64 v, .int .i64 n] w fun e w' => e = .returned (.tuple #[]) ∧
      ∃ og', WS w' lo b og' (layX X N v n) (layN N n) ∧ (∀ g, og' = some g → og = some g ∨ w.heap.size ≤ g) ∧ But (b :: og.toList) w w' := by
  by_cases hn : n < 0 ∨ 24 < n
  · have hx : layX X N v n = X := by unfold layX; rw [if_pos hn]
    have hy : layN N n = N := by unfold layN; rw [if_pos hn]
    rw [hx, hy]
    clear hx hy
    rcases hn with hn | hn
    · go_enter Tryd.func38, Tryd.ntmps38
      go_wp2
      exact bodyPost_ret (results_none rfl _ _ _) rfl ⟨rfl, og, h, fun g e => .inl e, But.refl _ _⟩
    · have hn0 : ¬ n < 0 := by omega
      go_enter Tryd.func38, Tryd.ntmps38
      go_wp2
      exact bodyPost_ret (results_none rfl _ _ _) rfl ⟨rfl, og, h, fun g e => .inl e, But.refl _ _⟩
  · obtain ⟨m, rfl⟩ := Int.eq_ofNat_of_zero_le (show 0 ≤ n by omega)
    have hm : m ≤ 24 := by omega
    obtain ⟨x, L, part, hi, hown, hog, hlen, hnum, hpart⟩ := h
    have h0 : w.cell? ⟨b, 0, none⟩ = some x := hi.cell 0
    have h1 : w.cell? ⟨b, 1, none⟩ = some (.int .i64 part) := hi.cell 1
    have h2 : w.cell? ⟨b, 2, none⟩ = some (.int .i64 (N % 8 : Nat)) := hi.cell 2
    have f0 : w.frozen? ⟨b, 0, none⟩ = false := hi.free 0
    have f1 : w.frozen? ⟨b, 1, none⟩ = false := hi.free 1
    have f2 : w.frozen? ⟨b, 2, none⟩ = false := hi.free 2
    have hn0 : ¬ (m : Int) < 0 := by omega
    have hn1 : ¬ (24 : Int) < (m : Int) := by omega
    go_enter Tryd.func38, Tryd.ntmps38
    go_wp2
    go_region
    have hlp := Lib.hid (lay_part v part m (N % 8) hm (by omega) hpart)
    generalize hV : (v % 2 ^ m).toNat = V at *
    have hPlt : part + V * 2 ^ (N % 8) < 2 ^ (N % 8 + m) := part_lt v part m (N % 8) V hV hpart
    generalize hP : part + V * 2 ^ (N % 8) = P at *
    go_wp2
    go_loopw [46] (fun i wr => ∃ j : Nat, j ≤ (N % 8 + m) / 8 ∧ i = .int .i64 j ∧ WMid w wr lo b og (num L + 256 ^ L.length * P) P (N / 8) (N % 8 + m) j) (fun i _ => (N % 8 + m) / 8 - (intOf i).toNat)
    case atStart =>
      refine ⟨0, Nat.zero_le _, rfl, x, L, ?_, ?_, by omega, by simp, fun g e => .inl (by rw [← hog]; exact e), ?_⟩
      · have e3 : ((N : Int) % 8 + (m : Int)) = ((N % 8 + m : Nat) : Int) := by omega
        rw [hlp.out, e3]
        have := ((hi.put 1 (.int .i64 (P : Int))).put 2 (.int .i64 ((N % 8 + m : Nat) : Int))).drew
        simpa using this
      · exact (ownsRow_setCell_other (ownsRow_setCell_other hown (a := ⟨b, 1, none⟩) (own_ne hown hi (by decide)) _) (a := ⟨b, 2, none⟩) (own_ne hown hi (by decide)) _).drew
      · exact (((But.refl (b :: og.toList) w).setCell (p := ⟨b, 1, none⟩) (.inl (by simp)) _).setCell (p := ⟨b, 2, none⟩) (.inl (by simp)) _).drew
    case round =>
      obtain ⟨j, hj, rfl, v1, L1, hi1, hown1, hl1, hx1, hg1, hb1⟩ := hrel
      obtain ⟨q, hq⟩ : ∃ q, q = P / 256 ^ j := ⟨_, rfl⟩
      rw [← hq] at hi1 hx1
      have HQ := Lib.hid hq
      clear hq
      by_cases hlt : j < (N % 8 + m) / 8
      · have c0 : wr.cell? ⟨b, 0, none⟩ = some v1 := hi1.cell 0
        have c1 : wr.cell? ⟨b, 1, none⟩ = some (.int .i64 (q : Nat)) := hi1.cell 1
        have c2 : wr.cell? ⟨b, 2, none⟩ = some (.int .i64 (N % 8 + m : Nat)) := hi1.cell 2
        have e0 : wr.frozen? ⟨b, 0, none⟩ = false := hi1.free 0
        have e1 : wr.frozen? ⟨b, 1, none⟩ = false := hi1.free 1
        have e2 : wr.frozen? ⟨b, 2, none⟩ = false := hi1.free 2
        have hne : v1.ownBlock ≠ some b := own_ne hown1 hi1 (by decide)
        have hbl : b < wr.heap.size := hi1.lt
        have hsz := hb1.size
        have HI := Lib.hid hi1
        have HX := Lib.hid hx1
        have HL := Lib.hid hl1
        clear hi hi1 h0 h1 h2 f0 f1 f2 hx1 hl1
        obtain ⟨i0, hi0, hz0, hz1, hz2⟩ := info_parts info_u8
        have hlen1 : L1.length + 1 ≤ 140737488355328 := by have := HL.out; omega
        go_wp2
        go_region_law (refine step_append_lies _ (by rfl) _ _ _ (by rfl) lo 5 i0 _ 1 1 Tryd.underlying27 hi0 hz0 hz1 hz2 rfl (by omega) v1 L1.length (cellsOf L1) (by rfl) ((hown1.alloc _).drew) ⟨wr.heap.size, 0, none⟩ 1 1 [.int .u8 (IntKind.u8.wrap q)] (by rfl) (by rfl) (World.news_of_block (cs := #[.int .u8 (IntKind.u8.wrap q)]) (t := 5) (fr := (0, 0)) (heap_alloc_new wr _)) (by simp [Value.oneCell']) (by omega) (by unfold maxLen; omega) (by omega) (by simp; omega) (wr.heap.size + 1) (by simp) ?_; intro gg cap w1 hown2 hgrow hat hlt2; have hi2 := (((HI.out.alloc (.cells #[.int .u8 (IntKind.u8.wrap q)] 5)).drew).grown hgrow (Ne.symm hne)); have g0 : w1.cell? ⟨b, 0, none⟩ = some v1 := hi2.cell 0; have g1 : w1.cell? ⟨b, 1, none⟩ = some (.int .i64 (q : Nat)) := hi2.cell 1; have g2 : w1.frozen? ⟨b, 0, none⟩ = false := hi2.free 0; have g3 : w1.frozen? ⟨b, 1, none⟩ = false := hi2.free 1; have HI2 := Lib.hid hi2; clear hi2)
        all_goals go_wp2
        all_goals go_roundw
        case rel => exact ⟨j + 1, by omega, by go_num, wmid_step HI.out HL.out HX.out HQ.out hg1 hb1 hown1 hown2 hgrow hat⟩
        case measure => simp [intOf]; omega
        case rel => exact ⟨j + 1, by omega, by go_num, wmid_step HI.out HL.out HX.out HQ.out hg1 hb1 hown1 hown2 hgrow hat⟩
        case measure => simp [intOf]; omega
        case rel => exact ⟨j + 1, by omega, by go_num, wmid_step HI.out HL.out HX.out HQ.out hg1 hb1 hown1 hown2 hgrow hat⟩
        case measure => simp [intOf]; omega
      · have c2 : wr.cell? ⟨b, 2, none⟩ = some (.int .i64 (N % 8 + m : Nat)) := hi1.cell 2
        have e2 : wr.frozen? ⟨b, 2, none⟩ = false := hi1.free 2
        have HI := Lib.hid hi1
        have HX := Lib.hid hx1
        have HL := Lib.hid hl1
        clear hi hi1 h0 h1 h2 f0 f1 f2 hx1 hl1
        go_wp2
        go_end0
        have hfin := ws_final (v := v) hm hlen hnum hV hP hPlt (show j = (N % 8 + m) / 8 by omega) HQ.out HI.out HL.out HX.out hown1
        exact ⟨rfl, v1.ownBlock, hfin, hg1, hb1.setCell (.inl (by simp)) _⟩
end Go.Proofs.YtghegmbafbpnjaaDoor
namespace Go.Proofs.YtghegmbafbpnjaaDoor
set_option maxRecDepth 100000
open Go Go.RowKit
/-- A string appended to bytes that are owned: where the row lies then. -/
theorem run_append_str {P : Program} (w : World) (base : Nat) (t u ty e : TypeId) (i : TypeInfo) (ht : P.underlying t = some (.slice e)) (hu : P.underlying u = some .string) (hi : P.info? e = some i) (hz : i.zero = some (.int .u8 0))
    (hsize : i.size = 1) (hby : i.bytes = 1) (v : Value) (n : Nat) (xs : List Value) (hown : w.ownsRow base e 1 v n xs) (s : ByteArray) (hbound : n + s.size ≤ 140737488355328) (hbase : base ≤ w.heap.size) :
    ∃ v' w', (Builtin.append_ #[t, u] ty #[v, .string s]).run P w = .ok v' w' ∧ w'.ownsRow base e 1 v' (n + s.size) (xs ++ Lib.strCells s) ∧ w.grownBy w' v.ownBlock ∧ (∀ g, v'.ownBlock = some g → v.ownBlock = some g ∨ w.heap.size ≤ g) := by
  obtain ⟨v', w', hr, ho, hg, hn⟩ := Lib.run_append_own_string (P := P) w base t u ty e i ht hu hi hz hsize hby v n xs hown s (by unfold maxLen; omega) hbound hbase
  refine ⟨v', w', hr, ho, hg, fun g eg => ?_⟩
  have hok : ∀ {a : Value} {wa : World}, (Builtin.append_ #[t, u] ty #[v, .string s]).run P w = .ok a wa → v' = a := fun h => (Result.ok.inj (hr.symm.trans h)).1
  rcases hown.2 with ⟨rfl, rfl⟩ | ⟨g0, cap, cur, rfl, hbg, hgc, hnc, hcm, hcs, htake⟩
  · by_cases h0 : s.size = 0
    · rw [hn.2 ⟨rfl, h0⟩] at eg; simp [Value.ownBlock] at eg
    · have h := hok (run_append_nil_string (P := P) w t u ty e i (.int .u8 0) ht hu hi hz s (by omega) (by omega) (by rw [hby]; omega))
      rw [h] at eg
      simp [Value.ownBlock] at eg
      exact .inr (by omega)
  · by_cases hroom : n + s.size ≤ cap
    · have h := hok (Lib.run_append_room_string (P := P) w t u ty e i ht hu hi hsize g0 n cap cur hgc s hroom (by omega))
      rw [h] at eg
      exact .inl eg
    · have holds : ∀ j x, xs[j]? = some x → w.cell? ((⟨g0, 0, none⟩ : Addr).add j) = some x := hown.cells (g := g0) rfl
      have h := hok (Lib.run_append_grow_string (P := P) w t u ty e i (.int .u8 0) ht hu hi hz ⟨g0, 0, none⟩ n cap xs (by rw [hsize]; exact hown.1) holds s (by omega) (by omega) (by rw [hby]; exact growslice_fits (by omega) (by omega)))
      rw [h] at eg
      simp [Value.ownBlock] at eg
      exact .inr (by omega)
theorem own_slice {w : World} {base n size : Nat} {e : TypeId} {v : Value} {xs : List Value} (h : w.ownsRow base e size v n xs) : ∃ A c, v = .slice A n c ∧ n ≤ c := by
  rcases h.2 with ⟨rfl, rfl⟩ | ⟨g, cap, cur, rfl, _, _, hc, _⟩
  · exact ⟨none, 0, rfl, Nat.le_refl _⟩
  · exact ⟨_, cap, rfl, hc⟩
theorem wpList_append_str {P : Program} (w : World) {ops : Array Oper} {rest : List Oper} {o : Oper} {a : Act} {Q : Exit → Act → World → Prop} (hgd : o.guard = none) (sl x : Operand) (t u : TypeId)
    (ho : o.op = .call { callee := .builtin .append, args := #[sl, x], argTypes := #[t, u] })
    (base : Nat) (e : TypeId) (i : TypeInfo) (ht : P.underlying t = some (.slice e)) (hu : P.underlying u = some .string) (hi : P.info? e = some i) (hz : i.zero = some (.int .u8 0))
    (hsize : i.size = 1) (hby : i.bytes = 1) (v : Value) (n : Nat) (xs : List Value) (hs : a.eval sl = v) (hown : w.ownsRow base e 1 v n xs) (s : ByteArray) (hx : a.eval x = .string s)
    (hbound : n + s.size ≤ 140737488355328) (hbase : base ≤ w.heap.size)
    (h : ∀ A c w', w'.ownsRow base e 1 (.slice A (n + s.size) c) (n + s.size) (xs ++ Lib.strCells s) → w.grownBy w' v.ownBlock → (∀ g, (Value.slice A (n + s.size) c).ownBlock = some g → v.ownBlock = some g ∨ w.heap.size ≤ g) → wpList P ops Q rest (a.put o.dst (.slice A (n + s.size) c)) w') : wpList P ops Q (o :: rest) a w := by
  refine wpList_plain hgd fun K hK => ?_
  obtain ⟨v', w', hr, h2, h3, h4⟩ := run_append_str (P := P) w base t u o.type e i ht hu hi hz hsize hby v n xs hown s hbound hbase
  obtain ⟨A, c, rfl, _⟩ := own_slice h2
  unfold Oper.wp execOp
  simp only [ho, resolve, invoke, builtin, Sem.run_bind, Sem.run_pure, Result.andThen_ok, List.map_toArray, List.map_cons, List.map_nil, hs, hx, hr]
  exact hK _ _ (h A c w' h2 h3 h4)

theorem ownsRow_but {w w' : World} {base n size : Nat} {e : TypeId} {v : Value} {xs : List Value} {S : List Nat} (h : w.ownsRow base e size v n xs) (hw : But S w w') (hS : ∀ g, v.ownBlock = some g → g ∉ S) : w'.ownsRow base e size v n xs := by
  obtain ⟨h1, h2⟩ := h
  refine ⟨h1, ?_⟩
  rcases h2 with h2 | ⟨g, cap, cur, rfl, hg, hh, r⟩
  · exact .inl h2
  · have hlt : g < w.heap.size := (Array.getElem?_eq_some_iff.1 hh).1
    exact .inr ⟨g, cap, cur, rfl, hg, (hw.block g hlt (hS g rfl)).trans hh, r⟩
set_option maxRecDepth 100000 in
theorem WS.but {w w' : World} {lo b X N : Nat} {og : Option Nat} {S : List Nat} (h : WS w lo b og X N) (hw : But S w w') (hb : b ∉ S) (hg : ∀ g, og = some g → g ∉ S) : WS w' lo b og X N := by
  obtain ⟨v, L, part, hi, hown, hog, r⟩ := h
  exact ⟨v, L, part, hi.but hw hb, ownsRow_but hown hw (fun g e => hg g (by rw [← hog]; exact e)), hog, r⟩
set_option maxRecDepth 100000 in
theorem WS.lt {w : World} {lo b X N : Nat} {og : Option Nat} (h : WS w lo b og X N) : b < w.heap.size ∧ ∀ g, og = some g → g < w.heap.size ∧ g ≠ b := by
  obtain ⟨v, L, part, hi, hown, hog, r⟩ := h
  refine ⟨hi.lt, fun g e => ?_⟩
  subst hog
  exact ⟨(hown.lt g e).2, fun e2 => own_ne hown hi (by decide) (by rw [e, e2])⟩

theorem own_text {w : World} {base n : Nat} {v : Value} {L : List UInt8} (h : w.ownsRow base 5 1 v n (cellsOf L)) : (convert 27 9 v).run Tryd.prog w = .ok (.string ⟨L.toArray⟩) w := by
  have hl : L.length = n := by have := h.1; rw [cellsOf_length] at this; omega
  rcases h.2 with ⟨rfl, rfl⟩ | ⟨g, cap, cur, rfl, _⟩
  · have : L = [] := List.eq_nil_of_length_eq_zero hl
    subst this
    exact ByteRow.text ⟨rfl, fun h => absurd h (by simp)⟩
  · refine ByteRow.text ⟨hl, fun _ => ⟨g, 0, rfl, fun i hi => ?_⟩⟩
    have hc := h.cells (g := g) rfl i (.int .u8 (L[i].toNat : Int)) (by simp [cellsOf, hi])
    have e2 : (⟨g, 0, none⟩ : Addr).add i = ⟨g, 0 + i, none⟩ := by unfold Addr.add; split <;> simp_all
    rw [e2] at hc
    exact hc
theorem cellsOf_append (a b : List UInt8) : cellsOf (a ++ b) = cellsOf a ++ cellsOf b := by simp [cellsOf]

def bytesN (N : Nat) (s : ByteArray) : Nat := 8 * ((N + 7) / 8) + 8 * s.size
def bytesX (X N : Nat) (s : ByteArray) : Nat := X + num s.data.toList * 2 ^ (8 * ((N + 7) / 8))

set_option maxHeartbeats 1000000 in
set_option maxRecDepth 100000 in
theorem WS.bytes {w : World} {lo b : Nat} {og : Option Nat} {X N : Nat} (h : WS w lo b og X N) (hlo : lo ≤ w.heap.size) (hN : N ≤ 140737488355328) (s : ByteArray) (hs : s.size ≤ 70368744177664) :
    Calls Tryd.prog 39 #[.pointer (some ⟨b, 0, none⟩), .string s] w fun e w' => e = .returned (.tuple #[]) ∧
      ∃ og', WS w' lo b og' (bytesX X N s) (bytesN N s) ∧ (∀ g, og' = some g → og = some g ∨ w.heap.size ≤ g) ∧ But (b :: og.toList) w w' := by
  have h' := h
  obtain ⟨x, L, part, hi, hown, hog, hlen, hnum, hpart⟩ := h'
  have h0 : w.cell? ⟨b, 0, none⟩ = some x := hi.cell 0
  have h2 : w.cell? ⟨b, 2, none⟩ = some (.int .i64 (N % 8 : Nat)) := hi.cell 2
  clear hown hog hlen hnum hpart hi
  go_enter Tryd.func39, Tryd.ntmps39
  go_upto_if 10 with (fail)
  go_cut [] (fun w1 => ∃ og1, WS w1 lo b og1 X (8 * ((N + 7) / 8)) ∧ (∀ g, og1 = some g → og = some g ∨ w.heap.size ≤ g) ∧ But (b :: og.toList) w w1)
  case first =>
    by_cases hu : 0 < N % 8
    · go_wp2_with (go_at_call 38; refine (h.bits hlo hN 0 (8 - (N : Int) % 8)).mono ?_; rintro e w' ⟨rfl, hpost⟩)
      go_meet
      obtain ⟨og1, hW, hf, hB⟩ := hpost
      have e1 : layX X N 0 (8 - (N : Int) % 8) = X := by unfold layX; split <;> simp
      have e2 : layN N (8 - (N : Int) % 8) = 8 * ((N + 7) / 8) := by unfold layN; rw [if_neg (by omega)]; omega
      rw [e1, e2] at hW
      exact ⟨og1, hW, hf, hB⟩
    · go_wp2
      go_meet
      rw [show 8 * ((N + 7) / 8) = N from by omega]
      exact ⟨og, h, fun g e => .inl e, But.refl _ _⟩
  case rest =>
    obtain ⟨og1, hW, hf, hB⟩ := hcut
    clear h0 h2 h
    obtain ⟨x, L, part, hi, hown, hog, hlen, hnum, hpart⟩ := hW
    have h0 : wc.cell? ⟨b, 0, none⟩ = some x := hi.cell 0
    have hsz := hB.size
    have hpart0 : part = 0 := by have e : 8 * ((N + 7) / 8) % 8 = 0 := by omega
                                 rw [e] at hpart; omega
    subst hpart0
    have hne := own_ne hown hi (by decide)
    have hLb : L.length ≤ 17592186044417 := by omega
    have HL := Lib.hid hlen
    have HX := Lib.hid hnum
    have HI := Lib.hid hi
    clear hlen hnum hpart hi
    obtain ⟨i0, hi0, hz0, hz1, hz2⟩ := info_parts info_u8
    go_wp2_with (at_builtin; refine wpList_append_str _ rfl _ _ 27 9 rfl lo 5 i0 Tryd.underlying27 Tryd.underlying9 hi0 hz0 hz1 hz2 x L.length (cellsOf L) rfl hown s rfl (by omega) (by omega) ?_; intro A2 c2 w2 hown2 hgrow hat; have hi2 := HI.out.grown hgrow (Ne.symm hne); have g0 : w2.cell? ⟨b, 0, none⟩ = some x := hi2.cell 0; have g1 : w2.frozen? ⟨b, 0, none⟩ = false := hi2.free 0; have HI2 := Lib.hid hi2; clear hi2)
    go_end0
    have hB2 := (hB.grown hgrow (fun g e => by
      have e1 : og1 = some g := hog ▸ e
      rcases hf g e1 with h | h
      · subst h; exact .inl (by simp)
      · exact .inr h))
    have hpos : 8 * ((N + 7) / 8) / 8 = (N + 7) / 8 := by omega
    refine ⟨rfl, (Value.slice A2 (L.length + s.size) c2).ownBlock, ⟨_, L ++ s.data.toList, 0, ?_, ?_, rfl, ?_, ?_, by unfold bytesN; exact Nat.two_pow_pos _⟩, fun g e => ?_, hB2.setCell (.inl (by simp)) _⟩
    · have e8 : bytesN N s % 8 = 8 * ((N + 7) / 8) % 8 := by unfold bytesN; omega
      rw [e8]
      simpa using HI2.out.put 0 (.slice A2 (L.length + s.size) c2)
    · have ho : w2.ownsRow lo 5 1 (.slice A2 (L.length + s.size) c2) (L ++ s.data.toList).length (cellsOf (L ++ s.data.toList)) := by
        rw [List.length_append, cellsOf_append]
        exact hown2
      exact ownsRow_setCell_other ho (a := ⟨b, 0, none⟩) (own_ne hown2 HI2.out (by decide)) _
    · rw [List.length_append, HL.out]
      unfold bytesN
      have : s.data.toList.length = s.size := Array.length_toList
      omega
    · have hX := HX.out
      unfold bytesX
      rw [num_append, ← hX, HL.out, hpos, p256]
      simp [Nat.mul_comm]
    · rcases hat g e with h | h
      · exact hf g (hog ▸ h)
      · exact .inr (by omega)
end Go.Proofs.YtghegmbafbpnjaaDoor
namespace Go.Proofs.YtghegmbafbpnjaaDoor
set_option maxRecDepth 100000
open Go Go.RowKit
/-- The text of a writer. -/
def textOf (X N : Nat) : ByteArray := ⟨(bytesOf ((N + 7) / 8) X).toArray⟩
theorem textOf_size (X N : Nat) : (textOf X N).size = (N + 7) / 8 := by
  show (bytesOf ((N + 7) / 8) X).toArray.size = _
  simp [length_bytesOf]

theorem bytes_snoc (L : List UInt8) (y : UInt8) : (⟨L.toArray⟩ ++ ⟨#[y]⟩ : ByteArray) = ⟨(L ++ [y]).toArray⟩ := by
  apply ByteArray.ext; simp
set_option maxHeartbeats 1000000 in
set_option maxRecDepth 100000 in
theorem WS.text {w : World} {lo b : Nat} {og : Option Nat} {X N : Nat} (h : WS w lo b og X N) (hN : N ≤ 140737488355328) :
    Calls Tryd.prog 26 #[.pointer (some ⟨b, 0, none⟩)] w fun e w' => e = .returned (.string (textOf X N)) ∧ But [] w w' := by
  obtain ⟨x, L, part, hi, hown, hog, hlen, hnum, hpart⟩ := h
  have h0 : w.cell? ⟨b, 0, none⟩ = some x := hi.cell 0
  have h1 : w.cell? ⟨b, 1, none⟩ = some (.int .i64 part) := hi.cell 1
  have h2 : w.cell? ⟨b, 2, none⟩ = some (.int .i64 (N % 8 : Nat)) := hi.cell 2
  have hcv := own_text hown
  have hLb : L.length ≤ 17592186044416 := by omega
  have HL := Lib.hid hlen
  have HX := Lib.hid hnum
  clear hi hown hog hlen hnum
  by_cases hu : 0 < N % 8
  · have hp7 : 2 ^ (N % 8) ≤ 2 ^ 7 := Nat.pow_le_pow_right (by decide) (by omega)
    obtain ⟨y, rfl⟩ : ∃ y : UInt8, y.toNat = part := ⟨UInt8.ofNat part, by
      have h : (UInt8.ofNat part).toNat = part % 256 := UInt8.toNat_ofNat'
      omega⟩
    have hylt := y.toNat_lt
    have hcv2 := own_text (L := [y]) (World.ownsRow_lit (base := w.heap.size) (e := 5) (size := 1) w #[.int .u8 (y.toNat : Int)] 1 (Nat.le_refl _) (by unfold maxLen; omega) rfl)
    clear hp7 hpart
    go_enter Tryd.func26, Tryd.ntmps26
    go_wp2
    go_ret
    refine ⟨?_, ((But.refl [] w).alloc _)⟩
    have e : textOf X N = ⟨(L ++ [y]).toArray⟩ := by
      unfold textOf
      rw [← bytesOf_eq (l := L ++ [y]) (k := (N + 7) / 8) (x := X) (by rw [List.length_append, HL.out, List.length_singleton]; omega) (by rw [num_snoc]; exact HX.out)]
    rw [e, ← bytes_snoc]
    rfl
  · have hp0 : part = 0 := by have e : N % 8 = 0 := by omega
                              rw [e] at hpart; omega
    subst hp0
    go_enter Tryd.func26, Tryd.ntmps26
    go_wp2
    go_ret
    refine ⟨?_, But.refl _ _⟩
    have e : textOf X N = ⟨L.toArray⟩ := by
      unfold textOf
      rw [← bytesOf_eq (l := L) (k := (N + 7) / 8) (x := X) (by rw [HL.out]; omega) (by rw [← HX.out]; simp)]
    rw [e]
    rfl
end Go.Proofs.YtghegmbafbpnjaaDoor
namespace Go.Proofs.YtghegmbafbpnjaaDoor
set_option maxRecDepth 100000
open Go Go.RowKit
theorem But.fresh {w w1 w2 : World} {S : List Nat} (h : But [] w w1) (k : But S w1 w2) (hS : ∀ i ∈ S, w.heap.size ≤ i) : But [] w w2 :=
  ⟨k.os.trans h.os, k.tape.trans h.tape, k.output.trans h.output, Nat.le_trans h.size k.size, fun i hi _ =>
    (k.block i (Nat.lt_of_lt_of_le hi h.size) (fun e => by have := hS i e; omega)).trans (h.block i hi (by simp))⟩
theorem But.belowNew {w w' : World} (h : But [] w w') : Below w.heap.size w w' := ⟨h.os, h.tape, h.output, h.size, fun k hk => h.block k hk (by simp)⟩
theorem new_at (w : World) (lo H : Nat) (hH : w.heap.size = H) :
    Calls Tryd.prog 23 #[] w fun e w' => e = .returned (.pointer (some ⟨H, 0, none⟩)) ∧ WS w' lo H none 0 0 ∧ But [] w w' ∧ w'.heap.size = H + 1 := by
  subst hH
  refine (bits_new w).mono ?_
  rintro e w' ⟨rfl, rfl⟩
  exact ⟨rfl, ws_new w lo, (But.refl [] w).alloc _, by simp⟩
end Go.Proofs.YtghegmbafbpnjaaDoor
set_option maxRecDepth 100000
set_option linter.unusedVariables false
namespace Go.Proofs.YtghegmbafbpnjaaDoor
set_option maxRecDepth 100000
open Go Go.RowKit
theorem conv_atZ {W : World} {g cap : Nat} {L : List UInt8} (h : ∀ j (hj : j < L.length), W.cell? ⟨g, j, none⟩ = some (.int .u8 (L[j].toNat : Int))) :
    (convert 27 9 (.slice (some ⟨g, 0, none⟩) L.length cap)).run Tryd.prog W = .ok (.string (strL L)) W := by
  refine run_convert_bytes_back W 27 9 5 ⟨g, 0, none⟩ cap L Tryd.underlying27 Tryd.underlying5 Tryd.underlying9 (fun j hj => ?_)
  have e2 : (⟨g, 0, none⟩ : Addr).add j = ⟨g, j, none⟩ := by unfold Addr.add; split <;> simp_all
  rw [e2]; exact h j hj
theorem conv_fourZ (W : World) {n a b c d : Nat} (h1 : a = n / 16777216 % 256) (h2 : b = n / 65536 % 256) (h3 : c = n / 256 % 256) (h4 : d = n % 256) :
    (convert 27 9 (.slice (some ⟨W.heap.size, 0, none⟩) 4 4)).run Tryd.prog (W.alloc (.cells #[.int .u8 a, .int .u8 b, .int .u8 c, .int .u8 d] 5)) = .ok (.string (strL (fourL n))) (W.alloc (.cells #[.int .u8 a, .int .u8 b, .int .u8 c, .int .u8 d] 5)) := by
  refine conv_atZ (L := fourL n) (cap := 4) fun j hj => ?_
  have a1 := UInt8.toNat_ofNat' (n := n / 16777216)
  have a2 := UInt8.toNat_ofNat' (n := n / 65536)
  have a3 := UInt8.toNat_ofNat' (n := n / 256)
  have a4 := UInt8.toNat_ofNat' (n := n)
  rw [World.cell?_alloc_mark]
  rw [fourL_length] at hj
  unfold fourL
  match j, hj with
  | 0, _ => show some (Value.int .u8 (a : Int)) = some (Value.int .u8 ((UInt8.ofNat (n / 16777216)).toNat : Int)); rw [a1, h1]
  | 1, _ => show some (Value.int .u8 (b : Int)) = some (Value.int .u8 ((UInt8.ofNat (n / 65536)).toNat : Int)); rw [a2, h2]
  | 2, _ => show some (Value.int .u8 (c : Int)) = some (Value.int .u8 ((UInt8.ofNat (n / 256)).toNat : Int)); rw [a3, h3]
  | 3, _ => show some (Value.int .u8 (d : Int)) = some (Value.int .u8 ((UInt8.ofNat n).toNat : Int)); rw [a4, h4]
set_option maxHeartbeats 1000000 in
theorem psum_any (w : World) {s : ByteArray} (hs : s.size ≤ maxLen) :
    Calls Tryd.prog 10 #[.string s] w fun e w' => e = .returned (.string (strL (fourL (adSum s.data.toList)))) ∧ But [] w w' := by
  have HA := Lib.hid (bits_adler s w hs)
  have hlt := adSum_lt s.data.toList
  obtain ⟨n, hn⟩ : ∃ n, n = adSum s.data.toList := ⟨_, rfl⟩
  rw [← hn] at HA hlt ⊢
  obtain ⟨a, ha⟩ : ∃ a, a = n / 16777216 % 256 := ⟨_, rfl⟩
  obtain ⟨b, hb⟩ : ∃ a, a = n / 65536 % 256 := ⟨_, rfl⟩
  obtain ⟨c, hc⟩ : ∃ a, a = n / 256 % 256 := ⟨_, rfl⟩
  obtain ⟨d, hd⟩ : ∃ a, a = n % 256 := ⟨_, rfl⟩
  have b1 : IntKind.u8.wrap ((n : Int) / 16777216) = (a : Int) := by simp [IntKind.wrap_u8]; omega
  have b2 : IntKind.u8.wrap ((n : Int) / 65536) = (b : Int) := by simp [IntKind.wrap_u8]; omega
  have b3 : IntKind.u8.wrap ((n : Int) / 256) = (c : Int) := by simp [IntKind.wrap_u8]; omega
  have b4 : IntKind.u8.wrap (n : Int) = (d : Int) := by simp [IntKind.wrap_u8]; omega
  have kc := fun W : World => conv_fourZ W ha hb hc hd
  have hB := (But.refl [] w).alloc (.cells #[.int .u8 a, .int .u8 b, .int .u8 c, .int .u8 d] 5)
  have HB := Lib.hid hB
  clear hs hn ha hb hc hd hB
  go_enter Tryd.func10, Tryd.ntmps10
  go_wp2_with fail
  refine HA.out.mono ?_
  rintro e w1 ⟨rfl, rfl⟩
  go_wp2
  go_ret
  exact ⟨rfl, HB.out⟩
theorem bits32 (b : Nat) (h : b < 256) : bits .and .i64 (b : Int) 32 = ((32 * (b / 32 % 2) : Nat) : Int) := by
  have h0 : ∀ b, b < 256 → bits .and .i64 ((b : Nat) : Int) 32 = ((32 * (b / 32 % 2) : Nat) : Int) := by decide +kernel
  exact h0 b h
set_option maxHeartbeats 1000000 in
theorem phead_few (w : World) {s : ByteArray} (hs : s.size < 2) :
    Calls Tryd.prog 11 #[.string s] w fun e w' => e = .returned (.int .i64 3) ∧ w = w' := by
  have d : decide ((s.size : Int) < 2) = true := by simp; omega
  go_enter Tryd.func11, Tryd.ntmps11
  go_wp2
  go_ret
  exact ⟨rfl, rfl⟩
theorem byteZ_run {s : ByteArray} {k : Nat} (hk : k < s.size) (w : World) : (Instr.index 9 (.string s) (.int .i64 (k : Int))).run Tryd.prog w = .ok (.int .u8 (s[k].toNat : Nat)) w := by
  rw [run_index_string w 9 s .i64 _ Tryd.underlying9, dif_pos (by omega)]
  simp
set_option maxHeartbeats 1000000 in
theorem phead_any (w : World) {s : ByteArray} {x y : Nat} (hs : 2 ≤ s.size) (hx : x = s[0].toNat) (hy : y = s[1].toNat) :
    Calls Tryd.prog 11 #[.string s] w fun e w' => e = .returned (.int .i64 (if x % 16 ≠ 8 ∨ 7 < x / 16 ∨ (256 * x + y) % 31 ≠ 0 ∨ y / 32 % 2 = 1 then 16 else 0)) ∧ But [] w w' := by
  have d : decide ((s.size : Int) < 2) = false := by simp; omega
  have x1 := s[0].toNat_lt
  have y1 := s[1].toNat_lt
  have k0 : ∀ w, (Instr.index 9 (.string s) (.int .i64 0)).run Tryd.prog w = .ok (.int .u8 (s[0].toNat : Nat)) w := fun w => byteZ_run (k := 0) (by omega) w
  have k1 : ∀ w, (Instr.index 9 (.string s) (.int .i64 1)).run Tryd.prog w = .ok (.int .u8 (s[1].toNat : Nat)) w := fun w => byteZ_run (k := 1) (by omega) w
  simp only [← hx] at k0 x1
  simp only [← hy] at k1 y1
  obtain ⟨r, hr⟩ : ∃ r : Int, r = if x % 16 ≠ 8 ∨ 7 < x / 16 ∨ (256 * x + y) % 31 ≠ 0 ∨ y / 32 % 2 = 1 then 16 else 0 := ⟨_, rfl⟩
  rw [← hr]
  have HR := Lib.hid hr
  have h32 := bits32 y (by omega)
  clear hx hy hr
  go_enter Tryd.func11, Tryd.ntmps11
  go_wp2
  go_quiet (fail)
  go_wp2
  all_goals
    go_ret
    refine ⟨?_, (But.refl [] w).drewN nq⟩
    rw [HR.out]
    clear HR k0 k1 h32
    simp at *
    omega
set_option maxHeartbeats 1000000 in
theorem pcheck_any (w : World) {t x : ByteArray} (ht : t.size ≤ 1000000000000000) (hx : x.size ≤ maxLen) :
    Calls Tryd.prog 13 #[.string t, .string x] w fun e w' => e = .returned (.int .i64 (if t.size < 4 then 3 else if t.data.toList.take 4 ≠ fourL (adSum x.data.toList) then 17 else if 4 < t.size then 4 else 0)) ∧ But [] w w' := by
  have HS := Lib.hid (fun v => psum_any v hx)
  obtain ⟨F, hF⟩ : ∃ F, F = fourL (adSum x.data.toList) := ⟨_, rfl⟩
  rw [← hF] at HS ⊢
  obtain ⟨r, hr⟩ : ∃ r : Int, r = if t.size < 4 then 3 else if t.data.toList.take 4 ≠ F then 17 else if 4 < t.size then 4 else 0 := ⟨_, rfl⟩
  rw [← hr]
  have HR := Lib.hid hr
  clear hx hr hF
  by_cases h4 : t.size < 4
  · have d : decide ((t.size : Int) < 4) = true := by simp; omega
    have HR2 := Lib.hid (show r = 3 by rw [HR.out, if_pos h4])
    clear HR
    go_enter Tryd.func13, Tryd.ntmps13
    go_wp2
    go_ret
    exact ⟨by rw [HR2.out]; rfl, But.refl [] w⟩
  · have d : decide ((t.size : Int) < 4) = false := by simp; omega
    have hsl : ∀ w, (Instr.slice 9 (.string t) none (some (.int .i64 4)) none).run Tryd.prog w = .ok (.string (strL (t.data.toList.take 4))) w := fun w => by
      rw [run_slice_string_to_if w 9 t .i64 4 Tryd.underlying9, if_pos (by omega), show ((4 : Int).toNat) = 4 from rfl, ext_list, List.drop_zero]
    obtain ⟨y, hy⟩ : ∃ y, y = strL (t.data.toList.take 4) := ⟨_, rfl⟩
    obtain ⟨z, hz⟩ : ∃ z, z = strL F := ⟨_, rfl⟩
    rw [← hy] at hsl
    rw [← hz] at HS
    have hyz : y = z ↔ t.data.toList.take 4 = F := by
      rw [hy, hz]
      exact ⟨fun h => by rw [← strL_list (t.data.toList.take 4), h, strL_list], fun h => by rw [h]⟩
    have HYZ := Lib.hid hyz
    have h4' : ¬ t.size < 4 := h4
    clear hy hz hyz h4
    by_cases hq : y = z
    · subst hq
      by_cases h5 : 4 < t.size
      · have d5 : decide ((4 : Int) < (t.size : Int)) = true := by simp; omega
        have HR2 := Lib.hid (show r = 4 by rw [HR.out, if_neg h4', if_neg (by have := HYZ.out.1 rfl; simp [this]), if_pos h5])
        clear HR HYZ h5
        go_enter Tryd.func13, Tryd.ntmps13
        go_upto_region 3 with (fail)
        go_region_with (go_at_call 10; refine (HS.out _).mono ?_; rintro e w1 ⟨rfl, hB⟩; have HB := Lib.hid hB; clear hB)
        go_wp2
        go_ret
        exact ⟨by rw [HR2.out]; rfl, ((But.refl [] w).drew).trans HB.out⟩
      · have d5 : decide ((4 : Int) < (t.size : Int)) = false := by simp; omega
        have HR2 := Lib.hid (show r = 0 by rw [HR.out, if_neg h4', if_neg (by have := HYZ.out.1 rfl; simp [this]), if_neg h5])
        clear HR HYZ h5
        go_enter Tryd.func13, Tryd.ntmps13
        go_upto_region 3 with (fail)
        go_region_with (go_at_call 10; refine (HS.out _).mono ?_; rintro e w1 ⟨rfl, hB⟩; have HB := Lib.hid hB; clear hB)
        go_wp2
        go_ret
        exact ⟨by rw [HR2.out]; rfl, ((But.refl [] w).drew).trans HB.out⟩
    · have HR2 := Lib.hid (show r = 17 by rw [HR.out, if_neg h4', if_pos (fun h => hq (HYZ.out.2 h))])
      have hq2 : (!y.toList == z.toList) = true := by
        rw [ByteArray.toList_eq, ByteArray.toList_eq, Bool.not_eq_true', beq_eq_false_iff_ne]
        exact fun h => hq (by apply ByteArray.ext; apply Array.ext'; exact h)
      clear HR HYZ
      go_enter Tryd.func13, Tryd.ntmps13
      go_upto_region 3 with (fail)
      go_region_with (go_at_call 10; refine (HS.out _).mono ?_; rintro e w1 ⟨rfl, hB⟩; have HB := Lib.hid hB; clear hB)
      go_wp2
      go_ret
      exact ⟨by rw [HR2.out]; rfl, ((But.refl [] w).drew).trans HB.out⟩
end Go.Proofs.YtghegmbafbpnjaaDoor
namespace Go.Proofs.YtghegmbafbpnjaaDoor
set_option maxRecDepth 100000
/-- How much of all codes a length takes. -/
def kr (x : Int) : Nat := if 0 < x then 2 ^ (15 - x.toNat) else 0
def ksum (l : List Int) : Nat := (l.map kr).sum
/-- How many symbols have codes. -/
def many (l : List Int) : Nat := (l.filter fun x => decide (0 < x)).length
/-- The greatest length. -/
def top (l : List Int) : Int := l.foldl (fun m x => if 0 < x then max m x else m) 0
def okLen (x : Int) : Bool := decide (0 ≤ x ∧ x ≤ 15)
def okLens (l : List Int) : Bool := l.all okLen
/-- What Check tells. -/
def chk (l : List Int) : Int :=
  if 288 < l.length then 1 else if okLens l = false then 1 else if 32768 < ksum l then 10 else
  if ksum l < 32768 ∧ 0 < many l ∧ ¬ (many l = 1 ∧ ksum l = 16384) then 11 else 0

theorem ksum_snoc (l : List Int) (x : Int) : ksum (l ++ [x]) = ksum l + kr x := by simp [ksum]
theorem many_snoc (l : List Int) (x : Int) : many (l ++ [x]) = many l + (if 0 < x then 1 else 0) := by
  unfold many; rw [List.filter_append, List.length_append]; congr 1
  by_cases h : 0 < x <;> simp [h]
theorem okLens_snoc (l : List Int) (x : Int) : okLens (l ++ [x]) = (okLens l && okLen x) := by simp [okLens]
theorem kr_le (x : Int) : kr x ≤ 32768 := by
  unfold kr; split
  · exact Nat.le_trans (Nat.pow_le_pow_right (by decide) (Nat.sub_le _ _)) (by decide)
  · exact Nat.zero_le _
theorem ksum_le (l : List Int) : ksum l ≤ 32768 * l.length := by
  induction l with
  | nil => simp [ksum]
  | cons x l ih => have := kr_le x; simp only [ksum, List.map_cons, List.sum_cons, List.length_cons] at ih ⊢; omega
theorem many_le (l : List Int) : many l ≤ l.length := List.length_filter_le _ _
theorem top_mono (l : List Int) : ∀ m : Int, m ≤ l.foldl (fun m x => if 0 < x then max m x else m) m := by
  induction l with
  | nil => intro m; exact Int.le_refl _
  | cons x l ih =>
    intro m
    simp only [List.foldl_cons]
    refine Int.le_trans ?_ (ih _)
    split <;> omega
theorem top_nonneg (l : List Int) : 0 ≤ top l := top_mono l 0
theorem top_mem (l : List Int) : ∀ x ∈ l, x ≤ top l := by
  unfold top
  have : ∀ m : Int, ∀ x ∈ l, 0 < x → x ≤ l.foldl (fun m x => if 0 < x then max m x else m) m := by
    induction l with
    | nil => intro m x hx; cases hx
    | cons y l ih =>
      intro m x hx h0
      simp only [List.foldl_cons]
      rcases List.mem_cons.1 hx with rfl | hx
      · refine Int.le_trans ?_ (top_mono l _)
        rw [if_pos h0]; omega
      · exact ih _ x hx h0
  intro x hx
  by_cases h : 0 < x
  · exact this 0 x hx h
  · exact Int.le_trans (by omega) (top_nonneg l)
/-- One symbol alone: how much it takes tells its length. -/
theorem one_sum : ∀ l : List Int, okLens l = true → many l = 0 → ksum l = 0 ∧ top l = 0
  | [], _, _ => ⟨rfl, rfl⟩
  | x :: l, h, hm => by
    unfold many at hm
    rw [List.filter_cons] at hm
    by_cases h0 : 0 < x
    · rw [if_pos (by simpa using h0)] at hm; simp at hm
    · rw [if_neg (by simpa using h0)] at hm
      simp only [okLens, List.all_cons, Bool.and_eq_true] at h
      obtain ⟨i1, i2⟩ := one_sum l h.2 hm
      refine ⟨?_, ?_⟩
      · simp only [ksum, List.map_cons, List.sum_cons] at i1 ⊢; rw [i1]; unfold kr; rw [if_neg h0]
      · unfold top at i2 ⊢; simp only [List.foldl_cons]; rw [if_neg h0]; exact i2
theorem foldTop_zero : ∀ (l : List Int) (m : Int), many l = 0 → l.foldl (fun m x => if 0 < x then max m x else m) m = m
  | [], _, _ => rfl
  | x :: l, m, hm => by
    unfold many at hm
    rw [List.filter_cons] at hm
    by_cases h0 : 0 < x
    · rw [if_pos (by simpa using h0)] at hm; simp at hm
    · rw [if_neg (by simpa using h0)] at hm
      simp only [List.foldl_cons]; rw [if_neg h0]; exact foldTop_zero l m hm
theorem one_sum' : ∀ l : List Int, okLens l = true → many l = 1 → ∃ m : Nat, 1 ≤ m ∧ m ≤ 15 ∧ ksum l = 2 ^ (15 - m) ∧ top l = m
  | [], _, hm => by simp [many] at hm
  | x :: l, h, hm => by
    have hm' := hm
    unfold many at hm
    rw [List.filter_cons] at hm
    simp only [okLens, List.all_cons, Bool.and_eq_true, okLen, decide_eq_true_eq] at h
    by_cases h0 : 0 < x
    · rw [if_pos (by simpa using h0)] at hm
      have hz : many l = 0 := by simpa [many] using hm
      obtain ⟨i1, _⟩ := one_sum l h.2 hz
      refine ⟨x.toNat, by omega, by omega, ?_, ?_⟩
      · simp only [ksum, List.map_cons, List.sum_cons] at i1 ⊢; rw [i1]; unfold kr; rw [if_pos h0]; rfl
      · unfold top; simp only [List.foldl_cons]; rw [if_pos h0, foldTop_zero l _ hz]; omega
    · rw [if_neg (by simpa using h0)] at hm
      obtain ⟨m, i0, i1, i2, i3⟩ := one_sum' l h.2 hm
      refine ⟨m, i0, i1, ?_, ?_⟩
      · simp only [ksum, List.map_cons, List.sum_cons] at i2 ⊢; rw [i2]; unfold kr; rw [if_neg h0]; omega
      · unfold top at i3 ⊢; simp only [List.foldl_cons]; rw [if_neg h0]; exact i3
theorem single_iff (l : List Int) (h : okLens l = true) : (many l = 1 ∧ ksum l = 16384) ↔ (many l = 1 ∧ top l = 1) := by
  constructor
  · rintro ⟨h1, h2⟩
    obtain ⟨m, h3, h4, h5, h6⟩ := one_sum' l h h1
    refine ⟨h1, ?_⟩
    rw [h6]
    have : m = 1 := by
      apply Classical.byContradiction; intro hc
      have := Nat.pow_le_pow_right (n := 2) (by decide) (show 15 - m ≤ 13 by omega)
      omega
    omega
  · rintro ⟨h1, h2⟩
    obtain ⟨m, h3, h4, h5, h6⟩ := one_sum' l h h1
    have : m = 1 := by omega
    subst this
    exact ⟨h1, h5⟩
theorem chk_zero {l : List Int} (h : chk l = 0) : l.length ≤ 288 ∧ okLens l = true ∧ ksum l ≤ 32768 ∧ (ksum l = 32768 ∨ many l = 0 ∨ (many l = 1 ∧ ksum l = 16384)) := by
  unfold chk at h
  by_cases h1 : 288 < l.length
  · rw [if_pos h1] at h; omega
  rw [if_neg h1] at h
  by_cases h2 : okLens l = false
  · rw [if_pos h2] at h; omega
  rw [if_neg h2] at h
  by_cases h3 : 32768 < ksum l
  · rw [if_pos h3] at h; omega
  rw [if_neg h3] at h
  by_cases h4 : ksum l < 32768 ∧ 0 < many l ∧ ¬ (many l = 1 ∧ ksum l = 16384)
  · rw [if_pos h4] at h; omega
  refine ⟨by omega, by simpa using h2, by omega, ?_⟩
  by_cases h5 : many l = 1 ∧ ksum l = 16384
  · exact .inr (.inr h5)
  · rcases Nat.eq_zero_or_pos (many l) with h6 | h6
    · exact .inr (.inl h6)
    · left; apply Classical.byContradiction; intro h7; exact h4 ⟨by omega, h6, h5⟩
end Go.Proofs.YtghegmbafbpnjaaDoor
namespace Go.Proofs.YtghegmbafbpnjaaDoor
set_option maxRecDepth 100000
open Go Go.RowKit Go.ChangeShapes Go.WideShapes
/-- A slice reads as these numbers. -/
def Ints (w : World) (A : Option Addr) (n : Nat) (l : List Int) : Prop :=
  l.length = n ∧ (0 < n → ∃ g o, A = some ⟨g, o, none⟩ ∧ g < w.heap.size ∧ ∀ (i : Nat) (h : i < l.length), w.cell? ⟨g, o + i, none⟩ = some (.int .i64 l[i]))
theorem Ints.but {w w' : World} {A : Option Addr} {n : Nat} {l : List Int} {S : List Nat} (h : Ints w A n l) (hw : But S w w') (hA : ∀ k ∈ S, Off A k) : Ints w' A n l :=
  ⟨h.1, fun hn => by
    obtain ⟨g, o, e, hg, hc⟩ := h.2 hn
    exact ⟨g, o, e, Nat.lt_of_lt_of_le hg hw.size, fun i hi => hw.cell (hc i hi) (fun hS => hA g hS _ e rfl)⟩⟩
theorem Ints.at {w : World} {A : Option Addr} {n : Nat} {l : List Int} (h : Ints w A n l) {i : Nat} (hi : i < n) :
    ∃ g o, A = some ⟨g, o, none⟩ ∧ g < w.heap.size ∧ w.cell? ⟨g, o + i, none⟩ = some (.int .i64 (l[i]'(by have := h.1; omega))) := by
  obtain ⟨g, o, e, hg, hc⟩ := h.2 (by omega)
  exact ⟨g, o, e, hg, hc i (by have := h.1; omega)⟩
end Go.Proofs.YtghegmbafbpnjaaDoor
namespace Go.Proofs.YtghegmbafbpnjaaDoor
set_option maxRecDepth 100000
open Go Go.RowKit
theorem lens_take {l : List Int} {k : Nat} (h : k < l.length) : l.take (k + 1) = l.take k ++ [l[k]] := List.take_succ_eq_append_getElem h
theorem kr_pos {x : Int} {m : Nat} (h : x = m) (h0 : 0 < x) (h1 : m ≤ 15) : (32768 : Int) / 2 ^ m = (kr x : Nat) := by
  unfold kr; rw [if_pos h0]; subst h
  have e : (15 : Nat) - (m : Int).toNat = 15 - m := by omega
  rw [e]
  have : (2 : Int) ^ m * 2 ^ (15 - m) = 32768 := by rw [← Int.pow_add, show m + (15 - m) = 15 from by omega]; rfl
  rw [← this, Int.mul_ediv_cancel_left _ (by have := Int.pow_pos (n := 2) (m := m) (by decide); omega)]
  simp

set_option maxHeartbeats 1000000 in
set_option maxRecDepth 100000 in
theorem check_any {w : World} {A : Option Addr} {len cap : Nat} {l : List Int} (hl : Ints w A len l) (hm : len ≤ maxLen) :
    Calls Tryd.prog 59 #[.slice A len cap] w fun e w' => e = .returned (.int .i64 (chk l)) ∧ w = w' := by
  unfold maxLen at hm
  have hlen := hl.1
  by_cases h288 : 288 < len
  · have hc : chk l = 1 := by unfold chk; rw [if_pos (by omega)]
    rw [hc]
    clear hc hl hlen
    go_enter Tryd.func59, Tryd.ntmps59
    go_wp2
    go_ret
    exact ⟨rfl, rfl⟩
  · go_enter Tryd.func59, Tryd.ntmps59
    go_wp2
    go_loop [3, 4, 13] (fun sm wd i => ∃ k : Nat, k ≤ len ∧ okLens (l.take k) = true ∧ i = .int .i64 k ∧ sm = .int .i64 (ksum (l.take k)) ∧ wd = .int .i64 (many (l.take k))) (fun _ _ i => len - (intOf i).toNat)
    case atStart => exact ⟨0, Nat.zero_le _, rfl, rfl, rfl, rfl⟩
    case round =>
      obtain ⟨k, hk, hok, rfl, rfl, rfl⟩ := hrel
      have hks := ksum_le (l.take k)
      have hms := many_le (l.take k)
      rw [List.length_take] at hks hms
      by_cases hlt : k < len
      · obtain ⟨g, o, rfl, hg, hc⟩ := hl.at hlt
        have hts := lens_take (l := l) (k := k) (by omega)
        have HS := Lib.hid hts
        have HX := Lib.hid (show l[k]'(by omega) ∈ l from List.getElem_mem _)
        generalize l[k]'(by omega) = x at *
        clear hl hts
        by_cases hr : 0 ≤ x ∧ x ≤ 15
        · obtain ⟨m, rfl⟩ := Int.eq_ofNat_of_zero_le hr.1
          have hm15 : m ≤ 15 := by omega
          have HO := Lib.hid (show okLens (l.take (k + 1)) = true by rw [HS.out, okLens_snoc, hok]; simp [okLen]; omega)
          have HK := Lib.hid (show ksum (l.take (k + 1)) = ksum (l.take k) + kr m by rw [HS.out, ksum_snoc])
          have HM := Lib.hid (show many (l.take (k + 1)) = many (l.take k) + (if 0 < (m : Int) then 1 else 0) by rw [HS.out, many_snoc])
          have n0 : decide ((m : Int) < 0) = false := by simp
          have n1 : decide ((15 : Int) < (m : Int)) = false := by simp; omega
          clear hr HS hok HX
          by_cases h0 : 0 < (m : Int)
          · have HP := Lib.hid (kr_pos (m := m) rfl h0 hm15)
            have hkl := kr_le m
            go_wp2
            go_round
            case rel => exact ⟨k + 1, by omega, HO.out, by go_num, by rw [HP.out, HK.out, IntWalk.wrap64_in _ ⟨by omega, by omega⟩]; go_num, by rw [HM.out, if_pos h0]; go_num⟩
            case measure => simp [intOf]; omega
          · go_wp2
            go_round
            case rel => exact ⟨k + 1, by omega, HO.out, by go_num, by rw [HK.out]; unfold kr; rw [if_neg h0]; rfl, by rw [HM.out, if_neg h0]; rfl⟩
            case measure => simp [intOf]; omega
        · have hc1 : chk l = 1 := by
            unfold chk; split
            · rfl
            · rw [if_pos]
              apply Classical.byContradiction
              intro h
              have h2 : okLens l = true := by simpa using h
              have := List.all_eq_true.1 h2 x HX.out
              simp only [okLen, decide_eq_true_eq] at this
              exact hr this
          have HC1 := Lib.hid hc1
          clear hc1 HS hok HX hlen
          by_cases hn : x < 0
          · go_wp2
            go_ret
            rw [HC1.out]
            exact ⟨rfl, rfl⟩
          · have n0 : decide (x < 0) = false := by simp; omega
            have n1 : 15 < x := by omega
            go_wp2
            go_ret
            rw [HC1.out]
            exact ⟨rfl, rfl⟩
      · obtain rfl : k = len := by omega
        rw [List.take_of_length_le (by omega)] at hok hks hms ⊢
        have HC := Lib.hid (show chk l = (if 32768 < ksum l then 10 else if ksum l < 32768 ∧ 0 < many l ∧ ¬ (many l = 1 ∧ ksum l = 16384) then 11 else 0) by
          unfold chk; rw [if_neg (by omega), if_neg (by simp [hok])])
        generalize ksum l = S at *
        generalize many l = M at *
        clear hl hok hlen
        obtain ⟨s, hs⟩ : ∃ s : Int, s = (S : Int) := ⟨_, rfl⟩
        obtain ⟨m, hmm⟩ : ∃ m : Int, m = (M : Int) := ⟨_, rfl⟩
        have HC2 := Lib.hid (show (if 32768 < S then (10 : Int) else if S < 32768 ∧ 0 < M ∧ ¬ (M = 1 ∧ S = 16384) then 11 else 0) = (if 32768 < s then 10 else if s < 32768 ∧ 0 < m ∧ ¬ (m = 1 ∧ s = 16384) then 11 else 0) by
          have e1 : (32768 < S) = ((32768 : Int) < s) := by rw [hs]; apply propext; omega
          have e2 : (S < 32768 ∧ 0 < M ∧ ¬ (M = 1 ∧ S = 16384)) = (s < 32768 ∧ 0 < m ∧ ¬ (m = 1 ∧ s = 16384)) := by rw [hs, hmm]; apply propext; omega
          simp only [e1, e2])
        rw [← hs, ← hmm]
        clear hs hmm hks hms
        by_cases c1 : 32768 < s
        · go_wp2
          all_goals
            go_ret
            rw [HC.out, HC2.out, if_pos c1]
            exact ⟨rfl, rfl⟩
        · have C1 := Lib.hid c1
          have d1 : decide ((32768 : Int) < s) = false := by simp; omega
          clear c1
          by_cases c2 : s < 32768
          · have C2 := Lib.hid c2
            have d2 : decide (s < 32768) = true := by simp; omega
            clear c2
            by_cases c3 : 0 < m
            · have C3 := Lib.hid c3
              have d3 : decide (0 < m) = true := by simp; omega
              clear c3
              by_cases c4 : m = 1
              · have e4 : (m == 1) = true := by simp; omega
                have C4 := Lib.hid c4
                clear c4
                by_cases c5 : s = 16384
                · have e5 : (s == 16384) = true := by simp; omega
                  have C5 := Lib.hid c5
                  clear c5
                  go_wp2
                  go_ret
                  rw [HC.out, HC2.out, if_neg (by have := C1.out; omega), if_neg (by have := C4.out; have := C5.out; omega)]
                  exact ⟨rfl, rfl⟩
                · have e5 : (s == 16384) = false := by simp; omega
                  have C5 := Lib.hid c5
                  clear c5
                  go_wp2
                  go_ret
                  rw [HC.out, HC2.out, if_neg (by have := C1.out; omega), if_pos (by have := C2.out; have := C3.out; have := C5.out; omega)]
                  exact ⟨rfl, rfl⟩
              · have e4 : (m == 1) = false := by simp; omega
                have C4 := Lib.hid c4
                clear c4
                go_wp2
                go_ret
                rw [HC.out, HC2.out, if_neg (by have := C1.out; omega), if_pos (by have := C2.out; have := C3.out; have := C4.out; omega)]
                exact ⟨rfl, rfl⟩
            · have e4 : (m == 1) = false := by simp; omega
              have d3 : decide (0 < m) = false := by simp; omega
              have C3 := Lib.hid c3
              clear c3
              go_wp2
              go_ret
              rw [HC.out, HC2.out, if_neg (by have := C1.out; omega), if_neg (by have := C3.out; omega)]
              exact ⟨rfl, rfl⟩
          · have C2 := Lib.hid c2
            have d2 : decide (s < 32768) = false := by simp; omega
            clear c2
            by_cases c4 : m = 1
            · have e4 : (m == 1) = true := by simp; omega
              have C4 := Lib.hid c4
              have e5 : (s == 16384) = false := by have := C2.out; simp; omega
              clear c4
              go_wp2
              go_ret
              rw [HC.out, HC2.out, if_neg (by have := C1.out; omega), if_neg (by have := C2.out; omega)]
              exact ⟨rfl, rfl⟩
            · have e4 : (m == 1) = false := by simp; omega
              have C4 := Lib.hid c4
              clear c4
              go_wp2
              go_ret
              rw [HC.out, HC2.out, if_neg (by have := C1.out; omega), if_neg (by have := C2.out; omega)]
              exact ⟨rfl, rfl⟩
end Go.Proofs.YtghegmbafbpnjaaDoor
