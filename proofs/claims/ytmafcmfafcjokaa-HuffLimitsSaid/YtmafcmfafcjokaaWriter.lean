/- The contracts of the writers of bits. -/
import Derived.Test.YtmafcmfafcjokaaReadC
import Derived.Deep.RegionLaw
import Derived.Deep.AppendLies
import Derived.Deep.CutRange
import Derived.BigRegion
import Derived.OwnWalk
import Derived.OneCell
namespace Go.Proofs.Ytmafcmfafcjokaa
open Go Go.RowKit

/-- Bytes as cells. -/
def cellsOf (l : List UInt8) : List Value := l.map fun x => .int .u8 (x.toNat : Int)
theorem cellsOf_length (l : List UInt8) : (cellsOf l).length = l.length := by simp [cellsOf]
theorem cellsOf_snoc (l : List UInt8) (x : UInt8) : cellsOf (l ++ [x]) = cellsOf l ++ [.int .u8 (x.toNat : Int)] := by simp [cellsOf]
theorem info_u8 : (Try.prog.info? 5).map (fun i => (i.zero, i.size, i.bytes)) = some (some (.int .u8 0), 1, 1) := by kernel_rfl

/-- A writer in block b: N bits are laid, the number X; its bytes lie in block og. -/
def WS (w : World) (lo b : Nat) (og : Option Nat) (X N : Nat) : Prop :=
  ∃ (v : Value) (L : List UInt8) (part : Nat), Is w b 75 #[v, .int .i64 part, .int .i64 (N % 8 : Nat)] ∧ w.ownsRow lo 5 1 v L.length (cellsOf L) ∧ v.ownBlock = og ∧
    L.length = N / 8 ∧ num L + 256 ^ L.length * part = X ∧ part < 2 ^ (N % 8)
/-- What has been laid by Bits(v, n). -/
def layN (N : Nat) (n : Int) : Nat := if n < 0 ∨ 24 < n then N else N + n.toNat
def layX (X N : Nat) (v n : Int) : Nat := if n < 0 ∨ 24 < n then X else X + (v % 2 ^ n.toNat).toNat * 2 ^ N

theorem bits_new (w : World) :
    Calls Try.prog 25 #[] w fun e w' => e = .returned (.pointer (some ⟨w.heap.size, 0, none⟩)) ∧ w' = w.alloc (.cells #[.slice none 0 0, .int .i64 0, .int .i64 0] 75) := by
  go_enter Try.func25, Try.ntmps25
  go_wp2
  go_ret
  exact ⟨rfl, rfl⟩
theorem ws_new (w : World) (lo : Nat) : WS (w.alloc (.cells #[.slice none 0 0, .int .i64 0, .int .i64 0] 75)) lo w.heap.size none 0 0 :=
  ⟨.slice none 0 0, [], 0, Is.fresh w _ _, World.ownsRow_nil _ _ _ _, rfl, rfl, by decide, by decide⟩

theorem lay_part (v : Int) (part m u : Nat) (hm : m ≤ 24) (hu : u ≤ 7) (hp : part < 2 ^ u) :
    Go.bits .or .i64 (part : Int) (wrap64 (Go.bits .and .i64 v (wrap64 (wrap64 (2 ^ m) - 1)) * 2 ^ u)) = ((part + (v % 2 ^ m).toNat * 2 ^ u : Nat) : Int) := by
  rw [mask_word m hm, i64_mask v m (by omega)]
  have hpos : (0 : Int) < 2 ^ m := by
    have := Nat.two_pow_pos m
    have e : ((2 : Int) ^ m) = ((2 ^ m : Nat) : Int) := by simp
    omega
  have h0 := Int.emod_nonneg v (show (2 : Int) ^ m ≠ 0 by omega)
  have h1 := Int.emod_lt_of_pos v hpos
  have hm2 : 2 ^ m ≤ 2 ^ 24 := Nat.pow_le_pow_right (by decide) hm
  have e : ((2 : Int) ^ m) = ((2 ^ m : Nat) : Int) := by simp
  have hz : (v % 2 ^ m).toNat < 2 ^ m := by omega
  have ez : v % 2 ^ m = (((v % 2 ^ m).toNat : Nat) : Int) := by omega
  generalize (v % 2 ^ m).toNat = z at *
  rw [ez, int_pow]
  have hu2 : 2 ^ u ≤ 2 ^ 7 := Nat.pow_le_pow_right (by decide) hu
  have hzu : z * 2 ^ u ≤ 2 ^ 24 * 2 ^ 7 := Nat.mul_le_mul (by omega) hu2
  have ew : wrap64 ((z * 2 ^ u : Nat) : Int) = ((z * 2 ^ u : Nat) : Int) := IntWalk.wrap64_in _ ⟨by omega, by omega⟩
  rw [ew]
  exact i64_join _ _ u (by omega) hp (Nat.mul_mod_left z _) (by omega)

/-- The writer in the middle of its loop: j bytes of P have been handed on. -/
def WMid (w w' : World) (lo b : Nat) (og : Option Nat) (X' P k u j : Nat) : Prop :=
  ∃ (v : Value) (L : List UInt8), Is w' b 75 #[v, .int .i64 (P / 256 ^ j : Nat), .int .i64 (u : Nat)] ∧ w'.ownsRow lo 5 1 v L.length (cellsOf L) ∧
    L.length = k + j ∧ num L + 256 ^ L.length * (P / 256 ^ j) = X' ∧ (∀ g, v.ownBlock = some g → og = some g ∨ w.heap.size ≤ g) ∧ But (b :: og.toList) w w'

theorem own_ne {w : World} {base b n size : Nat} {e t : TypeId} {v : Value} {xs : List Value} {cs : Array Value} (h : w.ownsRow base e size v n xs) (hb : Is w b t cs) (hne : e ≠ t) : v.ownBlock ≠ some b := by
  rcases h.2 with ⟨rfl, _⟩ | ⟨g, cap, cur, rfl, _, hh, _⟩
  · simp [Value.ownBlock]
  · intro he
    have he' : g = b := by simpa [Value.ownBlock] using he
    subst he'
    exact Is.ne (w := w) (t := e) hh hb hne rfl

theorem part_lt (v : Int) (part m u V : Nat) (hV : (v % 2 ^ m).toNat = V) (hp : part < 2 ^ u) : part + V * 2 ^ u < 2 ^ (u + m) := by
  have e : ((2 : Int) ^ m) = ((2 ^ m : Nat) : Int) := by simp
  have hpos := Nat.two_pow_pos m
  have h1 := Int.emod_lt_of_pos v (show (0 : Int) < 2 ^ m by omega)
  have hz : V + 1 ≤ 2 ^ m := by omega
  have := Nat.mul_le_mul_right (2 ^ u) hz
  rw [Nat.pow_add, Nat.mul_comm (2 ^ u)]
  rw [Nat.add_mul] at this
  omega
theorem num_step (L : List UInt8) (q : Nat) : num (L ++ [UInt8.ofNat q]) + 256 ^ (L.length + 1) * (q / 256) = num L + 256 ^ L.length * q := by
  have h : (UInt8.ofNat q).toNat = q % 256 := UInt8.toNat_ofNat'
  rw [num_snoc, h, Nat.pow_succ, Nat.add_assoc, Nat.mul_assoc, ← Nat.mul_add]
  congr 2
  omega
theorem wmid_step {w wr w1 : World} {lo b gg cap j q k u P X' : Nat} {og : Option Nat} {v1 : Value} {L1 : List UInt8}
    (hi1 : Is wr b 75 #[v1, .int .i64 (q : Nat), .int .i64 (u : Nat)]) (hl : L1.length = k + j) (hx : num L1 + 256 ^ L1.length * q = X') (hq : q = P / 256 ^ j)
    (hg1 : ∀ g, v1.ownBlock = some g → og = some g ∨ w.heap.size ≤ g) (hb1 : But (b :: og.toList) w wr) (hown1 : wr.ownsRow lo 5 1 v1 L1.length (cellsOf L1))
    (hown2 : w1.ownsRow lo 5 1 (.slice (some ⟨gg, 0, none⟩) (L1.length + 1) cap) (L1.length + 1) (cellsOf L1 ++ [.int .u8 (IntKind.u8.wrap q)]))
    (hgrow : ((wr.alloc (.cells #[.int .u8 (IntKind.u8.wrap q)] 5)).drew).grownBy w1 v1.ownBlock) (hat : v1.ownBlock = some gg ∨ gg = wr.heap.size + 1) :
    WMid w ((w1.setCell ⟨b, 0, none⟩ (.slice (some ⟨gg, 0, none⟩) (L1.length + 1) cap)).setCell ⟨b, 1, none⟩ (.int .i64 ((q : Int) / 256))) lo b og X' P k u (j + 1) := by
  have hne := own_ne hown1 hi1 (by decide)
  have hi2 := ((hi1.alloc (.cells #[.int .u8 (IntKind.u8.wrap q)] 5)).drew).grown hgrow (Ne.symm hne)
  have hne2 := own_ne hown2 hi2 (by decide)
  have hw : IntKind.u8.wrap q = ((UInt8.ofNat q).toNat : Int) := by
    have h : (UInt8.ofNat q).toNat = q % 256 := UInt8.toNat_ofNat'
    rw [h, IntKind.wrap_u8]; omega
  have ho : w1.ownsRow lo 5 1 (.slice (some ⟨gg, 0, none⟩) (L1.length + 1) cap) (L1 ++ [UInt8.ofNat q]).length (cellsOf (L1 ++ [UInt8.ofNat q])) := by
    rw [cellsOf_snoc, ← hw, List.length_append]; exact hown2
  have hS := hb1.size
  have hB := ((hb1.alloc (.cells #[.int .u8 (IntKind.u8.wrap q)] 5)).drew).grown hgrow (fun g e => by
    rcases hg1 g e with h | h
    · subst h; exact .inl (by simp)
    · exact .inr h)
  have e2 : ((q : Int) / 256) = ((q / 256 : Nat) : Int) := by omega
  have e3 : q / 256 = P / 256 ^ (j + 1) := by rw [hq, Nat.pow_succ, Nat.div_div_eq_div_mul]
  rw [e2]
  refine ⟨.slice (some ⟨gg, 0, none⟩) (L1.length + 1) cap, L1 ++ [UInt8.ofNat q], ?_, ?_, ?_, ?_, ?_, ?_⟩
  · rw [← e3]
    simpa using (hi2.put 0 (.slice (some ⟨gg, 0, none⟩) (L1.length + 1) cap)).put 1 (.int .i64 ((q / 256 : Nat) : Int))
  · exact ownsRow_setCell_other (ownsRow_setCell_other ho (a := ⟨b, 0, none⟩) hne2 _) (a := ⟨b, 1, none⟩) hne2 _
  · simp; omega
  · rw [← e3, List.length_append, List.length_singleton, num_step]; exact hx
  · intro g e
    have : gg = g := by simpa [Value.ownBlock] using e
    subst this
    rcases hat with h | h
    · exact hg1 _ h
    · exact .inr (by omega)
  · exact (hB.setCell (p := ⟨b, 0, none⟩) (.inl (by simp)) _).setCell (p := ⟨b, 1, none⟩) (.inl (by simp)) _
theorem ws_final {w' : World} {lo b N X P V m j q part : Nat} {v : Int} {v1 : Value} {L L1 : List UInt8} (hm : m ≤ 24)
    (hlen : L.length = N / 8) (hnum : num L + 256 ^ L.length * part = X) (hV : (v % 2 ^ m).toNat = V) (hP : part + V * 2 ^ (N % 8) = P) (hPlt : P < 2 ^ (N % 8 + m))
    (hj : j = (N % 8 + m) / 8) (hq : q = P / 256 ^ j) (hi1 : Is w' b 75 #[v1, .int .i64 (q : Nat), .int .i64 (N % 8 + m : Nat)]) (hl : L1.length = N / 8 + j)
    (hx : num L1 + 256 ^ L1.length * q = num L + 256 ^ L.length * P) (hown1 : w'.ownsRow lo 5 1 v1 L1.length (cellsOf L1)) :
    WS (w'.setCell ⟨b, 2, none⟩ (.int .i64 (((N : Int) + (m : Int)) % 8))) lo b v1.ownBlock (layX X N v (m : Int)) (layN N (m : Int)) := by
  have h24 : ¬ ((m : Int) < 0 ∨ 24 < (m : Int)) := by omega
  have e1 : layN N (m : Int) = N + m := by unfold layN; rw [if_neg h24]; rfl
  have e2 : layX X N v (m : Int) = X + V * 2 ^ N := by unfold layX; rw [if_neg h24, ← hV]; rfl
  have e3 : (((N : Int) + (m : Int)) % 8) = (((N + m) % 8 : Nat) : Int) := by omega
  rw [e1, e2, e3]
  refine ⟨v1, L1, q, ?_, ?_, rfl, by omega, ?_, ?_⟩
  · simpa using hi1.put 2 (.int .i64 (((N + m) % 8 : Nat) : Int))
  · exact ownsRow_setCell_other hown1 (a := ⟨b, 2, none⟩) (own_ne hown1 hi1 (by decide)) _
  · rw [hx, ← hP, ← hnum, Nat.mul_add, ← Nat.add_assoc, hlen, p256]
    congr 1
    rw [Nat.mul_left_comm, ← Nat.pow_add, show 8 * (N / 8) + N % 8 = N from by omega]
  · rw [hq, hj, p256]
    apply Nat.div_lt_of_lt_mul
    rw [← Nat.pow_add, show 8 * ((N % 8 + m) / 8) + (N + m) % 8 = N % 8 + m from by omega]
    exact hPlt

set_option maxRecDepth 100000 in
theorem WS.bits {w : World} {lo b : Nat} {og : Option Nat} {X N : Nat} (h : WS w lo b og X N) (hlo : lo ≤ w.heap.size) (hN : N ≤ 140737488355328) (v n : Int) :
    Calls Try.prog 37 #[.pointer (some ⟨b, 0, none⟩), .int .i64 v, .int .i64 n] w fun e w' => e = .returned (.tuple #[]) ∧
      ∃ og', WS w' lo b og' (layX X N v n) (layN N n) ∧ (∀ g, og' = some g → og = some g ∨ w.heap.size ≤ g) ∧ But (b :: og.toList) w w' := by
  by_cases hn : n < 0 ∨ 24 < n
  · have hx : layX X N v n = X := by unfold layX; rw [if_pos hn]
    have hy : layN N n = N := by unfold layN; rw [if_pos hn]
    rw [hx, hy]
    clear hx hy
    rcases hn with hn | hn
    · go_enter Try.func37, Try.ntmps37
      go_wp2
      exact bodyPost_ret (results_none rfl _ _ _) rfl ⟨rfl, og, h, fun g e => .inl e, But.refl _ _⟩
    · have hn0 : ¬ n < 0 := by omega
      go_enter Try.func37, Try.ntmps37
      go_wp2
      exact bodyPost_ret (results_none rfl _ _ _) rfl ⟨rfl, og, h, fun g e => .inl e, But.refl _ _⟩
  · obtain ⟨m, rfl⟩ := Int.eq_ofNat_of_zero_le (show 0 ≤ n by omega)
    have hm : m ≤ 24 := by omega
    obtain ⟨x, L, part, hi, hown, hog, hlen, hnum, hpart⟩ := h
    have h0 : w.cell? ⟨b, 0, none⟩ = some x := hi.cell 0
    have h1 : w.cell? ⟨b, 1, none⟩ = some (.int .i64 part) := hi.cell 1
    have h2 : w.cell? ⟨b, 2, none⟩ = some (.int .i64 (N % 8 : Nat)) := hi.cell 2
    have f0 : w.frozen? ⟨b, 0, none⟩ = false := hi.free 0
    have f1 : w.frozen? ⟨b, 1, none⟩ = false := hi.free 1
    have f2 : w.frozen? ⟨b, 2, none⟩ = false := hi.free 2
    have hn0 : ¬ (m : Int) < 0 := by omega
    have hn1 : ¬ (24 : Int) < (m : Int) := by omega
    go_enter Try.func37, Try.ntmps37
    go_wp2
    go_region
    have hlp := Lib.hid (lay_part v part m (N % 8) hm (by omega) hpart)
    generalize hV : (v % 2 ^ m).toNat = V at *
    have hPlt : part + V * 2 ^ (N % 8) < 2 ^ (N % 8 + m) := part_lt v part m (N % 8) V hV hpart
    generalize hP : part + V * 2 ^ (N % 8) = P at *
    go_wp2
    go_loopw [46] (fun i wr => ∃ j : Nat, j ≤ (N % 8 + m) / 8 ∧ i = .int .i64 j ∧ WMid w wr lo b og (num L + 256 ^ L.length * P) P (N / 8) (N % 8 + m) j) (fun i _ => (N % 8 + m) / 8 - (intOf i).toNat)
    case atStart =>
      refine ⟨0, Nat.zero_le _, rfl, x, L, ?_, ?_, by omega, by simp, fun g e => .inl (by rw [← hog]; exact e), ?_⟩
      · have e3 : ((N : Int) % 8 + (m : Int)) = ((N % 8 + m : Nat) : Int) := by omega
        rw [hlp.out, e3]
        have := ((hi.put 1 (.int .i64 (P : Int))).put 2 (.int .i64 ((N % 8 + m : Nat) : Int))).drew
        simpa using this
      · exact (ownsRow_setCell_other (ownsRow_setCell_other hown (a := ⟨b, 1, none⟩) (own_ne hown hi (by decide)) _) (a := ⟨b, 2, none⟩) (own_ne hown hi (by decide)) _).drew
      · exact (((But.refl (b :: og.toList) w).setCell (p := ⟨b, 1, none⟩) (.inl (by simp)) _).setCell (p := ⟨b, 2, none⟩) (.inl (by simp)) _).drew
    case round =>
      obtain ⟨j, hj, rfl, v1, L1, hi1, hown1, hl1, hx1, hg1, hb1⟩ := hrel
      obtain ⟨q, hq⟩ : ∃ q, q = P / 256 ^ j := ⟨_, rfl⟩
      rw [← hq] at hi1 hx1
      have HQ := Lib.hid hq
      clear hq
      by_cases hlt : j < (N % 8 + m) / 8
      · have c0 : wr.cell? ⟨b, 0, none⟩ = some v1 := hi1.cell 0
        have c1 : wr.cell? ⟨b, 1, none⟩ = some (.int .i64 (q : Nat)) := hi1.cell 1
        have c2 : wr.cell? ⟨b, 2, none⟩ = some (.int .i64 (N % 8 + m : Nat)) := hi1.cell 2
        have e0 : wr.frozen? ⟨b, 0, none⟩ = false := hi1.free 0
        have e1 : wr.frozen? ⟨b, 1, none⟩ = false := hi1.free 1
        have e2 : wr.frozen? ⟨b, 2, none⟩ = false := hi1.free 2
        have hne : v1.ownBlock ≠ some b := own_ne hown1 hi1 (by decide)
        have hbl : b < wr.heap.size := hi1.lt
        have hsz := hb1.size
        have HI := Lib.hid hi1
        have HX := Lib.hid hx1
        have HL := Lib.hid hl1
        clear hi hi1 h0 h1 h2 f0 f1 f2 hx1 hl1
        obtain ⟨i0, hi0, hz0, hz1, hz2⟩ := info_parts info_u8
        have hlen1 : L1.length + 1 ≤ 140737488355328 := by have := HL.out; omega
        go_wp2
        go_region_law (refine step_append_lies _ (by rfl) _ _ _ (by rfl) lo 5 i0 _ 1 1 Try.underlying51 hi0 hz0 hz1 hz2 rfl (by omega) v1 L1.length (cellsOf L1) (by rfl) ((hown1.alloc _).drew) ⟨wr.heap.size, 0, none⟩ 1 1 [.int .u8 (IntKind.u8.wrap q)] (by rfl) (by rfl) (World.news_of_block (cs := #[.int .u8 (IntKind.u8.wrap q)]) (t := 5) (fr := (0, 0)) (heap_alloc_new wr _)) (by simp [Value.oneCell']) (by omega) (by unfold maxLen; omega) (by omega) (by simp; omega) (wr.heap.size + 1) (by simp) ?_; intro gg cap w1 hown2 hgrow hat hlt2; have hi2 := (((HI.out.alloc (.cells #[.int .u8 (IntKind.u8.wrap q)] 5)).drew).grown hgrow (Ne.symm hne)); have g0 : w1.cell? ⟨b, 0, none⟩ = some v1 := hi2.cell 0; have g1 : w1.cell? ⟨b, 1, none⟩ = some (.int .i64 (q : Nat)) := hi2.cell 1; have g2 : w1.frozen? ⟨b, 0, none⟩ = false := hi2.free 0; have g3 : w1.frozen? ⟨b, 1, none⟩ = false := hi2.free 1; have HI2 := Lib.hid hi2; clear hi2)
        all_goals go_wp2
        all_goals go_roundw
        case rel => exact ⟨j + 1, by omega, by go_num, wmid_step HI.out HL.out HX.out HQ.out hg1 hb1 hown1 hown2 hgrow hat⟩
        case measure => simp [intOf]; omega
        case rel => exact ⟨j + 1, by omega, by go_num, wmid_step HI.out HL.out HX.out HQ.out hg1 hb1 hown1 hown2 hgrow hat⟩
        case measure => simp [intOf]; omega
        case rel => exact ⟨j + 1, by omega, by go_num, wmid_step HI.out HL.out HX.out HQ.out hg1 hb1 hown1 hown2 hgrow hat⟩
        case measure => simp [intOf]; omega
      · have c2 : wr.cell? ⟨b, 2, none⟩ = some (.int .i64 (N % 8 + m : Nat)) := hi1.cell 2
        have e2 : wr.frozen? ⟨b, 2, none⟩ = false := hi1.free 2
        have HI := Lib.hid hi1
        have HX := Lib.hid hx1
        have HL := Lib.hid hl1
        clear hi hi1 h0 h1 h2 f0 f1 f2 hx1 hl1
        go_wp2
        go_end0
        have hfin := ws_final (v := v) hm hlen hnum hV hP hPlt (show j = (N % 8 + m) / 8 by omega) HQ.out HI.out HL.out HX.out hown1
        exact ⟨rfl, v1.ownBlock, hfin, hg1, hb1.setCell (.inl (by simp)) _⟩
end Go.Proofs.Ytmafcmfafcjokaa
