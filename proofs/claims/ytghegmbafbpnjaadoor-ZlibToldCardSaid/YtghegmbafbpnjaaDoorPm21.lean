/- Several texts in one: DefP, DefQ, DefR, ZlM, ZlC (what Back, Told reach of them). -/
import Derived.Test.YtghegmbafbpnjaaDoorPm01
import Derived.Test.YtghegmbafbpnjaaDoorPm02
import Derived.Test.YtghegmbafbpnjaaDoorPm06
import Derived.Test.YtghegmbafbpnjaaDoorPm07
import Derived.Test.YtghegmbafbpnjaaDoorPm08
import Derived.Test.YtghegmbafbpnjaaDoorPm09
import Derived.Test.YtghegmbafbpnjaaDoorPm12
import Derived.Test.YtghegmbafbpnjaaDoorPm14
import Derived.Test.YtghegmbafbpnjaaDoorPm15
import Derived.Test.YtghegmbafbpnjaaDoorPm20
import Derived.Below
import Derived.BigQuiet
import Derived.BigRegion
import Derived.Deep.AppendLies
import Derived.Deep.CutBlock
import Derived.Deep.CutRange
import Derived.Deep.DeepCutAuto
import Derived.Deep.Draws
import Derived.Deep.LoopGhost
import Derived.Deep.QuietTactic
import Derived.Deep.RegionLaw
import Derived.Deep.RegionWith
import Derived.Deep.Slices
import Derived.Handy
import Derived.Laws.BitsAllLaws
import Derived.Laws.BitsLemmas
import Derived.Laws.CopyOwn
import Derived.Laws.IdiomStrings
import Derived.Laws.OwnMore
import Derived.Laws.Rows
import Derived.Laws.Strings2
import Derived.Laws.Strings3
import Derived.Laws.StructEq
import Derived.Lib.AppendStr
import Derived.Lib.AppendZeros
import Derived.Lib.Hide
import Derived.Lib.Strings
import Derived.LoopIn
import Derived.LoopNIn
import Derived.OneCell
import Derived.OpenShut
import Derived.Outline
import Derived.OwnWalk
import Derived.OwnWalkIn
import Derived.ProofKit
import Derived.RangeFuncBound
import Derived.RangeFuncCalls
import Derived.RangeFuncLeaves
import Derived.RangeFuncNested
import Derived.RegionTactic
import Derived.ScopeJumps
import Derived.Shelf.Abstract
import Derived.Shelf.RegionOpen
import Derived.Shelf.SlSortCmp.QuietGrown
import Derived.StillTailTactics
import Derived.TacticsInMore
import Derived.Test.YtghegmbafbpnjaaDoorChecked
import Derived.WalkKit
import Derived.WalkLawsBesides
import Derived.WalkMore
import Derived.WalkSpells
set_option maxRecDepth 100000
set_option linter.unusedVariables false
set_option linter.unusedVariables false
namespace Go.Proofs.YtghegmbafbpnjaaDoor
set_option maxRecDepth 100000
theorem layC_grows {l : List Int} (hc : chk l = 0) {t : Nat} {q : Nat × Nat} (hh : has l (t : Nat)) : q.2 + 1 ≤ (layC l q t).2 := by
  unfold layC layS
  rw [if_pos hh, layG_len]
  have h6 : l.getD ((t : Nat) : Int).toNat 0 ≠ 0 := hh.2.2
  have h8 : (t : Int) < l.length := hh.2.1
  have h9 := chk_okay hc _ (List.getElem_mem (show t < l.length by omega))
  rw [← getD_get (show t < l.length by omega)] at h9
  rw [Int.toNat_natCast] at h6 ⊢
  omega
theorem layTs_grows {l d : List Int} (hl : chk l = 0) (hd : chk d = 0) : ∀ (ts : List Tk) (q : Nat × Nat), q.1 < 2 ^ q.2 → (∀ t ∈ ts, tkHas l d t) → q.2 + ts.length ≤ (layTs l d q ts).2
  | [], q, _, _ => Nat.le_refl _
  | t :: ts, q, hq, ht => by
    have e := layT_ext hl hd hq (ht t (by simp))
    have h4 := layTs_grows hl hd ts _ e.2.2 (fun t h => ht t (by simp [h]))
    have h5 : q.2 + 1 ≤ (layT l d q t).2 := by
      have htt := ht t (by simp)
      unfold tkHas at htt
      unfold layT
      by_cases h0 : t.1 = 0
      · rw [if_pos h0] at htt ⊢; exact layC_grows hl htt.2
      · rw [if_neg h0] at htt ⊢
        obtain ⟨a1, a2, a3, a4, a5, a6⟩ := htt
        obtain ⟨b1, b2, b3, b4⟩ := lsym_all t.1 (by omega) a1
        obtain ⟨c1, c2, c3⟩ := dsym_all t.2.1 (by omega) a3
        have f1 := layC_grows hl (q := q) a5
        have g1 := layC_ext hl hq (lsym t.1)
        have g2 := layB_ext (v := t.1 - lenBase (lsym t.1)) (n := lenBits (lsym t.1)) (by have := lenBits_le (t := lsym t.1) (by omega) b2; omega) b4 g1.2.2
        have g3 := layC_ext hd g2.2.2 (dsym t.2.1)
        have g4 := layB_ext (v := t.2.1 - dstBase (dsym t.2.1)) (n := dstBits (dsym t.2.1)) (by have := dstBits_le (u := dsym t.2.1) c1; omega) c3 g3.2.2
        have k2 := g2.1
        have k3 := g3.1
        have k4 := g4.1
        omega
    show q.2 + (t :: ts).length ≤ (layTs l d (layT l d q t) ts).2
    rw [List.length_cons]; omega
theorem layRs_grows {small : List Int} (hc : chk small = 0) : ∀ (cs : List (Int × Nat)) (q : Nat × Nat), q.1 < 2 ^ q.2 → (∀ c ∈ cs, runOk c ∧ has small c.1 ∧ 0 ≤ c.1) → q.2 + cs.length ≤ (layRs small q cs).2
  | [], q, _, _ => Nat.le_refl _
  | c :: cs, q, hq, h => by
    obtain ⟨h1, h2, h3⟩ := h c (by simp)
    have e := layR_ext hc hq h1
    have ih := layRs_grows hc cs _ e.2.2 (fun t ht => h t (by simp [ht]))
    have h5 : q.2 + 1 ≤ (layR small q c).2 := by
      have e5 : ((c.1.toNat : Nat) : Int) = c.1 := by omega
      have f1 := layC_grows hc (t := c.1.toNat) (q := q) (by rw [e5]; exact h2)
      unfold layR
      by_cases k1 : c.1 = 16
      · rw [if_pos k1]
        rw [k1] at f1
        have e1 := layC_ext hc hq 16
        have e2 := (layB_ext (q := layC small q 16) (v := c.2) (n := 2) (by omega) (by have := h1.1 k1; omega) e1.2.2).1
        have f2 : q.2 + 1 ≤ (layC small q 16).2 := f1
        omega
      · rw [if_neg k1]
        by_cases k2 : c.1 = 17
        · rw [if_pos k2]
          rw [k2] at f1
          have e1 := layC_ext hc hq 17
          have e2 := (layB_ext (q := layC small q 17) (v := c.2) (n := 3) (by omega) (by have := h1.2.1 k2; omega) e1.2.2).1
          have f2 : q.2 + 1 ≤ (layC small q 17).2 := f1
          omega
        · rw [if_neg k2]
          by_cases k3 : c.1 = 18
          · rw [if_pos k3]
            rw [k3] at f1
            have e1 := layC_ext hc hq 18
            have e2 := (layB_ext (q := layC small q 18) (v := c.2) (n := 7) (by omega) (by have := h1.2.2 k3; omega) e1.2.2).1
            have f2 : q.2 + 1 ≤ (layC small q 18).2 := f1
            omega
          · rw [if_neg k3]; exact f1
    show q.2 + (c :: cs).length ≤ (layRs small (layR small q c) cs).2
    rw [List.length_cons]; omega
/-- What the stream of one dynamic block says. -/
theorem dynX_read {A B small : List Int} {n : Nat} {l : List UInt8} (h : DynOk A B small n (toks l)) {s : ByteArray} (hs : Says s (dynX A B small n (toks l))) {most : Int} (hm : (l.length : Int) ≤ most) :
    inflS s most = .ok (l, (dynX A B small n (toks l)).2) := by
  obtain ⟨h1, h2⟩ := toks_nil_say l
  have ha1 := h.a1
  have ha2 := h.a2
  have hb1 := h.b1
  have hb2 := h.b2
  have hn1 := h.n1
  have hn2 := h.n2
  have d1 := layB_ext (q := (0, 0)) (v := 1) (n := 1) (by omega) (by omega) zero_ok
  have d2 := layB_ext (q := layB (0, 0) 1 1) (v := 2) (n := 2) (by omega) (by omega) d1.2.2
  have e1 := layB_ext (q := layB (layB (0, 0) 1 1) 2 2) (v := A.length - 257) (n := 5) (by omega) (by omega) d2.2.2
  have e2 := layB_ext (v := B.length - 1) (n := 5) (by omega) (by omega) e1.2.2
  have e3 := layB_ext (v := n - 4) (n := 4) (by omega) (by omega) e2.2.2
  have e4 := layS3_ext h.s7 (ordS.take n) _ e3.2.2
  have e5 := layRs_ext h.cs (runs (A ++ B)) _ e4.2.2 (runsG_ok h.ab _ _)
  have e6 := layTs_ext h.ca h.cb (toks l) _ e5.2.2 h.tk
  have e7 := layC_ext h.ca e6.2.2 256
  have g5 := layRs_grows h.cs (runs (A ++ B)) _ e4.2.2 (fun c hc => ⟨runsG_ok h.ab _ _ c hc, h.rs c hc, (runsG_codes h.ab _ _ c hc).1⟩)
  have g6 := layTs_grows h.ca h.cb (toks l) _ e5.2.2 h.tk
  have hall : Ext (layB (layB (0, 0) 1 1) 2 2) (dynX A B small n (toks l)) := (((((e1.trans e2).trans e3).trans e4).trans e5).trans e6).trans e7
  have hz := text_size hs
  have l7 : (layTs A B (layRs small (layS3 small (layB (layB (layB (layB (layB (0, 0) 1 1) 2 2) (A.length - 257) 5) (B.length - 1) 5) (n - 4) 4) (ordS.take n)) (runs (A ++ B))) (toks l)).2 ≤ (dynX A B small n (toks l)).2 := e7.1
  have hF1 : (runs (A ++ B)).length < 8 * s.size + 1 := by omega
  have hF2 : (toks l).length < 8 * s.size + 1 := by omega
  have hrd := dyn_read h hs (most := most) (F := 8 * s.size + 1) hF1 hF2 d2.2.2 h2 (by rw [h1]; exact hm) (Ext.refl hs.1)
  rw [h1] at hrd
  unfold inflS
  refine one_block hs (k := 2) (by omega) hall ?_
  rw [block_dyn]; exact hrd

end Go.Proofs.YtghegmbafbpnjaaDoor
set_option linter.unusedVariables false
namespace Go.Proofs.YtghegmbafbpnjaaDoor
set_option maxRecDepth 100000
section
variable {β : Type}
end
theorem dynL_read (l : List UInt8) {s : ByteArray} (hs : Says s (dynL l)) {most : Int} (hm : (l.length : Int) ≤ most) : inflS s most = .ok (l, (dynL l).2) := dynX_read (dyn_ok l) hs hm
end Go.Proofs.YtghegmbafbpnjaaDoor
set_option linter.unusedVariables false
namespace Go.Proofs.YtghegmbafbpnjaaDoor
set_option maxRecDepth 100000
theorem layY_ext {q : Nat × Nat} (bs : List UInt8) (hq : q.1 < 2 ^ q.2) : Ext q (layY q bs) := by
  rw [layY_eq]
  refine ⟨by dsimp only; omega, ?_, ?_⟩
  · dsimp only
    have e : 2 ^ (8 * ((q.2 + 7) / 8)) = 2 ^ (8 * ((q.2 + 7) / 8) - q.2) * 2 ^ q.2 := by rw [← Nat.pow_add]; congr 1; omega
    rw [e, ← Nat.mul_assoc, Nat.add_mul_mod_self_right, Nat.mod_eq_of_lt hq]
  · dsimp only
    have h1 := num_lt bs
    rw [p256] at h1
    have h2 : q.1 < 2 ^ (8 * ((q.2 + 7) / 8)) := Nat.lt_of_lt_of_le hq (Nat.pow_le_pow_right (by decide) (by omega))
    rw [Nat.pow_add]
    generalize 2 ^ (8 * ((q.2 + 7) / 8)) = P at *
    generalize 2 ^ (8 * bs.length) = Q at *
    have := Nat.mul_le_mul_right P (show num bs + 1 ≤ Q by omega)
    rw [Nat.add_mul, Nat.mul_comm Q P] at this
    omega
/-- The bytes stand in the text. -/
theorem text_bytes {r q : Nat × Nat} {bs : List UInt8} (hr : r.1 < 2 ^ r.2) (hq : q.1 < 2 ^ q.2) (he : Ext (layY q bs) r) : ((textOf r.1 r.2).data.toList.drop ((q.2 + 7) / 8)).take bs.length = bs := by
  have hle := he.1
  rw [layY_eq] at hle
  have hle2 : 8 * ((q.2 + 7) / 8) + 8 * bs.length ≤ r.2 := hle
  have hl : (textOf r.1 r.2).data.toList.length = (r.2 + 7) / 8 := by
    have := textOf_size r.1 r.2
    rw [← this]; exact Array.length_toList
  have hll : (((textOf r.1 r.2).data.toList.drop ((q.2 + 7) / 8)).take bs.length).length = bs.length := by
    rw [List.length_take, List.length_drop, hl]; omega
  have hnum : num (((textOf r.1 r.2).data.toList.drop ((q.2 + 7) / 8)).take bs.length) = num bs := by
    have h8 : q.1 < 2 ^ (8 * ((q.2 + 7) / 8)) := Nat.lt_of_lt_of_le hq (Nat.pow_le_pow_right (by decide) (by omega))
    have hb : bitsAt r.1 (8 * ((q.2 + 7) / 8)) (8 * bs.length) = num bs := by
      rw [ext_bits he (by rw [layY_eq]; exact Nat.le_refl _), layY_eq]
      unfold bitsAt
      dsimp only
      rw [Nat.mul_comm (num _), Nat.add_mul_div_left _ _ (Nat.two_pow_pos _), Nat.div_eq_of_lt h8, Nat.zero_add]
      apply Nat.mod_eq_of_lt
      have := num_lt bs
      rw [p256] at this
      exact this
    rw [num_take, num_drop, num_textOf _ _ hr, p256, p256]
    exact hb
  rw [bytesOf_eq hll hnum]
  exact (bytesOf_eq rfl rfl).symm
/-- Bytes that were laid are read. -/
theorem bytes_back {s : ByteArray} {q r : Nat × Nat} {bs : List UInt8} (hs : Says s r) (hq : q.1 < 2 ^ q.2) (he : Ext (layY q bs) r) {i k p : Nat} (hp : (p + 7) / 8 = (q.2 + 7) / 8 + i) (hik : i + k ≤ bs.length) :
    bytesErr s p (k : Nat) = 0 ∧ bytesVal s p (k : Nat) = ⟨((bs.drop i).take k).toArray⟩ ∧ bytesGo s p (k : Nat) = 8 * ((q.2 + 7) / 8 + i + k) := by
  have hle := he.1
  rw [layY_eq] at hle
  have hle2 : 8 * ((q.2 + 7) / 8) + 8 * bs.length ≤ r.2 := hle
  have h0 : bytesErr (textOf r.1 r.2) p (k : Nat) = 0 := by
    unfold bytesErr
    rw [if_neg (by omega), if_neg]
    rw [textOf_size]; omega
  obtain ⟨x1, x2, x3⟩ := bytes_pre hs.2 (p := p) (n := (k : Nat)) (by rw [h0]; decide)
  refine ⟨x1.trans h0, ?_, ?_⟩
  · rw [x2]
    unfold bytesVal
    rw [if_pos h0, Int.toNat_natCast]
    have ht := text_bytes hs.1 hq he
    congr 2
    rw [hp, ← List.drop_drop]
    conv => rhs; rw [← ht]
    rw [List.drop_take, List.take_take, Nat.min_eq_left (by omega)]
  · rw [x3]
    unfold bytesGo
    rw [if_neg (by omega), if_pos h0, Int.toNat_natCast, hp]

theorem word_two (a b : UInt8) : wordOf ⟨[a, b].toArray⟩ = a.toNat + 256 * b.toNat := rfl
theorem storX_read {l : List UInt8} (h : l.length ≤ 65535) {s : ByteArray} (hs : Says s (storX l)) {most : Int} (hm : (l.length : Int) ≤ most) : inflS s most = .ok (l, (storX l).2) := by
  have e1 := layB_ext (q := (0, 0)) (v := 1) (n := 1) (by omega) (by omega) zero_ok
  have e2 := layB_ext (q := layB (0, 0) 1 1) (v := 0) (n := 2) (by omega) (by omega) e1.2.2
  have eY := layY_ext (headY l.length ++ l) e2.2.2
  have hX : storX l = layY (layB (layB (0, 0) 1 1) 0 2) (headY l.length ++ l) := storX_one h
  have hq2 : (layB (layB (0, 0) 1 1) 0 2).2 = 3 := by rw [layB_eq (by omega) (by omega), layB_eq (by omega) (by omega)]
  have hsz := storX_size h
  have hlen : (headY l.length ++ l).length = 4 + l.length := by rw [List.length_append]; rfl
  have hself : Ext (layY (layB (layB (0, 0) 1 1) 0 2) (headY l.length ++ l)) (storX l) := by rw [hX]; exact Ext.refl eY.2.2
  obtain ⟨x1, x2, x3⟩ := bytes_back hs e2.2.2 hself (i := 0) (k := 2) (p := (layB (layB (0, 0) 1 1) 0 2).2) (by omega) (by rw [hlen]; omega)
  obtain ⟨y1, y2, y3⟩ := bytes_back hs e2.2.2 hself (i := 2) (k := 2) (p := 24) (by omega) (by rw [hlen]; omega)
  obtain ⟨z1, z2, z3⟩ := bytes_back hs e2.2.2 hself (i := 4) (k := l.length) (p := 40) (by omega) (by rw [hlen]; exact Nat.le_refl _)
  rw [hq2] at x1 x2 x3 y3 z3
  have hx3 : bytesGo s 3 ((2 : Nat) : Int) = 24 := x3
  have hy3 : bytesGo s 24 ((2 : Nat) : Int) = 40 := y3
  have hz3 : bytesGo s 40 ((l.length : Nat) : Int) = 8 * (l.length + 5) := by rw [z3]; omega
  have hx2 : bytesVal s 3 ((2 : Nat) : Int) = ⟨[UInt8.ofNat l.length, UInt8.ofNat (l.length / 256)].toArray⟩ := x2
  have hy2 : bytesVal s 24 ((2 : Nat) : Int) = ⟨[UInt8.ofNat (255 - l.length % 256), UInt8.ofNat (255 - l.length / 256)].toArray⟩ := y2
  have hz2 : bytesVal s 40 ((l.length : Nat) : Int) = ⟨l.toArray⟩ := by
    rw [z2]
    have : (headY l.length ++ l).drop 4 = l := rfl
    rw [this, List.take_length]
  have n1 : (UInt8.ofNat l.length).toNat = l.length % 256 := by
    have := UInt8.toNat_ofNat' (n := l.length)
    omega
  have w1 : wordOf (bytesVal s 3 ((2 : Nat) : Int)) = l.length := by
    rw [hx2, word_two, n1, u8n _ (by omega)]; omega
  have w2 : wordOf (bytesVal s 24 ((2 : Nat) : Int)) = 65535 - l.length := by
    rw [hy2, word_two, u8n _ (by omega), u8n _ (by omega)]; omega
  unfold inflS
  refine one_block hs (k := 0) (by omega) (eY.trans hself) ?_
  rw [block_stored, hq2, stored_goes x1 (by rw [hx3]; exact y1) (by rw [hx3, w1, w2]; omega), hx3, hy3, w1]
  unfold storedK
  rw [bind_val (rBytes_val z1), when_not (by show ¬ most < (([] : List UInt8).length : Int) + (l.length : Nat); simp; omega), hz3, hz2, hsz]
  show Except.ok (([] : List UInt8) ++ l, 8 * (l.length + 5)) = _
  rfl

theorem says_behind {r : Nat × Nat} (hr : r.1 < 2 ^ r.2) (b : ByteArray) : Says (textX r ++ b) r := by
  refine ⟨hr, ?_⟩
  show (textOf r.1 r.2).data.toList <+: (textX r ++ b).data.toList
  rw [show (textX r ++ b).data.toList = (textX r).data.toList ++ b.data.toList by simp]
  exact List.prefix_append _ _
/-- What a stream says, whatever stands behind it. -/
theorem stream_back {r : Nat × Nat} {l : List UInt8} (hr : r.1 < 2 ^ r.2) (h : ∀ s, Says s r → ∀ most : Int, (l.length : Int) ≤ most → inflS s most = .ok (l, r.2)) (b : ByteArray) :
    inflT (textX r ++ b) (l.length : Nat) = (l, (textX r).size, 0) := by
  rw [inflT_ok (h _ (says_behind hr b) _ (Int.le_refl _))]
  unfold textX
  rw [textOf_size]
theorem fixedX_lt (l : List UInt8) : (fixedX l).1 < 2 ^ (fixedX l).2 := (fixedX_ext l).2.2
theorem dynL_lt (l : List UInt8) : (dynL l).1 < 2 ^ (dynL l).2 := by
  have h := dyn_ok l
  have ha1 := h.a1
  have ha2 := h.a2
  have hb1 := h.b1
  have hb2 := h.b2
  have hn1 := h.n1
  have hn2 := h.n2
  have d1 := layB_ext (q := (0, 0)) (v := 1) (n := 1) (by omega) (by omega) zero_ok
  have d2 := layB_ext (q := layB (0, 0) 1 1) (v := 2) (n := 2) (by omega) (by omega) d1.2.2
  have e1 := layB_ext (q := layB (layB (0, 0) 1 1) 2 2) (v := (lenA (toks l)).length - 257) (n := 5) (by omega) (by omega) d2.2.2
  have e2 := layB_ext (v := (lenB (toks l)).length - 1) (n := 5) (by omega) (by omega) e1.2.2
  have e3 := layB_ext (v := (told (lenS (lenA (toks l) ++ lenB (toks l)))).length - 4) (n := 4) (by omega) (by omega) e2.2.2
  have e4 := layS3_ext h.s7 (ordS.take (told (lenS (lenA (toks l) ++ lenB (toks l)))).length) _ e3.2.2
  have e5 := layRs_ext h.cs (runs (lenA (toks l) ++ lenB (toks l))) _ e4.2.2 (runsG_ok h.ab _ _)
  have e6 := layTs_ext h.ca h.cb (toks l) _ e5.2.2 h.tk
  exact (layC_ext h.ca e6.2.2 256).2.2
theorem storX_lt {l : List UInt8} (h : l.length ≤ 65535) : (storX l).1 < 2 ^ (storX l).2 := by
  have e1 := layB_ext (q := (0, 0)) (v := 1) (n := 1) (by omega) (by omega) zero_ok
  have e2 := layB_ext (q := layB (0, 0) 1 1) (v := 0) (n := 2) (by omega) (by omega) e1.2.2
  rw [storX_one h]
  exact (layY_ext (headY l.length ++ l) e2.2.2).2.2
theorem stor_back {l : List UInt8} (h : l.length ≤ 65535) (b : ByteArray) : inflT (textX (storX l) ++ b) (l.length : Nat) = (l, (textX (storX l)).size, 0) := stream_back (storX_lt h) (fun s hs most hm => storX_read h hs hm) b
theorem fixed_back (l : List UInt8) (b : ByteArray) : inflT (textX (fixedX l) ++ b) (l.length : Nat) = (l, (textX (fixedX l)).size, 0) := stream_back (fixedX_lt l) (fun s hs most hm => fixed_read l hs hm) b
theorem dynL_back (l : List UInt8) (b : ByteArray) : inflT (textX (dynL l) ++ b) (l.length : Nat) = (l, (textX (dynL l)).size, 0) := stream_back (dynL_lt l) (fun s hs most hm => dynL_read l hs hm) b
theorem best_back {l : List UInt8} (h : l.length ≤ 65535) (b : ByteArray) : inflT (bestX l ++ b) (l.length : Nat) = (l, (bestX l).size, 0) := by
  rcases (bestX_cases l).1 with e | e | e
  · rw [e]; exact stor_back h b
  · rw [e]; exact fixed_back l b
  · rw [e]; exact dynL_back l b
end Go.Proofs.YtghegmbafbpnjaaDoor
set_option linter.unusedVariables false
namespace Go.Proofs.YtghegmbafbpnjaaDoor
set_option maxRecDepth 100000
theorem head_ok (L : List UInt8) : ¬ badHead ((120 :: 1 :: L).getD 0 0).toNat ((120 :: 1 :: L).getD 1 0).toNat := by
  show ¬ badHead (120 : UInt8).toNat (1 : UInt8).toNat
  decide
theorem best_behind {l : List UInt8} (h : l.length ≤ 65535) (F : List UInt8) : inflT (strL ((bestX l).data.toList ++ F)) (l.length : Nat) = (l, (bestX l).size, 0) := by
  rw [strL_append, strL_of]; exact best_back h _
theorem zipL_size (l F : List UInt8) : (zipL l F).size = 2 + (bestX l).size + F.length := by
  unfold zipL
  rw [strL_size]
  simp only [List.length_cons, List.length_append]
  show (bestX l).data.toList.length + F.length + 1 + 1 = _
  rw [Array.length_toList]
  show (bestX l).size + F.length + 1 + 1 = _
  omega
theorem unz_zip {l : List UInt8} (h : l.length ≤ 65535) (F : List UInt8) :
    unzT (zipL l F) (l.length : Nat) = if F.length < 4 then ([], 3) else if ofL (F.take 4) ≠ adSum l then ([], 17) else if 4 < F.length then ([], 4) else (l, 0) := by
  have hs := zipL_size l F
  have hl : (zipL l F).data.toList = 120 :: 1 :: ((bestX l).data.toList ++ F) := by unfold zipL; rw [strL_list]
  have hb := best_behind h F
  have hd2 : (120 :: 1 :: ((bestX l).data.toList ++ F)).drop 2 = (bestX l).data.toList ++ F := rfl
  have hbl : (bestX l).data.toList.length = (bestX l).size := by rw [Array.length_toList]; rfl
  have hdr : (120 :: 1 :: ((bestX l).data.toList ++ F)).drop (2 + (bestX l).size) = F := by
    rw [← List.drop_drop, hd2, ← hbl, List.drop_append_of_le_length (Nat.le_refl _), List.drop_length, List.nil_append]
  unfold unzT
  rw [hl, hd2, hb, hs]
  dsimp only
  rw [if_neg (by omega), if_neg (head_ok _), if_neg (by decide), hdr]
  by_cases h4 : F.length < 4
  · rw [if_pos h4, if_pos (by omega)]
  · rw [if_neg h4, if_neg (by omega)]
    by_cases ho : ofL (F.take 4) ≠ adSum l
    · rw [if_pos ho, if_pos ho]
    · rw [if_neg ho, if_neg ho]
      by_cases h5 : 4 < F.length
      · rw [if_pos h5, if_pos (by omega)]
      · rw [if_neg h5, if_neg (by omega)]
theorem wrapT_size (l : List UInt8) : (wrapT l).size = (bestX l).size + 6 := by unfold wrapT; rw [zipL_size, fourL_length]; omega
end Go.Proofs.YtghegmbafbpnjaaDoor
set_option maxRecDepth 100000
set_option linter.unusedVariables false
namespace Go.Proofs.YtghegmbafbpnjaaDoor
set_option maxRecDepth 100000
open Go Go.RowKit
theorem layD_least {A B small : List Int} {n : Nat} {ts : List Tk} (h : DynOk A B small n ts) {q : Nat × Nat} (hq : q.1 < 2 ^ q.2) : q.2 + 14 ≤ (layD A B small n ts q).2 := by
  have ha1 := h.a1
  have ha2 := h.a2
  have hb1 := h.b1
  have hb2 := h.b2
  have hn1 := h.n1
  have hn2 := h.n2
  have e1 := layB_ext (q := q) (v := A.length - 257) (n := 5) (by omega) (by omega) hq
  have e2 := layB_ext (v := B.length - 1) (n := 5) (by omega) (by omega) e1.2.2
  have e3 := layB_ext (v := n - 4) (n := 4) (by omega) (by omega) e2.2.2
  have e4 := layS3_ext h.s7 (ordS.take n) _ e3.2.2
  have e5 := layRs_ext h.cs (runs (A ++ B)) _ e4.2.2 (runsG_ok h.ab _ _)
  have e6 := layTs_ext h.ca h.cb ts _ e5.2.2 h.tk
  have e7 := layC_ext h.ca e6.2.2 256
  have f1 : (layB q (A.length - 257) 5).2 = q.2 + 5 := by rw [layB_eq (by omega) (by omega)]
  have f2 : (layB (layB q (A.length - 257) 5) (B.length - 1) 5).2 = q.2 + 5 + 5 := by rw [layB_eq (by omega) (by omega), f1]
  have f3 : (layB (layB (layB q (A.length - 257) 5) (B.length - 1) 5) (n - 4) 4).2 = q.2 + 5 + 5 + 4 := by rw [layB_eq (by omega) (by omega), f2]
  have g := (e4.trans (e5.trans (e6.trans e7))).1
  rw [f3] at g
  exact g
theorem fixed_least (l : List UInt8) : 10 ≤ (fixedX l).2 := by
  have e1 := layB_ext (q := (0, 0)) (v := 1) (n := 1) (by omega) (by omega) zero_ok
  have e2 := layB_ext (q := layB (0, 0) 1 1) (v := 1) (n := 2) (by omega) (by omega) e1.2.2
  have e3 := layTs_ext chk_fixL chk_fixD (toks l) _ e2.2.2 (toks_fixed l)
  have f2 : (layB (layB (0, 0) 1 1) 1 2).2 = 3 := by decide
  have h256 : has fixL ((256 : Nat) : Int) := by decide +kernel
  have h7 : (fixL.getD 256 0).toNat = 7 := by decide +kernel
  have g : (layC fixL (layTs fixL fixD (layB (layB (0, 0) 1 1) 1 2) (toks l)) 256).2 = (layTs fixL fixD (layB (layB (0, 0) 1 1) 1 2) (toks l)).2 + 7 := by
    unfold layC layS
    rw [if_pos h256, layG_len, Int.toNat_natCast, h7]
  have g3 := e3.1
  unfold fixedX
  rw [g]
  omega
theorem best_least {l : List UInt8} (h : l.length ≤ 65535) : 2 ≤ (bestX l).size := by
  rcases (bestX_cases l).1 with e | e | e
  · rw [e, stor_size h]; omega
  · have := fixed_least l
    rw [e]; unfold textX; rw [textOf_size]; omega
  · have e1 := layB_ext (q := (0, 0)) (v := 1) (n := 1) (by omega) (by omega) zero_ok
    have e2 := layB_ext (q := layB (0, 0) 1 1) (v := 2) (n := 2) (by omega) (by omega) e1.2.2
    have g := layD_least (dyn_ok l) e2.2.2
    have f2 : (layB (layB (0, 0) 1 1) 2 2).2 = 3 := by decide
    have g2 : 17 ≤ (dynL l).2 := by
      unfold dynL dynX
      omega
    rw [e]; unfold textX; rw [textOf_size]; omega
attribute [local irreducible] bestX wrapT unzT strL fourL adSum textX storX fixedX dynL
end Go.Proofs.YtghegmbafbpnjaaDoor
