/- Several texts in one: StableB, LawI, RLimit, EfG, EfI, DgI, DgJ (what Back, Heads, Told reach of them). -/
import Derived.Test.YtghegmbafbpnjaaDoorPm01
import Derived.Test.YtghegmbafbpnjaaDoorPm02
import Derived.Test.YtghegmbafbpnjaaDoorPm03
import Derived.Test.YtghegmbafbpnjaaDoorPm04
import Derived.Test.YtghegmbafbpnjaaDoorPm05
import Derived.Test.YtghegmbafbpnjaaDoorPm06
import Derived.Test.YtghegmbafbpnjaaDoorPm07
import Derived.Test.YtghegmbafbpnjaaDoorPm08
import Derived.Test.YtghegmbafbpnjaaDoorPm09
import Derived.Test.YtghegmbafbpnjaaDoorPm10
import Derived.Test.YtghegmbafbpnjaaDoorPm11
import Derived.Test.YtghegmbafbpnjaaDoorPm12
import Derived.Test.YtghegmbafbpnjaaDoorPm13
import Derived.Test.YtghegmbafbpnjaaDoorPm14
import Derived.Below
import Derived.BigQuiet
import Derived.BigRegion
import Derived.Deep.AppendLies
import Derived.Deep.CutBlock
import Derived.Deep.CutRange
import Derived.Deep.DeepCutAuto
import Derived.Deep.Draws
import Derived.Deep.LoopGhost
import Derived.Deep.QuietTactic
import Derived.Deep.RegionLaw
import Derived.Deep.RegionWith
import Derived.Deep.Slices
import Derived.Handy
import Derived.Laws.BitsAllLaws
import Derived.Laws.BitsLemmas
import Derived.Laws.CopyOwn
import Derived.Laws.IdiomStrings
import Derived.Laws.OwnMore
import Derived.Laws.Rows
import Derived.Laws.Strings2
import Derived.Laws.Strings3
import Derived.Laws.StructEq
import Derived.Lib.AppendStr
import Derived.Lib.Hide
import Derived.Lib.Strings
import Derived.LoopIn
import Derived.LoopNIn
import Derived.OneCell
import Derived.OpenShut
import Derived.Outline
import Derived.OwnWalk
import Derived.OwnWalkIn
import Derived.ProofKit
import Derived.RangeFuncBound
import Derived.RangeFuncCalls
import Derived.RangeFuncLeaves
import Derived.RangeFuncNested
import Derived.RegionTactic
import Derived.ScopeJumps
import Derived.Shelf.Abstract
import Derived.Shelf.RegionOpen
import Derived.Shelf.SlSortCmp.QuietGrown
import Derived.StillTailTactics
import Derived.TacticsInMore
import Derived.Test.YtghegmbafbpnjaaDoorChecked
import Derived.WalkKit
import Derived.WalkLawsBesides
import Derived.WalkMore
import Derived.WalkSpells
set_option maxRecDepth 100000
set_option linter.unusedVariables false
namespace Go.Proofs.YtghegmbafbpnjaaDoor
set_option maxRecDepth 100000
open Go Go.RowKit
/-- From a to b the same elements, sorted; the others as they were. -/
def Piece (d d' : List (Nat × Nat)) (a b : Nat) : Prop := d'.length = d.length ∧ Srt (slc d' a b) ∧ (slc d' a b).Perm (slc d a b) ∧ (∀ lo hi, hi ≤ a → slc d' lo hi = slc d lo hi) ∧ (∀ lo hi, b ≤ lo → slc d' lo hi = slc d lo hi)
theorem piece_of {d : List (Nat × Nat)} {a b : Nat} {S : List (Nat × Nat)} (hab : a ≤ b) (hb : b ≤ d.length) (hs : Srt S) (hp : S.Perm (slc d a b)) : Piece d (d.take a ++ S ++ d.drop b) a b := by
  have hl := hp.length_eq
  rw [length_slc d a b hab hb] at hl
  have h1 : (d.take a).length = a := by simp; omega
  have hsp := slc_split d a b hab
  have e : slc (d.take a ++ S ++ d.drop b) a b = S := slc_at _ _ _ _ _ h1.symm (by omega)
  refine ⟨by simp; omega, by rw [e]; exact hs, by rw [e]; exact hp, fun lo hi h => ?_, fun lo hi h => ?_⟩
  · conv => rhs; rw [hsp]
    rw [List.append_assoc, List.append_assoc, slc_left _ _ _ _ (by omega), slc_left _ _ _ _ (by omega)]
  · conv => rhs; rw [hsp]
    exact slc_right _ _ _ _ _ (by simp; omega) (by simp [length_slc d a b hab hb]; omega)
def GotPiece (w : World) (g o : Nat) (d : List (Nat × Nat)) (a b : Nat) (e : Ending) (w' : World) : Prop := e = .returned (.tuple #[]) ∧ But [g] w w' ∧ ∃ d', Piece d d' a b ∧ CL w' g o d'
theorem insertion_piece {w : World} {g o n cap a b : Nat} {d : List (Nat × Nat)} (hd : CL w g o d) (hdl : d.length = n) (hn : n ≤ 1000) (hgl : g < w.heap.size) (hab : a ≤ b) (hb : b ≤ n) (hX : (slc d a b).Pairwise fun x y => x.1 < y.1) :
    Calls Tryd.prog 88 #[.slice (some ⟨g, o, none⟩) n cap, .int .i64 a, .int .i64 b, .func (.func 77) #[] #[]] w (GotPiece w g o d a b) := by
  have hsp := slc_split d a b hab
  have h1 : (d.take a).length = a := by simp; omega
  refine (insertion_any (A := d.take a) (X := slc d a b) (B := d.drop b) (by rw [← hsp]; exact hd) (by rw [← hsp]; exact hdl) hn hgl h1.symm (by rw [length_slc d a b hab (by omega)]; omega) hX).mono ?_
  rintro e w' ⟨he, ⟨S, hS, hp, hc⟩, hB⟩
  exact ⟨he, hB, _, piece_of hab (by omega) hS hp, hc⟩
theorem sym_piece {w : World} {g o n cap a m b : Nat} {d : List (Nat × Nat)} (hd : CL w g o d) (hdl : d.length = n) (hn : n ≤ 1000) (hgl : g < w.heap.size) (ham : a < m) (hmb : m < b) (hb : b ≤ n)
    (hX : Srt (slc d a m)) (hY : Srt (slc d m b)) (hc : Crs (slc d a m) (slc d m b)) :
    Calls Tryd.prog 89 #[.slice (some ⟨g, o, none⟩) n cap, .int .i64 a, .int .i64 m, .int .i64 b, .func (.func 77) #[] #[]] w (GotPiece w g o d a b) := by
  have hsp := slc_split d a b (by omega)
  have hj := slc_join d a m b (by omega) (by omega)
  have h1 : (d.take a).length = a := by simp; omega
  have l1 := length_slc d a m (by omega) (by omega)
  have l2 := length_slc d m b (by omega) (by omega)
  have e : d.take a ++ slc d a m ++ slc d m b ++ d.drop b = d := by
    conv => rhs; rw [hsp, hj]
    simp only [List.append_assoc]
  refine (sym_all _ w g o n cap a m b (d.take a) (slc d a m) (slc d m b) (d.drop b) (Nat.le_refl _) (by rw [e]; exact hd) (by rw [e]; exact hdl) hn hgl h1.symm (by omega) (by omega) (by omega) (by omega) hX hY hc).mono ?_
  rintro e w' ⟨he, ⟨S, hS, hp, hc⟩, hB⟩
  exact ⟨he, hB, _, piece_of (by omega) (by omega) hS (by rw [hj]; exact hp), hc⟩

/-- The first part of the elements is in pieces, what stands behind is as it was. -/
def Fst (d0 d : List (Nat × Nat)) (a : Nat) : Prop := d.length = d0.length ∧ Done 20 d0 d a ∧ ∀ lo hi, a ≤ lo → slc d lo hi = slc d0 lo hi
theorem Fst.next {d0 d d' : List (Nat × Nat)} {a : Nat} (h : Fst d0 d a) (hp : Piece d d' a (a + 20)) : Fst d0 d' (a + 20) := by
  obtain ⟨h1, h2, h3⟩ := h
  obtain ⟨p1, p2, p3, p4, p5⟩ := hp
  exact ⟨p1.trans h1, (h2.of p4).more ⟨p2, by rw [← h3 a (a + 20) (Nat.le_refl _)]; exact p3⟩, fun lo hi hl => (p5 lo hi hl).trans (h3 lo hi (by omega))⟩
theorem Fst.last {d0 d d' : List (Nat × Nat)} {a n : Nat} (h : Fst d0 d a) (ha : a ≤ n) (hn : n ≤ a + 20) (hp : Piece d d' a n) : d'.length = d0.length ∧ Rest 20 d0 d' n 0 := by
  obtain ⟨h1, h2, h3⟩ := h
  obtain ⟨p1, p2, p3, p4, p5⟩ := hp
  exact ⟨p1.trans h1, (h2.of p4).join ha (.last hn ⟨p2, by rw [← h3 a n (Nat.le_refl _)]; exact p3⟩)⟩
theorem Fst.pair {d0 d : List (Nat × Nat)} {a b : Nat} (h : Fst d0 d a) (h0 : d0.Pairwise fun x y => x.1 < y.1) : (slc d a b).Pairwise fun x y => x.1 < y.1 := by
  rw [h.2.2 a b (Nat.le_refl _)]
  unfold slc
  exact List.Pairwise.sublist ((List.take_sublist _ _).trans (List.drop_sublist _ _)) h0
/-- Pieces of 2 B elements, and behind them pieces of B. -/
def Snd (B : Nat) (d0 d : List (Nat × Nat)) (n a : Nat) : Prop := d.length = d0.length ∧ Done (2 * B) d0 d a ∧ Rest B d0 d n a
theorem Rest.good {B n : Nat} {d0 d : List (Nat × Nat)} {a : Nat} (h : Rest B d0 d n a) (hn : a + B < n) : Good d0 d a (a + B) ∧ Rest B d0 d n (a + B) := by
  cases h with
  | last h _ => omega
  | more _ h1 h2 => exact ⟨h1, h2⟩
theorem Rest.end' {B n : Nat} {d0 d : List (Nat × Nat)} {a : Nat} (h : Rest B d0 d n a) (hn : n ≤ a + B) : Good d0 d a n := by
  cases h with
  | last _ h => exact h
  | more h h1 h2 =>
    have e : a + B = n := by omega
    rw [e] at h1; exact h1
theorem good_none {d0 d : List (Nat × Nat)} (n : Nat) : Good d0 d n n := by
  unfold Good slc; rw [Nat.sub_self, List.take_zero, List.take_zero]; exact ⟨List.Pairwise.nil, List.Perm.refl _⟩
theorem Rest.two {B n : Nat} {d0 d : List (Nat × Nat)} {a : Nat} (h : Rest B d0 d n a) (hB : 0 < B) (hn : a + 2 * B ≤ n) : Good d0 d a (a + B) ∧ Good d0 d (a + B) (a + 2 * B) ∧ Rest B d0 d n (a + 2 * B) := by
  obtain ⟨h1, h2⟩ := h.good (by omega)
  have e : a + B + B = a + 2 * B := by omega
  by_cases h3 : a + B + B < n
  · obtain ⟨h4, h5⟩ := h2.good h3
    rw [e] at h4 h5
    exact ⟨h1, h4, h5⟩
  · have e2 : n = a + 2 * B := by omega
    have := h2.end' (by omega)
    rw [e2] at this ⊢
    exact ⟨h1, this, .last (by omega) (good_none _)⟩
theorem good_join {d0 d d' : List (Nat × Nat)} {a m b : Nat} (h1 : Good d0 d a m) (h2 : Good d0 d m b) (ham : a ≤ m) (hmb : m ≤ b) (hp : Piece d d' a b) : Good d0 d' a b := by
  obtain ⟨p1, p2, p3, p4, p5⟩ := hp
  refine ⟨p2, p3.trans ?_⟩
  rw [slc_join d a m b ham hmb, slc_join d0 a m b ham hmb]
  exact h1.2.append h2.2
theorem Snd.next {B n : Nat} {d0 d d' : List (Nat × Nat)} {a : Nat} (h : Snd B d0 d n a) (hB : 0 < B) (hn : a + 2 * B ≤ n) (hp : Piece d d' a (a + 2 * B)) : Snd B d0 d' n (a + 2 * B) := by
  obtain ⟨h1, h2, h3⟩ := h
  obtain ⟨q1, q2, q3⟩ := h3.two hB hn
  have hg := good_join q1 q2 (by omega) (by omega) hp
  obtain ⟨p1, p2, p3, p4, p5⟩ := hp
  exact ⟨p1.trans h1, (h2.of p4).more hg, q3.of p5⟩
theorem Snd.half {B n : Nat} {d0 d d' : List (Nat × Nat)} {a : Nat} (h : Snd B d0 d n a) (h1 : a + B < n) (h2 : n ≤ a + 2 * B) (hp : Piece d d' a n) : d'.length = d0.length ∧ Rest (2 * B) d0 d' n 0 := by
  obtain ⟨k1, k2, k3⟩ := h
  obtain ⟨q1, q2⟩ := k3.good h1
  have hg := good_join q1 (q2.end' (by omega)) (by omega) (by omega) hp
  obtain ⟨p1, p2, p3, p4, p5⟩ := hp
  exact ⟨p1.trans k1, (k2.of p4).join (by omega) (.last h2 hg)⟩
theorem Snd.none {B n : Nat} {d0 d : List (Nat × Nat)} {a : Nat} (h : Snd B d0 d n a) (ha : a ≤ n) (h1 : n ≤ a + B) : d.length = d0.length ∧ Rest (2 * B) d0 d n 0 :=
  ⟨h.1, h.2.1.join ha (.last (by omega) (h.2.2.end' h1))⟩
theorem Snd.crs {B n : Nat} {d0 d : List (Nat × Nat)} {a : Nat} (h0 : d0.Pairwise fun x y => x.1 < y.1) (h : Snd B d0 d n a) (hB : 0 < B) (hn : a + 2 * B ≤ n) :
    Srt (slc d a (a + B)) ∧ Srt (slc d (a + B) (a + 2 * B)) ∧ Crs (slc d a (a + B)) (slc d (a + B) (a + 2 * B)) := by
  obtain ⟨q1, q2, q3⟩ := h.2.2.two hB hn
  exact ⟨q1.1, q2.1, Good.crs h0 q1 q2 (by omega) (by omega)⟩
theorem Snd.crs2 {B n : Nat} {d0 d : List (Nat × Nat)} {a : Nat} (h0 : d0.Pairwise fun x y => x.1 < y.1) (h : Snd B d0 d n a) (h1 : a + B < n) (h2 : n ≤ a + 2 * B) :
    Srt (slc d a (a + B)) ∧ Srt (slc d (a + B) n) ∧ Crs (slc d a (a + B)) (slc d (a + B) n) := by
  obtain ⟨q1, q2⟩ := h.2.2.good h1
  have q3 := q2.end' (by omega)
  exact ⟨q1.1, q3.1, Good.crs h0 q1 q3 (by omega) (by omega)⟩
attribute [local irreducible] slc
set_option maxRecDepth 100000 in
set_option maxHeartbeats 4000000 in
theorem stable_any {w : World} {g o n cap : Nat} {d : List (Nat × Nat)} (hd : CL w g o d) (hdl : d.length = n) (hn : n ≤ 1000) (hgl : g < w.heap.size) (hs : d.Pairwise fun x y => x.1 < y.1) :
    Calls Tryd.prog 85 #[.slice (some ⟨g, o, none⟩) n cap, .int .i64 n, .func (.func 77) #[] #[]] w fun e w' => e = .returned (.tuple #[]) ∧ (∃ S, Srt S ∧ S.Perm d ∧ CL w' g o S) ∧ But [g] w w' := by
  have HD := Lib.hid hd
  have HDL := Lib.hid hdl
  have HS := Lib.hid hs
  clear hd hdl hs
  go_enter Tryd.func85, Tryd.ntmps85
  go_wp2
  go_loopw [7, 8] (fun av bv wr => ∃ (a b : Nat) (d1 : List (Nat × Nat)), av = .int .i64 a ∧ bv = .int .i64 b ∧ Hid (b = a + 20) ∧ a ≤ n ∧ Fst d d1 a ∧ CL wr g o d1 ∧ But [g] w wr) (fun av _ _ => n - (intOf av).toNat)
  case atStart => exact ⟨0, 20, d, rfl, rfl, Lib.hid rfl, Nat.zero_le _, ⟨rfl, .zero, fun _ _ _ => rfl⟩, HD.out, But.refl _ _⟩
  case round =>
    obtain ⟨a, b, d1, rfl, rfl, hb, han, hF, hC, hB⟩ := hrel
    by_cases hlt : b ≤ n
    · have hins := insertion_piece (cap := cap) (a := a) (b := b) hC (hF.1.trans HDL.out) hn (Nat.lt_of_lt_of_le hgl hB.size) (by have := hb.out; omega) hlt (hF.pair HS.out)
      have HI := Lib.hid hins
      have HF := Lib.hid hF
      have HB := Lib.hid hB
      clear hins hF hB hC
      go_wp2_with fail
      refine HI.out.mono ?_
      rintro e w2 ⟨rfl, hB2, d2, hp, hC2⟩
      have HP := Lib.hid hp
      have HC2 := Lib.hid hC2
      have HB2 := Lib.hid hB2
      clear hp hC2 hB2
      go_wp2
      go_roundw
      case rel => exact ⟨b, b + 20, d2, rfl, by go_num, Lib.hid rfl, hlt, by have := HP.out; have h := hb.out; rw [h] at this ⊢; exact HF.out.next this, HC2.out, HB.out.trans HB2.out⟩
      case measure => have := hb.out; simp [intOf]; omega
    · have hins := insertion_piece (cap := cap) (a := a) (b := n) hC (hF.1.trans HDL.out) hn (Nat.lt_of_lt_of_le hgl hB.size) han (Nat.le_refl _) (hF.pair HS.out)
      have HI := Lib.hid hins
      have HF := Lib.hid hF
      have HB := Lib.hid hB
      have HLT := Lib.hid hlt
      clear hins hF hB hC
      go_wp2_with fail
      refine HI.out.mono ?_
      rintro e w2 ⟨rfl, hB2, d2, hp, hC2⟩
      have hr := HF.out.last han (by have := hb.out; have := HLT.out; omega) hp
      have HR := Lib.hid hr
      have HC2 := Lib.hid hC2
      have HB2 := Lib.hid (HB.out.trans hB2)
      clear hp hC2 hB2 hr hlt
      obtain ⟨wo, rfl⟩ : ∃ wo : World, wo = w2 := ⟨_, rfl⟩
      go_wp2
      go_loopw [6, 7, 8, 9] (fun bv av b2v mv wr => ∃ (B : Nat) (d1 : List (Nat × Nat)), bv = .int .i64 B ∧ 20 ≤ B ∧ B ≤ 2000 ∧ d1.length = d.length ∧ Rest B d d1 n 0 ∧ CL wr g o d1 ∧ But [g] w wr) (fun bv _ _ _ _ => n - (intOf bv).toNat)
      case atStart => exact ⟨20, d2, rfl, by omega, by omega, HR.out.1, HR.out.2, HC2.out, HB2.out⟩
      case round =>
        obtain ⟨B, d3, rfl, hB20, hB2k, hl3, hr3, hC3, hB3⟩ := hrel
        by_cases hBn : B < n
        · have HL3 := Lib.hid hl3
          have HR3 := Lib.hid hr3
          have HC3 := Lib.hid hC3
          have HB3 := Lib.hid hB3
          clear hl3 hr3 hC3 hB3
          obtain ⟨wi, rfl⟩ : ∃ wi : World, wi = wr := ⟨_, rfl⟩
          go_wp2
          go_loopw [7, 8] (fun av bv wr => ∃ (a b : Nat) (d1 : List (Nat × Nat)), av = .int .i64 a ∧ bv = .int .i64 b ∧ Hid (b = a + 2 * B) ∧ a ≤ n ∧ Snd B d d1 n a ∧ CL wr g o d1 ∧ But [g] w wr) (fun av _ _ => n - (intOf av).toNat)
          case atStart => exact ⟨0, 2 * B, d3, rfl, by go_num, Lib.hid (by omega), Nat.zero_le _, ⟨HL3.out, .zero, HR3.out⟩, HC3.out, HB3.out⟩
          case round =>
            obtain ⟨a, b, d4, rfl, rfl, hb4, han4, hS4, hC4, hB4⟩ := hrel
            have hal : (a : Int) + (B : Int) = ((a + B : Nat) : Int) := by omega
            by_cases hbl : b ≤ n
            · obtain ⟨c1, c2, c3⟩ := hS4.crs HS.out (by omega) (by have := hb4.out; omega)
              have hsy := sym_piece (cap := cap) (a := a) (m := a + B) (b := a + 2 * B) hC4 (hS4.1.trans HDL.out) hn (Nat.lt_of_lt_of_le hgl hB4.size) (by omega) (by omega) (by have := hb4.out; omega) c1 c2 c3
              have e4 := hb4.out
              rw [← e4] at hsy
              obtain ⟨ab, hab⟩ : ∃ ab, ab = a + B := ⟨_, rfl⟩
              rw [← hab] at hsy hal
              have HSY := Lib.hid hsy
              have HS4 := Lib.hid hS4
              have HB4 := Lib.hid hB4
              clear hsy hS4 hB4 hC4 c1 c2 c3 e4 hab
              go_wp2_with fail
              refine HSY.out.mono ?_
              rintro e w5 ⟨rfl, hB5, d5, hp5, hC5⟩
              have HP := Lib.hid hp5
              have HC5 := Lib.hid hC5
              have HB5 := Lib.hid hB5
              clear hp5 hC5 hB5 hal
              go_wp2
              go_roundw
              case rel => exact ⟨b, b + 2 * B, d5, rfl, by go_num, Lib.hid rfl, hbl, by have := HP.out; have h := hb4.out; rw [h] at this ⊢; exact HS4.out.next (by omega) (by omega) this, HC5.out, HB4.out.trans HB5.out⟩
              case measure => have := hb4.out; simp [intOf]; omega
            · obtain ⟨ab, hab⟩ : ∃ ab, ab = a + B := ⟨_, rfl⟩
              rw [← hab] at hal
              by_cases hmn : ab < n
              · obtain ⟨c1, c2, c3⟩ := hS4.crs2 HS.out (by omega) (by have := hb4.out; omega)
                have hsy := sym_piece (cap := cap) (a := a) (m := a + B) (b := n) hC4 (hS4.1.trans HDL.out) hn (Nat.lt_of_lt_of_le hgl hB4.size) (by omega) (by omega) (Nat.le_refl _) c1 c2 c3
                rw [← hab] at hsy
                have HSY := Lib.hid hsy
                have HS4 := Lib.hid hS4
                have HB4 := Lib.hid hB4
                have HBL := Lib.hid hbl
                have HAB := Lib.hid hab
                clear hsy hS4 hB4 hC4 c1 c2 c3 hab
                go_wp2_with fail
                refine HSY.out.mono ?_
                rintro e w5 ⟨rfl, hB5, d5, hp5, hC5⟩
                have hh := HS4.out.half (by have := HAB.out; omega) (by have := hb4.out; have := HBL.out; omega) hp5
                have HH := Lib.hid hh
                have HC5 := Lib.hid hC5
                have HB5 := Lib.hid hB5
                clear hp5 hC5 hB5 hh
                go_wp2
                go_roundw
                case rel => exact ⟨2 * B, d5, by go_num, by omega, by omega, HH.out.1, HH.out.2, HC5.out, HB4.out.trans HB5.out⟩
                case measure => simp [intOf]; omega
              · have hh := hS4.none han4 (by omega)
                have HH := Lib.hid hh
                have HC5 := Lib.hid hC4
                have HB5 := Lib.hid hB4
                clear hh hC4 hB4 hS4 hab
                go_wp2
                go_roundw
                case rel => exact ⟨2 * B, d4, by go_num, by omega, by omega, HH.out.1, HH.out.2, HC5.out, HB5.out⟩
                case measure => simp [intOf]; omega
        · have hg := hr3.end' (n := n) (by omega)
          have hw := Good.whole hl3 (by have e := HDL.out; rw [e]; exact hg)
          have HW := Lib.hid hw
          have HC3 := Lib.hid hC3
          have HB3 := Lib.hid hB3
          clear hl3 hr3 hC3 hB3 hg hw
          go_wp2
          go_end0
          exact ⟨rfl, ⟨d3, HW.out.1, HW.out.2, HC3.out⟩, HB3.out⟩
theorem sorts_all : SortsUpTo 1000 := sorts_of fun hd hdl hn hgl hs => stable_any hd hdl hn hgl hs
end Go.Proofs.YtghegmbafbpnjaaDoor
namespace Go.Proofs.YtghegmbafbpnjaaDoor
set_option maxRecDepth 100000
open Go Go.RowKit
theorem limit_list {w : World} {A : Option Addr} {len cap M : Nat} {l : List Int} (hl : Ints w A len l) (hM1 : 1 ≤ M) (hM2 : M ≤ 15) (h288 : len ≤ 288) (hok : okCounts l = true) (hp : (csOf l len).length ≤ 2 ^ M) {m : Int} (hm : (M : Int) = m) :
    Calls Tryd.prog 47 #[.int .i64 m, .slice A len cap] w (GotList w len (lims M l)) := by
  subst hm
  refine (limit_late sorts_all hl hM1 hM2 h288 (by have := length_coins0 l len; omega)).mono ?_
  rintro e w' (⟨_, _, h⟩ | ⟨h, _⟩)
  · exact h
  · rcases h with h | h
    · rw [hok] at h; cases h
    · omega
end Go.Proofs.YtghegmbafbpnjaaDoor
namespace Go.Proofs.YtghegmbafbpnjaaDoor
set_option maxRecDepth 100000
open Go Go.RowKit
/-- A row of so many numbers 0. -/
def zeroRow (n : Nat) : Array Value := madeCells (Value.int .i64 0).cells (n * 1)
theorem run_zeros (n : Nat) (hn : n ≤ 1000) (w : World) : (Instr.makeSlice 58 (.int .i64 (n : Int)) (.int .i64 (n : Int))).run Tryd.prog w = .ok (.slice (some ⟨w.heap.size, 0, none⟩) n n) (w.alloc (.cells (zeroRow n) 3)) := by
  obtain ⟨i0, hi0, hz0, hz1, hz2⟩ := info_parts info_int
  have h := run_makeSlice (P := Tryd.prog) w 58 3 i0 (.int .i64 0) Tryd.underlying58 hi0 hz0 .i64 .i64 (n : Int) (n : Int) (by omega) (by omega) (by rw [hz1]; omega) (by rw [hz2]; omega) (by omega)
  rw [hz1] at h
  simpa [zeroRow] using h
theorem Things.take {w : World} {A : Option Addr} {n len sp : Nat} {L : List Th} (h : Things w A n len L) (hs : sp ≤ n) : Things w A sp len (L.take sp) := by
  refine ⟨by have := h.1; simp; omega, fun h0 => ?_, fun x hx => h.2.2 x (List.mem_of_mem_take hx)⟩
  obtain ⟨g, o, e, hg, hc⟩ := h.2.1 (by omega)
  exact ⟨g, o, e, hg, fun i hi => by
    have hi' : i < L.length := by simp at hi; omega
    rw [List.getElem_take]; exact hc i hi'⟩
theorem Things.drop {w : World} {g o n len sp : Nat} {L : List Th} (h : Things w (some ⟨g, o, none⟩) n len L) (hs : sp ≤ n) : Things w (some ⟨g, o + sp * 3, none⟩) (n - sp) len (L.drop sp) := by
  refine ⟨by have := h.1; simp; omega, fun h0 => ?_, fun x hx => h.2.2 x (List.mem_of_mem_drop hx)⟩
  obtain ⟨g', o', e, hg, hc⟩ := h.2.1 (by omega)
  injection e with e
  injection e with e1 e2
  subst e1 e2
  refine ⟨g, o + sp * 3, rfl, hg, fun i hi => ?_⟩
  have hi' : sp + i < L.length := by simp at hi; omega
  rw [List.getElem_drop]
  have := hc (sp + i) hi'
  rw [show o + sp * 3 + i * 3 = o + (sp + i) * 3 from by rw [Nat.add_mul]; omega]
  exact this
/-- The numbers of each of these lie in a block of their own. -/
def VecsT (w : World) (base len : Nat) (P : List Th) : Prop := ∀ y ∈ P, ∃ gt cs, y.a = some ⟨gt, 0, none⟩ ∧ base ≤ gt ∧ Is w gt 3 cs ∧ Ints w y.a len y.v
theorem VecsT.but {w w' : World} {base len : Nat} {P : List Th} (h : VecsT w base len P) {S : List Nat} (hw : But S w w') (hS : ∀ g cs, Is w g 3 cs → g ∉ S) : VecsT w' base len P := fun y hy => by
  obtain ⟨gt, cs, e, hb, hi, hv⟩ := h y hy
  refine ⟨gt, cs, e, hb, hi.but hw (hS gt cs hi), hv.but hw fun k hk a ea hab => ?_⟩
  rw [e] at ea
  injection ea with ea
  subst ea
  exact hS gt cs hi (by rw [show gt = k from hab]; exact hk)
end Go.Proofs.YtghegmbafbpnjaaDoor
set_option maxRecDepth 100000
set_option linter.unusedVariables false
namespace Go.Proofs.YtghegmbafbpnjaaDoor
set_option maxRecDepth 100000
open Go Go.RowKit
theorem zeroRow_eq (n : Nat) : zeroRow n = ((List.replicate n (0 : Int)).map (Value.int .i64)).toArray := by
  apply Array.ext_getElem?
  intro j
  unfold zeroRow madeCells
  have e : (Value.int .i64 0).cells = #[.int .i64 0] := rfl
  rw [e]
  by_cases hj : j < n
  · simp [hj, Nat.mod_one]
  · simp [hj]
theorem cntB_lit (ts : List Tk) (t : Tk) (h : t.1 = 0) : cntB (ts ++ [t]) = cntB ts := by unfold cntB; rw [tally_snoc, if_pos h]
theorem cntB_mat (ts : List Tk) (t : Tk) (h : t.1 ≠ 0) : cntB (ts ++ [t]) = inc (cntB ts) (dsym t.2.1) := by unfold cntB; rw [tally_snoc, if_neg h]
theorem cntA_few (ts : List Tk) (j : Nat) : 0 ≤ (cntA ts).getD j 0 ∧ (cntA ts).getD j 0 ≤ 1 + ts.length := by
  have h1 := tally_ge (fun t : Tk => some (symA t)) j ts ((List.replicate 286 (0 : Int)).set 256 1)
  have h2 := tally_le (fun t : Tk => some (symA t)) j ts ((List.replicate 286 (0 : Int)).set 256 1)
  have h3 := start_at j
  have h4 : ((List.replicate 286 (0 : Int)).set 256 1).getD j 0 ≤ 1 := by rw [set_getD, zeros_at]; split <;> omega
  unfold cntA
  omega
theorem cntB_few (ts : List Tk) (j : Nat) : 0 ≤ (cntB ts).getD j 0 ∧ (cntB ts).getD j 0 ≤ ts.length := by
  have h1 := tally_ge (fun t : Tk => if t.1 = 0 then none else some (dsym t.2.1)) j ts (List.replicate 30 (0 : Int))
  have h2 := tally_le (fun t : Tk => if t.1 = 0 then none else some (dsym t.2.1)) j ts (List.replicate 30 (0 : Int))
  have h3 := zeros_at 30 j
  unfold cntB
  omega
attribute [local irreducible] layTs layC layB fixL fixD toks textX cntA cntB zeroRow
theorem row_zeros (w : World) (n : Nat) : Row (w.alloc (.cells (zeroRow n) 3)) w.heap.size 3 (List.replicate n 0) := by
  unfold Row
  rw [← zeroRow_eq]
  exact Is.fresh w _ _
theorem Row.alloc {w : World} {B : Nat} {t : TypeId} {l : List Int} (h : Row w B t l) (o : Obj) : Row (w.alloc o) B t l := Is.alloc h o
theorem Row.far {w : World} {B : Nat} {t : TypeId} {l : List Int} (h : Row w B t l) {p : Addr} (hp : B ≠ p.block) (u : Value) : Row (w.setCell p u) B t l := Is.far h hp u
theorem Row.free {w : World} {B : Nat} {t : TypeId} {l : List Int} (h : Row w B t l) (i : Nat) : w.frozen? ⟨B, i, none⟩ = false := Is.free h i
/-- A row's number one more. -/
theorem Row.inc {w : World} {B : Nat} {t : TypeId} {l : List Int} (h : Row w B t l) {i : Nat} {v : Int} (hv : v = l.getD i 0) : Row (w.setCell ⟨B, i, none⟩ (.int .i64 (v + 1))) B t (Go.Proofs.YtghegmbafbpnjaaDoor.inc l i) := by
  subst hv; exact h.set i _
end Go.Proofs.YtghegmbafbpnjaaDoor
set_option maxRecDepth 100000
set_option linter.unusedVariables false
namespace Go.Proofs.YtghegmbafbpnjaaDoor
set_option maxRecDepth 100000
open Go Go.RowKit
theorem cntB_nil : cntB [] = List.replicate 30 (0 : Int) := by unfold cntB; rfl
theorem dynL_eq (l : List UInt8) : dynL l = layC (lenA (toks l)) (layTs (lenA (toks l)) (lenB (toks l)) (layRs (lenS (lenA (toks l) ++ lenB (toks l))) (layS3 (lenS (lenA (toks l) ++ lenB (toks l))) (layB (layB (layB (layB (layB (0, 0) 1 1) 2 2) ((lenA (toks l)).length - 257) 5) ((lenB (toks l)).length - 1) 5) ((told (lenS (lenA (toks l) ++ lenB (toks l)))).length - 4) 4) (ordS.take (told (lenS (lenA (toks l) ++ lenB (toks l)))).length)) (runs (lenA (toks l) ++ lenB (toks l)))) (toks l)) 256 := rfl
attribute [local irreducible] layTs layC layB fixL fixD toks textX cntA cntB zeroRow dynL inc lsym dsym
theorem symA_lit {t : Tk} (h : t.1 = 0) : symA t = t.2.2 := by unfold symA; rw [if_pos h]
theorem symA_mat {t : Tk} (h : t.1 ≠ 0) : symA t = lsym t.1 := by unfold symA; rw [if_neg h]
theorem wrap1 {a : Int} (h0 : 0 ≤ a) (h1 : a ≤ 99990) : IntKind.i64.wrap (a + 1) = a + 1 := wrapi (by omega) (by omega) 
theorem okC {l : List Int} (h : ∀ j, 0 ≤ l.getD j 0 ∧ l.getD j 0 ≤ 1000000) : okCounts l = true := by
  unfold okCounts
  rw [List.all_eq_true]
  intro x hx
  obtain ⟨i, hi, rfl⟩ := List.getElem_of_mem hx
  have h1 := h i
  rw [List.getD_eq_getElem?_getD, List.getElem?_eq_getElem hi] at h1
  unfold okCount
  simp only [decide_eq_true_eq]
  have h2 : 0 ≤ l[i] ∧ l[i] ≤ 1000000 := h1
  omega
theorem take_self (l : List Int) (n : Nat) : l.take (l.take n).length = l.take n := by
  rw [List.take_eq_take_iff, List.length_take]; omega
theorem lenA_take (ts : List Tk) : (lims 15 (cntA ts)).take (lenA ts).length = lenA ts := take_self _ _
theorem lenB_take (ts : List Tk) : (lims 15 (cntB ts)).take (lenB ts).length = lenB ts := take_self _ _
theorem lenA_286 (ts : List Tk) : (lenA ts).length ≤ 286 := by
  unfold lenA; rw [upto0_len]
  have := uptoN_le (lims 15 (cntA ts)) 257 (lims 15 (cntA ts)).length
  rw [length_lims, length_cntA] at *; exact this
theorem lenB_30 (ts : List Tk) : (lenB ts).length ≤ 30 := by
  unfold lenB; rw [upto0_len]
  have := uptoN_le (lims 15 (cntB ts)) 1 (lims 15 (cntB ts)).length
  rw [length_lims, length_cntB] at *; exact this
/-- How often each code stands in runs. -/
def cntR (rs : List (Int × Nat)) : List Int := tally (fun c : Int × Nat => some c.1.toNat) (List.replicate 19 0) rs
theorem cntS_R (ls : List Int) : cntS ls = cntR (runs ls) := rfl
theorem cntR_nil : cntR [] = List.replicate 19 (0 : Int) := rfl
theorem length_cntR (rs : List (Int × Nat)) : (cntR rs).length = 19 := by unfold cntR; rw [length_tally]; simp
theorem cntR_snoc (rs : List (Int × Nat)) (c : Int × Nat) : cntR (rs ++ [c]) = Go.Proofs.YtghegmbafbpnjaaDoor.inc (cntR rs) c.1.toNat := by unfold cntR; rw [tally_snoc]
theorem cntR_few (rs : List (Int × Nat)) (j : Nat) : 0 ≤ (cntR rs).getD j 0 ∧ (cntR rs).getD j 0 ≤ rs.length := by
  have h1 := tally_ge (fun c : Int × Nat => some c.1.toNat) j rs (List.replicate 19 (0 : Int))
  have h2 := tally_le (fun c : Int × Nat => some c.1.toNat) j rs (List.replicate 19 (0 : Int))
  have h3 := zeros_at 19 j
  unfold cntR
  omega
theorem runsG_few (l : List Int) : ∀ f i, (runsG l f i).length ≤ f
  | 0, _ => Nat.le_refl _
  | f + 1, i => by
    rw [runsG]
    split
    · have := runsG_few l f (i + (runAt l i).2.2)
      rw [List.length_cons]; omega
    · exact Nat.zero_le _
theorem runs_few (l : List Int) : (runs l).length ≤ l.length := runsG_few l _ _
theorem runs_codes {l : List Int} (h15 : ∀ i, 0 ≤ l.getD i 0 ∧ l.getD i 0 ≤ 15) : ∀ c ∈ runs l, 0 ≤ c.1 ∧ c.1 ≤ 18 := runsG_codes h15 _ _
attribute [local irreducible] cntR runs
theorem tellS_snoc (S : List Int) {k : Nat} (hk : k < 19) : (ordS.take (k + 1)).map (fun j => S.getD j 0) = (ordS.take k).map (fun j => S.getD j 0) ++ [S.getD (ordS.getD k 0) 0] := by
  have hl : k < ordS.length := hk
  rw [List.take_succ_eq_append_getElem hl, List.map_append, List.getD_eq_getElem?_getD (l := ordS), List.getElem?_eq_getElem hl]; rfl
theorem tellS_len (S : List Int) {k : Nat} (hk : k ≤ 19) : ((ordS.take k).map (fun j => S.getD j 0)).length = k := by
  have hl : ordS.length = 19 := rfl
  rw [List.length_map, List.length_take]; omega
theorem layS3_snoc (S : List Int) (q : Nat × Nat) {j : Nat} (hj : j < 19) : layS3 S q (ordS.take (j + 1)) = layB (layS3 S q (ordS.take j)) (S.getD (ordS.getD j 0) 0).toNat 3 := by
  have hl : j < ordS.length := hj
  rw [List.take_succ_eq_append_getElem hl, List.getD_eq_getElem?_getD (l := ordS), List.getElem?_eq_getElem hl]
  unfold layS3
  rw [List.foldl_append]; rfl
theorem layS3_nil (S : List Int) (q : Nat × Nat) : layS3 S q (ordS.take 0) = q := rfl
theorem layRs_snoc (S : List Int) (q : Nat × Nat) (rs : List (Int × Nat)) (c : Int × Nat) : layRs S q (rs ++ [c]) = layR S (layRs S q rs) c := by
  unfold layRs; rw [List.foldl_append]; rfl
theorem layR_plain {S : List Int} {q : Nat × Nat} {y m : Nat} (h : y < 16) : layR S q ((y : Int), m) = layC S q y := by
  unfold layR; rw [if_neg (by dsimp only; omega), if_neg (by dsimp only; omega), if_neg (by dsimp only; omega)]; rfl
theorem layR_c16 {S : List Int} {q : Nat × Nat} {y m : Nat} (h : y = 16) : layR S q ((y : Int), m) = layB (layC S q y) m 2 := by subst h; rfl
theorem layR_c17 {S : List Int} {q : Nat × Nat} {y m : Nat} (h : y = 17) : layR S q ((y : Int), m) = layB (layC S q y) m 3 := by subst h; rfl
theorem layR_c18 {S : List Int} {q : Nat × Nat} {y m : Nat} (h : y = 18) : layR S q ((y : Int), m) = layB (layC S q y) m 7 := by subst h; rfl
theorem csA {l : List Int} {n m : Nat} (hl : l.length = n) (h : n ≤ m) : (csOf l n).length ≤ m := by
  have := csOf_few l
  rw [hl] at this
  omega
end Go.Proofs.YtghegmbafbpnjaaDoor
set_option maxRecDepth 100000
set_option linter.unusedVariables false
namespace Go.Proofs.YtghegmbafbpnjaaDoor
set_option maxRecDepth 100000
open Go Go.RowKit
theorem inc_comm (l : List Int) (i j : Nat) : Go.Proofs.YtghegmbafbpnjaaDoor.inc (Go.Proofs.YtghegmbafbpnjaaDoor.inc l i) j = Go.Proofs.YtghegmbafbpnjaaDoor.inc (Go.Proofs.YtghegmbafbpnjaaDoor.inc l j) i := by
  by_cases h : i = j
  · subst h; rfl
  · unfold Go.Proofs.YtghegmbafbpnjaaDoor.inc
    rw [set_getD, set_getD, if_neg (fun e => h e.1), if_neg (fun e => h e.1.symm), List.set_comm _ _ h]
theorem tally_inc {β : Type} (f : β → Option Nat) (i : Nat) : ∀ (ts : List β) (a : List Int), tally f (Go.Proofs.YtghegmbafbpnjaaDoor.inc a i) ts = Go.Proofs.YtghegmbafbpnjaaDoor.inc (tally f a ts) i
  | [], _ => rfl
  | t :: ts, a => by
    rw [tally_cons, tally_cons]
    cases f t with
    | none => exact tally_inc f i ts a
    | some j => dsimp only; rw [inc_comm a i j]; exact tally_inc f i ts _
/-- The occurrences of literal and length symbols, ahead of the end. -/
def cntZ (ts : List Tk) : List Int := tally (fun t => some (symA t)) (List.replicate 286 0) ts
theorem cntZ_end (ts : List Tk) : Go.Proofs.YtghegmbafbpnjaaDoor.inc (cntZ ts) 256 = cntA ts := by
  unfold cntZ cntA
  rw [← tally_inc]
  rfl
attribute [local irreducible] layTs layC layB fixL fixD toks textX cntA cntB zeroRow dynL inc lsym dsym lims
set_option maxHeartbeats 1000000 in
theorem lengths_pany {w : World} {A : Option Addr} {len cap M : Nat} {l : List Int} (hl : Ints w A len l) (hM1 : 1 ≤ M) (hM2 : M ≤ 15) (h288 : len ≤ 288) (hok : okCounts l = true) (hp : (csOf l len).length ≤ 2 ^ M) {m : Int} (hm : (M : Int) = m) :
    Calls Tryd.prog 32 #[.int .i64 m, .slice A len cap] w fun e w' => ∃ g, e = .returned (.slice (some ⟨g, 0, none⟩) len len) ∧ OwnI w' w.heap.size (.slice (some ⟨g, 0, none⟩) len len) (lims M l) ∧ But [] w w' := by
  have hc := limit_list (cap := cap) hl hM1 hM2 h288 hok hp hm
  have HC := Lib.hid hc
  clear hc hl hok hp hm
  go_enter Tryd.func32, Tryd.ntmps32
  go_wp2_with fail
  refine HC.out.mono ?_
  rintro e w1 ⟨g, rfl, hO, hB⟩
  have HO := Lib.hid hO
  have HB := Lib.hid hB
  clear hO hB
  go_wp2
  go_ret
  exact ⟨g, rfl, HO.out, HB.out⟩
section
variable {w : World}
set_option maxHeartbeats 1000000 in
theorem trimmed_pany {A : Option Addr} {n c least : Nat} {l : List Int} (hl : Ints w A n l) (hn : n ≤ 1000) (hc : n ≤ c) (hle : least ≤ n) (h1 : 1 ≤ least) :
    Calls Tryd.prog 31 #[.slice A n c, .int .i64 least] w fun e w' => e = .returned (.slice A (uptoN l least n) c) ∧ w = w' := by
  have HI := Lib.hid hl
  have HLN := Lib.hid hl.1
  obtain ⟨g, o, rfl, hgl, hcx⟩ := hl.at (show 0 < n by omega)
  clear hcx hl
  go_enter Tryd.func31, Tryd.ntmps31
  go_wp2
  go_loopw [0] (fun kv wr => ∃ k : Nat, k ≤ n ∧ least ≤ k ∧ kv = .slice (some ⟨g, o, none⟩) k c ∧ Hid (uptoN l least k = uptoN l least n) ∧ w = wr) (fun kv _ => match kv with | .slice _ k _ => k | _ => 0)
  case atStart => exact ⟨n, Nat.le_refl _, hle, rfl, Lib.hid rfl, rfl⟩
  case round =>
    obtain ⟨k, hk, hlk, rfl, HU, rfl⟩ := hrel
    obtain ⟨j, rfl⟩ : ∃ j, k = j + 1 := ⟨k - 1, by omega⟩
    obtain ⟨K, hK⟩ : ∃ K, K = j + 1 := ⟨_, rfl⟩
    have HK := Lib.hid hK
    have ee : (K : Int) - 1 = (j : Int) := by omega
    have hKj : j < K := by omega
    by_cases hgt : least < j + 1
    · obtain ⟨g2, o2, e2, _, hcell⟩ := HI.out.at (i := j) (by omega)
      injection e2 with e2
      injection e2 with e3 e4
      subst e3 e4
      have ej : l[j]'(by have := HLN.out; omega) = l.getD j 0 := by rw [List.getD_eq_getElem?_getD, List.getElem?_eq_getElem (by have := HLN.out; omega)]; rfl
      rw [ej] at hcell
      obtain ⟨x, hx⟩ : ∃ x, x = l.getD j 0 := ⟨_, rfl⟩
      rw [← hx] at hcell
      have HX := Lib.hid hx
      have d1 : decide ((least : Int) < (K : Int)) = true := by simp; omega
      have d1' : decide (least < K) = true := by simp; omega
      have b0 : (0 : Int) ≤ (j : Int) := by omega
      have b1 : (j : Int) < (K : Int) := by omega
      have b2 : (j : Int) ≤ (c : Int) := by omega
      have hKn : K ≤ n := by omega
      rw [← hK]
      clear ej hx hK
      by_cases hz : x = 0
      · have dz : (x == 0) = true := by simp [hz]
        have HN := Lib.hid (show uptoN l least j = uptoN l least n by rw [← HU.out, uptoN, if_pos ⟨hgt, by rw [← HX.out]; exact hz⟩])
        clear hz
        go_wp2
        go_roundw
        case rel => exact ⟨j, by omega, by omega, rfl, HN, by trivial⟩
        case measure => show j < K; omega
      · have dz : (x == 0) = false := by simpa using hz
        have HN := Lib.hid (show uptoN l least n = K by rw [← HU.out, uptoN, if_neg (fun h => hz (by rw [HX.out]; exact h.2)), HK.out])
        clear hz
        go_wp2
        go_ret
        exact ⟨by rw [HN.out]; rfl, rfl⟩
    · have d1 : decide ((least : Int) < (K : Int)) = false := by simp; omega
      have d1' : decide (least < K) = false := by simp; omega
      have HN := Lib.hid (show uptoN l least n = K by rw [← HU.out, uptoN, if_neg (fun h => hgt h.1), HK.out])
      rw [← hK]
      clear hK
      go_wp2
      go_ret
      exact ⟨by rw [HN.out]; rfl, rfl⟩
end
theorem length_cntZ (ts : List Tk) : (cntZ ts).length = 286 := by unfold cntZ; rw [length_tally]; simp
theorem cntZ_snoc (ts : List Tk) (t : Tk) : cntZ (ts ++ [t]) = Go.Proofs.YtghegmbafbpnjaaDoor.inc (cntZ ts) (symA t) := by unfold cntZ; rw [tally_snoc]
theorem cntZ_few (ts : List Tk) (j : Nat) : 0 ≤ (cntZ ts).getD j 0 ∧ (cntZ ts).getD j 0 ≤ ts.length := by
  have h1 := tally_ge (fun t : Tk => some (symA t)) j ts (List.replicate 286 (0 : Int))
  have h2 := tally_le (fun t : Tk => some (symA t)) j ts (List.replicate 286 (0 : Int))
  have h3 := zeros_at 286 j
  unfold cntZ
  omega
theorem cntZ_nil : cntZ [] = List.replicate 286 (0 : Int) := rfl
attribute [local irreducible] cntZ
theorem run_cod (a b c : Value) (W : World) : (Instr.field 84 (.agg #[a, b, c]) 0).run Tryd.prog W = .ok a W := by kernel_rfl
/-- What count tells. -/
def GotCnt (w : World) (ts : List Tk) (e : Ending) (w' : World) : Prop := e = .returned (.tuple #[.slice (some ⟨w.heap.size, 0, none⟩) 286 286, .slice (some ⟨w.heap.size + 1, 0, none⟩) 30 30]) ∧ Row w' w.heap.size 3 (cntA ts) ∧ Row w' (w.heap.size + 1) 3 (cntB ts) ∧ But [] w w'
set_option maxHeartbeats 2000000 in
theorem count_pany (w : World) {A : Option Addr} {n c : Nat} {ts : List Tk} (hK : Tks w A n (ts.map tkI)) (hn : n ≤ 10000) (hsh : ∀ t ∈ ts, (t.1 = 0 ∧ t.2.2 ≤ 255) ∨ (t.1 ≠ 0 ∧ 3 ≤ t.1 ∧ t.1 ≤ 258 ∧ 1 ≤ t.2.1 ∧ t.2.1 ≤ 512)) :
    Calls Tryd.prog 30 #[.slice A n c] w (GotCnt w ts) := by
  have hlen : ts.length = n := by have := hK.1; rwa [List.length_map] at this
  have HLN := Lib.hid hlen
  have HK := Lib.hid hK
  have HSH := Lib.hid hsh
  have hfd := run_cod
  have hmkA : ∀ W : World, (Instr.makeSlice 58 (.int .i64 286) (.int .i64 286)).run Tryd.prog W = .ok (.slice (some ⟨W.heap.size, 0, none⟩) 286 286) (W.alloc (.cells (zeroRow 286) 3)) := fun W => run_zeros 286 (by omega) W
  have hmkB : ∀ W : World, (Instr.makeSlice 58 (.int .i64 30) (.int .i64 30)).run Tryd.prog W = .ok (.slice (some ⟨W.heap.size, 0, none⟩) 30 30) (W.alloc (.cells (zeroRow 30) 3)) := fun W => run_zeros 30 (by omega) W
  have hr0 := (row_zeros w 286).alloc (.cells (zeroRow 30) 3)
  have hr1 := row_zeros (w.alloc (.cells (zeroRow 286) 3)) 30
  have hsA : (w.alloc (.cells (zeroRow 286) 3)).heap.size = w.heap.size + 1 := by simp
  rw [hsA] at hr1
  rw [← cntZ_nil] at hr0
  rw [← cntB_nil] at hr1
  have hBW := ((But.refl [] w).alloc (.cells (zeroRow 286) 3)).alloc (.cells (zeroRow 30) 3)
  have HR0 := Lib.hid hr0
  have HR1 := Lib.hid hr1
  have HBW := Lib.hid hBW
  have hsw : w.heap.size + 1 < ((w.alloc (.cells (zeroRow 286) 3)).alloc (.cells (zeroRow 30) 3)).heap.size := by simp
  have HSW := Lib.hid hsw
  clear hlen hK hsh hr0 hr1 hsA hBW hsw
  go_enter Tryd.func30, Tryd.ntmps30
  go_wp2
  go_loopw [10] (fun iv wr => ∃ k : Nat, k ≤ n ∧ iv = .int .i64 k ∧ Hid (Row wr w.heap.size 3 (cntZ (ts.take k))) ∧ Hid (Row wr (w.heap.size + 1) 3 (cntB (ts.take k))) ∧ Hid (But [] w wr) ∧ w.heap.size + 1 < wr.heap.size) (fun iv _ => n - (intOf iv).toNat)
  case atStart => exact ⟨0, Nat.zero_le _, rfl, HR0, HR1, HBW, HSW.out⟩
  case round =>
    obtain ⟨k, hk, rfl, HA, HB, HBW2, hsw⟩ := hrel
    clear HR0 HR1 HBW hmkA hmkB
    by_cases hlt : k < n
    · have hkt : k < ts.length := by have := HLN.out; omega
      have hmem := HSH.out _ (List.getElem_mem hkt)
      have hts : ts.take (k + 1) = ts.take k ++ [ts[k]] := List.take_succ_eq_append_getElem hkt
      obtain ⟨g, o, bb, xx, zz, rfl, hg, c0, c1, c2, h1⟩ := (HK.out.but HBW2.out).at hlt
      rw [List.getElem?_map, List.getElem?_eq_getElem hkt] at h1
      injection h1 with h1
      unfold tkI at h1
      injection h1 with h2 h3
      injection h3 with h3 h4
      subst h2 h3 h4
      obtain ⟨t, ht⟩ : ∃ t, t = ts[k] := ⟨_, rfl⟩
      rw [← ht] at hmem hts c0 c1 c2
      obtain ⟨x, z, y⟩ := t
      have hna := cntZ_snoc (ts.take k) (x, z, y)
      rw [← hts] at hna
      have hlk : (ts.take k).length ≤ 10000 := by rw [List.length_take]; omega
      have HTS := Lib.hid hts
      have HNA := Lib.hid hna
      have HLA : Hid ((cntZ (ts.take k)).length = 286) := Lib.hid (length_cntZ _)
      have HLB : Hid ((cntB (ts.take k)).length = 30) := Lib.hid (length_cntB _)
      dsimp only at hmem c0 c1 c2
      have k0 : (0 : Int) ≤ (k : Int) := by omega
      have k1 : (k : Int) < (n : Int) := by omega
      obtain ⟨wb, hwb⟩ : ∃ wb, wb = wr.alloc (.cells #[.int .i64 y, .int .i64 x, .int .i64 z] 51) := ⟨_, rfl⟩
      have hIb : Is wb wr.heap.size 51 #[.int .i64 y, .int .i64 x, .int .i64 z] := by rw [hwb]; exact Is.fresh wr _ _
      have hBb : But [] wr wb := by rw [hwb]; exact (But.refl [] wr).alloc _
      have HIB := Lib.hid hIb
      have HBB := Lib.hid hBb
      have HWB := Lib.hid hwb
      clear ht hts hna hwb hIb hBb hg
      by_cases hx : x = 0
      · subst hx
        have hy : y ≤ 255 := by rcases hmem with h | h <;> omega
        have HWB : Hid (wb = wr.alloc (.cells #[.int .i64 y, .int .i64 0, .int .i64 z] 51)) := Lib.hid HWB.out
        have HIB : Hid (Is wb wr.heap.size 51 #[.int .i64 y, .int .i64 0, .int .i64 z]) := Lib.hid HIB.out
        have HSY : Hid (Calls Tryd.prog 44 #[.agg #[.int .i64 (y : Int), .int .i64 0, .int .i64 (z : Int)]] wb fun e w' => e = .returned (codVal y 0 0) ∧ But [] wb w') := Lib.hid (symbolOf_lit wb y z)
        go_wp2_with fail
        rw [← HWB.out]
        refine HSY.out.mono ?_
        rintro e wy ⟨rfl, hBy⟩
        have hBy2 := HBB.out.trans hBy
        have hAy := HA.out.but hBy2 (by simp)
        have hBBy := HB.out.but hBy2 (by simp)
        have hIy := HIB.out.but hBy (by simp)
        obtain ⟨vv, hvv⟩ : ∃ vv, vv = (cntZ (ts.take k)).getD y 0 := ⟨_, rfl⟩
        have hfew := cntZ_few (ts.take k) y
        have d0 := hAy.at (i := y) (by rw [HLA.out]; omega)
        have d1 := hAy.free y
        rw [← hvv] at d0 hfew
        have wv := wrap1 (a := vv) (by omega) (by omega)
        have b0 : (0 : Int) ≤ (y : Int) := by omega
        have b1 : (y : Int) < 286 := by omega
        have hnx := hAy.inc hvv
        rw [show Go.Proofs.YtghegmbafbpnjaaDoor.inc (cntZ (ts.take k)) y = cntZ (ts.take (k + 1)) by rw [HNA.out, symA_lit rfl]] at hnx
        have hnb := hBBy.far (p := ⟨w.heap.size, y, none⟩) (by simp) (.int .i64 (vv + 1))
        rw [show cntB (ts.take k) = cntB (ts.take (k + 1)) by rw [HTS.out, cntB_lit _ _ rfl]] at hnb
        have hbw := (HBW2.out.trans hBy2).setCell (p := ⟨w.heap.size, y, none⟩) (.inr (Nat.le_refl _)) (.int .i64 (vv + 1))
        have e1 := (hIy.far (p := ⟨w.heap.size, y, none⟩) (by simp; omega) (.int .i64 (vv + 1))).cell 1
        have hsz := hBy2.size
        have hsw2 : w.heap.size + 1 < (wy.setCell ⟨w.heap.size, y, none⟩ (.int .i64 (vv + 1))).heap.size := by simp; omega
        have HNX := Lib.hid hnx
        have HNB := Lib.hid hnb
        have HBW3 := Lib.hid hbw
        have HSW3 := Lib.hid hsw2
        clear hvv hnx hnb hbw hmem hBy hBy2 hAy hBBy hIy hsw2 c0 c1 c2
        unfold codVal
        go_wp2
        go_roundw
        case rel => exact ⟨k + 1, by omega, by go_num, HNX, HNB, HBW3, HSW3.out⟩
        case measure => simp [intOf]; omega
      · obtain ⟨x3, x258, z1, z512⟩ : 3 ≤ x ∧ x ≤ 258 ∧ 1 ≤ z ∧ z ≤ 512 := by rcases hmem with h | h <;> omega
        obtain ⟨a1, a2, _, _⟩ := lsym_all x (by omega) x3
        obtain ⟨b1, _, _⟩ := dsym_all z (by omega) z1
        have HSY : Hid (Calls Tryd.prog 44 #[.agg #[.int .i64 (y : Int), .int .i64 (x : Int), .int .i64 (z : Int)]] wb fun e w' => e = .returned (codVal (lsym x) (x - lenBase (lsym x)) (lenBits (lsym x))) ∧ But [] wb w') := Lib.hid (symbolOf_mat wb x z y x3 x258)
        have HDY : Hid (∀ W : World, Calls Tryd.prog 45 #[.agg #[.int .i64 (y : Int), .int .i64 (x : Int), .int .i64 (z : Int)]] W fun e w' => e = .returned (codVal (dsym z) (z - dstBase (dsym z)) (dstBits (dsym z))) ∧ But [] W w') := Lib.hid (fun W => distanceOf_any W x z y z1 z512)
        rw [symA_mat hx] at HNA
        have hnb0 := cntB_mat (ts.take k) (x, z, y) hx
        rw [← HTS.out] at hnb0
        dsimp only at HNA hnb0
        have x0 : decide ((0 : Int) < (x : Int)) = true := by simp; omega
        have x0' : decide (0 < x) = true := by simp; omega
        obtain ⟨sx, hsx⟩ : ∃ q, q = lsym x := ⟨_, rfl⟩
        obtain ⟨dz, hdz⟩ : ∃ q, q = dsym z := ⟨_, rfl⟩
        rw [← hsx] at HSY HNA a1 a2
        simp only [← hdz] at HDY hnb0 b1
        obtain ⟨v1, hv1⟩ : ∃ q, q = x - lenBase sx := ⟨_, rfl⟩
        obtain ⟨m1, hm1⟩ : ∃ q, q = lenBits sx := ⟨_, rfl⟩
        obtain ⟨v2, hv2⟩ : ∃ q, q = z - dstBase dz := ⟨_, rfl⟩
        obtain ⟨m2, hm2⟩ : ∃ q, q = dstBits dz := ⟨_, rfl⟩
        rw [← hv1, ← hm1] at HSY
        simp only [← hv2, ← hm2] at HDY
        have HNB0 := Lib.hid hnb0
        have r0 : (0 : Int) ≤ (sx : Int) := by omega
        have r1 : (sx : Int) < 286 := by omega
        have r2 : (0 : Int) ≤ (dz : Int) := by omega
        have r3 : (dz : Int) < 30 := by omega
        clear hmem hx hsx hdz hv1 hm1 hv2 hm2 hnb0
        go_wp2_with fail
        rw [← HWB.out]
        refine HSY.out.mono ?_
        rintro e wy ⟨rfl, hBy⟩
        have hBy2 := HBB.out.trans hBy
        have hAy := HA.out.but hBy2 (by simp)
        have hBBy := HB.out.but hBy2 (by simp)
        have hIy := HIB.out.but hBy (by simp)
        obtain ⟨vv, hvv⟩ : ∃ vv, vv = (cntZ (ts.take k)).getD sx 0 := ⟨_, rfl⟩
        have hfew := cntZ_few (ts.take k) sx
        have d0 := hAy.at (i := sx) (by rw [HLA.out]; omega)
        have d1 := hAy.free sx
        rw [← hvv] at d0 hfew
        have wv := wrap1 (a := vv) (by omega) (by omega)
        have hnx := hAy.inc hvv
        rw [← HNA.out] at hnx
        have hnb := hBBy.far (p := ⟨w.heap.size, sx, none⟩) (by simp) (.int .i64 (vv + 1))
        have hbw := (HBW2.out.trans hBy2).setCell (p := ⟨w.heap.size, sx, none⟩) (.inr (Nat.le_refl _)) (.int .i64 (vv + 1))
        have hI2 := hIy.far (p := ⟨w.heap.size, sx, none⟩) (by simp; omega) (.int .i64 (vv + 1))
        have e0 := hI2.cell 0
        have e1 := hI2.cell 1
        have e2 := hI2.cell 2
        have hsz := hBy2.size
        have hsw2 : wr.heap.size ≤ (wy.setCell ⟨w.heap.size, sx, none⟩ (.int .i64 (vv + 1))).heap.size := by simp; omega
        have HNX := Lib.hid hnx
        have HNB := Lib.hid hnb
        have HBW3 := Lib.hid hbw
        have HSW3 := Lib.hid hsw2
        clear hvv hnx hnb hbw hBy hBy2 hAy hBBy hIy hI2 hsw2 c0 c1 c2 HSY
        unfold codVal
        go_wp2_with fail
        refine (HDY.out _).mono ?_
        rintro e wz ⟨rfl, hBz⟩
        have hAz := HNX.out.but hBz (by simp)
        have hBz3 := HNB.out.but hBz (by simp)
        obtain ⟨uu, huu⟩ : ∃ uu, uu = (cntB (ts.take k)).getD dz 0 := ⟨_, rfl⟩
        have hfew2 := cntB_few (ts.take k) dz
        have g0 := hBz3.at (i := dz) (by rw [HLB.out]; omega)
        have g1 := hBz3.free dz
        rw [← huu] at g0 hfew2
        have wu := wrap1 (a := uu) (by omega) (by omega)
        have hnb2 := hBz3.inc huu
        rw [← HNB0.out] at hnb2
        have hnx2 := hAz.far (p := ⟨w.heap.size + 1, dz, none⟩) (by simp) (.int .i64 (uu + 1))
        have hbw2 := (HBW3.out.trans hBz).setCell (p := ⟨w.heap.size + 1, dz, none⟩) (.inr (Nat.le_succ _)) (.int .i64 (uu + 1))
        have hsz4 := hBz.size
        have hsw4 : w.heap.size + 1 < (wz.setCell ⟨w.heap.size + 1, dz, none⟩ (.int .i64 (uu + 1))).heap.size := by have h3 := HSW3.out; have e : (wz.setCell ⟨w.heap.size + 1, dz, none⟩ (.int .i64 (uu + 1))).heap.size = wz.heap.size := (by simp); omega
        have HNX2 := Lib.hid hnx2
        have HNB2 := Lib.hid hnb2
        have HBW4 := Lib.hid hbw2
        have HSW4 := Lib.hid hsw4
        clear huu hnb2 hnx2 hbw2 hBz hAz hBz3 hsz4 hsw4 HDY d0 d1 e0 e1 e2
        unfold codVal
        go_wp2
        go_roundw
        case rel => exact ⟨k + 1, by omega, by go_num, HNX2, HNB2, HBW4, HSW4.out⟩
        case measure => simp [intOf]; omega
    · obtain rfl : k = n := by omega
      have hall : ts.take k = ts := List.take_of_length_le (by have := HLN.out; omega)
      rw [hall] at HA HB
      obtain ⟨vv, hvv⟩ : ∃ vv, vv = (cntZ ts).getD 256 0 := ⟨_, rfl⟩
      have hfew := cntZ_few ts 256
      have d0 := HA.out.at (i := 256) (by rw [length_cntZ]; omega)
      have d1 := HA.out.free 256
      have hln := HLN.out
      rw [← hvv] at d0 hfew
      have wv := wrap1 (a := vv) (by omega) (by omega)
      have hnx := HA.out.inc hvv
      rw [cntZ_end] at hnx
      have hnb := HB.out.far (p := ⟨w.heap.size, 256, none⟩) (by simp) (.int .i64 (vv + 1))
      have hbw := HBW2.out.setCell (p := ⟨w.heap.size, 256, none⟩) (.inr (Nat.le_refl _)) (.int .i64 (vv + 1))
      have HNX := Lib.hid hnx
      have HNB := Lib.hid hnb
      have HBW3 := Lib.hid hbw
      clear hvv hnx hnb hbw hall hln
      go_wp2
      go_ret2
      exact ⟨rfl, HNX.out, HNB.out, HBW3.out⟩
end Go.Proofs.YtghegmbafbpnjaaDoor
set_option maxRecDepth 100000
set_option linter.unusedVariables false
namespace Go.Proofs.YtghegmbafbpnjaaDoor
set_option maxRecDepth 100000
open Go Go.RowKit
attribute [local irreducible] layTs layC layB fixL fixD toks textX cntA cntB zeroRow dynL inc lsym dsym lims cntR runs
/-- How many bits stand behind a small code. -/
def extN (y : Nat) : Nat := if y = 16 then 2 else if y = 17 then 3 else if y = 18 then 7 else 0
set_option maxHeartbeats 1000000 in
theorem extraOf_pany (w : World) (y : Nat) : Calls Tryd.prog 51 #[.int .i64 y] w fun e w' => e = .returned (.int .i64 (extN y : Nat)) ∧ w = w' := by
  unfold extN
  by_cases h1 : y = 16
  · subst h1
    go_enter Tryd.func51, Tryd.ntmps51
    go_wp2
    go_ret
    exact ⟨rfl, rfl⟩
  · rw [if_neg h1]
    have d1 : ((y : Int) == 16) = false := by simp; omega
    by_cases h2 : y = 17
    · subst h2
      go_enter Tryd.func51, Tryd.ntmps51
      go_wp2
      go_ret
      exact ⟨rfl, rfl⟩
    · rw [if_neg h2]
      have d2 : ((y : Int) == 17) = false := by simp; omega
      by_cases h3 : y = 18
      · subst h3
        go_enter Tryd.func51, Tryd.ntmps51
        go_wp2
        go_ret
        exact ⟨rfl, rfl⟩
      · rw [if_neg h3]
        have d3 : ((y : Int) == 18) = false := by simp; omega
        clear h1 h2 h3
        go_enter Tryd.func51, Tryd.ntmps51
        go_wp2
        go_ret
        exact ⟨rfl, rfl⟩
set_option maxHeartbeats 1000000 in
theorem smallLengths_pany (w : World) {A : Option Addr} {n c : Nat} {R : List (Int × Nat)} (hQ : Qs w A n R) (hn : n ≤ 400) (hcd : ∀ c ∈ R, 0 ≤ c.1 ∧ c.1 ≤ 18) :
    Calls Tryd.prog 49 #[.slice A n c] w fun e w' => ∃ g, e = .returned (.slice (some ⟨g, 0, none⟩) 19 19) ∧ OwnI w' w.heap.size (.slice (some ⟨g, 0, none⟩) 19 19) (lims 7 (cntR R)) ∧ But [] w w' := by
  have HNR := Lib.hid hQ.1
  have HQS := Lib.hid hQ
  have HCD := Lib.hid hcd
  have hmkS : ∀ W : World, (Instr.makeSlice 58 (.int .i64 19) (.int .i64 19)).run Tryd.prog W = .ok (.slice (some ⟨W.heap.size, 0, none⟩) 19 19) (W.alloc (.cells (zeroRow 19) 3)) := fun W => run_zeros 19 (by omega) W
  have hr0 := row_zeros w 19
  rw [← cntR_nil] at hr0
  have HROW := Lib.hid hr0
  have HBW := Lib.hid ((But.refl [] w).alloc (.cells (zeroRow 19) 3))
  have hsw : w.heap.size < (w.alloc (.cells (zeroRow 19) 3)).heap.size := by simp
  have HSW := Lib.hid hsw
  clear hQ hcd hr0 hsw
  go_enter Tryd.func49, Tryd.ntmps49
  go_wp2
  go_loopw [9] (fun iv wr => ∃ k : Nat, k ≤ n ∧ iv = .int .i64 k ∧ Hid (Row wr w.heap.size 3 (cntR (R.take k))) ∧ Hid (But [] w wr) ∧ w.heap.size < wr.heap.size) (fun iv _ => n - (intOf iv).toNat)
  case atStart => exact ⟨0, Nat.zero_le _, rfl, HROW, HBW, HSW.out⟩
  case round =>
    obtain ⟨k, hk, rfl, HA, HBW2, hsw⟩ := hrel
    clear HROW HBW HSW hmkS
    by_cases hlt : k < n
    · have hltR : k < R.length := by rw [HNR.out]; exact hlt
      have hmem := HCD.out _ (List.getElem_mem hltR)
      have hts : R.take (k + 1) = R.take k ++ [R[k]] := List.take_succ_eq_append_getElem hltR
      obtain ⟨g, o, cc, mm, rfl, hg, c00, c01, h1⟩ := (HQS.out.but HBW2.out).at hlt
      rw [List.getElem?_eq_getElem hltR] at h1
      injection h1 with h1
      rw [h1] at hmem hts
      have hna := cntR_snoc (R.take k) (cc, mm)
      rw [← hts] at hna
      have hlk : (R.take k).length ≤ 400 := by rw [List.length_take]; omega
      dsimp only at hmem hna
      obtain ⟨y, rfl⟩ : ∃ y : Nat, cc = (y : Int) := ⟨cc.toNat, by omega⟩
      rw [Int.toNat_natCast] at hna
      have HNA := Lib.hid hna
      have HLA : Hid ((cntR (R.take k)).length = 19) := Lib.hid (length_cntR _)
      obtain ⟨vv, hvv⟩ : ∃ vv, vv = (cntR (R.take k)).getD y 0 := ⟨_, rfl⟩
      have hfew := cntR_few (R.take k) y
      have hB1 := (But.refl [] wr).alloc (.cells #[.int .i64 (y : Int), .int .i64 (mm : Int)] 94)
      have hA1 := HA.out.but hB1 (by simp)
      have d0 := hA1.at (i := y) (by rw [HLA.out]; omega)
      have d1 := hA1.free y
      rw [← hvv] at d0 hfew
      have wv := wrap1 (a := vv) (by omega) (by omega)
      have b0 : (0 : Int) ≤ (y : Int) := by omega
      have b1 : (y : Int) < 19 := by omega
      have k0 : (0 : Int) ≤ (k : Int) := by omega
      have k1 : (k : Int) < (n : Int) := by omega
      have hnx := (HA.out.inc hvv).alloc (.cells #[.int .i64 (y : Int), .int .i64 (mm : Int)] 94)
      rw [← HNA.out] at hnx
      have hbw := (HBW2.out.setCell (p := ⟨w.heap.size, y, none⟩) (.inr (Nat.le_refl _)) (.int .i64 (vv + 1))).alloc (.cells #[.int .i64 (y : Int), .int .i64 (mm : Int)] 94)
      have hsz := hB1.size
      have hsw2 : w.heap.size < ((wr.setCell ⟨w.heap.size, y, none⟩ (.int .i64 (vv + 1))).alloc (.cells #[.int .i64 (y : Int), .int .i64 (mm : Int)] 94)).heap.size := by simp; omega
      have HNX := Lib.hid hnx
      have HBW3 := Lib.hid hbw
      have HSW2 := Lib.hid hsw2
      clear hvv hnx hbw hmem hts hna h1 hg hB1 hA1 hsz hsw2 hltR
      go_wp2
      go_roundw
      case rel => exact ⟨k + 1, by omega, by go_num, HNX, HBW3, HSW2.out⟩
      case measure => simp [intOf]; omega
    · obtain rfl : k = n := by omega
      have hall : R.take k = R := List.take_of_length_le (by have := HNR.out; omega)
      rw [hall] at HA
      have hln := HNR.out
      have hI := HA.out.ints
      rw [length_cntR] at hI
      have hc := lengths_pany (cap := 19) (M := 7) (m := 7) hI (by omega) (by omega) (by omega) (okC fun j => by have := cntR_few R j; omega) (csA (length_cntR R) (by decide)) rfl
      have HC := Lib.hid hc
      clear hall hln hI hc
      go_wp2_with fail
      refine HC.out.mono ?_
      rintro e w2 ⟨g, rfl, hO, hB⟩
      have HO := Lib.hid (hO.base (b2 := w.heap.size) (Nat.le_of_lt hsw))
      have HB := Lib.hid (HBW2.out.trans hB)
      clear hO hB
      go_wp2
      go_ret
      exact ⟨g, rfl, HO.out, HB.out⟩
/-- What the program's order of the small code holds. -/
def GD (w : World) : Prop := ∀ i, i < 19 → w.cell? ⟨0, i, none⟩ = some (.int .i64 (ordS.getD i 0 : Nat))
theorem GD.but {w w' : World} (h : GD w) (hB : But [] w w') : GD w' := fun i hi => hB.cell (h i hi) (by simp)
theorem ordCells_at {j : Nat} (hj : j < 19) : ordCells.toList[j]? = some (.int .i64 (ordS.getD j 0 : Nat)) := by
  have hl : j < ordS.length := hj
  have e : ordCells.toList = ordS.map fun k => Value.int .i64 ((k : Nat) : Int) := rfl
  rw [e, List.getElem?_map, List.getD_eq_getElem?_getD, List.getElem?_eq_getElem hl]; rfl
theorem run_order {w : World} (h : GD w) : (loadVar 117 ⟨0, 0, none⟩).run Tryd.prog w = .ok (.agg ordCells) w := by
  have hl : (loadCells ⟨0, 0, none⟩ ordCells.toList.length).run Tryd.prog w = .ok ordCells.toList.toArray w :=
    run_loadCells_list (P := Tryd.prog) w ⟨0, 0, none⟩ ordCells.toList (fun j v hv => by
      have hadd : (⟨0, 0, none⟩ : Addr).add j = ⟨0, j, none⟩ := by unfold Addr.add; split <;> simp_all
      have hj : j < 19 := (List.getElem?_eq_some_iff.1 hv).1
      rw [hadd, h j hj, ← hv, ordCells_at hj])
  have hl2 : (loadCells ⟨0, 0, none⟩ 19).run Tryd.prog w = .ok ordCells w := hl
  have hi : (Tryd.prog.info? 117).map (·.size) = some 19 := by kernel_rfl
  cases hq : Tryd.prog.info? 117 with
  | none => simp [hq] at hi
  | some i =>
    have hs : i.size = 19 := by simpa [hq] using hi
    have hagg : (isAgg 117).run Tryd.prog w = .ok true w := by
      unfold isAgg
      rw [Sem.run_bind, run_underlying Tryd.underlying117 w]
      rfl
    clear hl
    simp [loadVar, Sem.run_bind, hagg, sizeOf, typeInfo, hq, hs, hl2]
theorem wpList_load_order {ops : Array Oper} {rest : List Oper} {o : Oper} {a : Act} {w : World} {Q : Exit → Act → World → Prop} (hgd : o.guard = none) (x : Operand) (ho : o.op = .load 117 x)
    (hx : a.eval x = .pointer (some ⟨0, 0, none⟩)) (hg : GD w) (h : wpList Tryd.prog ops Q rest (a.put o.dst (.agg ordCells)) w) : wpList Tryd.prog ops Q (o :: rest) a w := by
  refine wpList_plain hgd fun K hK => ?_
  unfold Oper.wp execOp
  simp only [ho, hx, Instr.loadAt, Instr.sureAddr, Sem.run_bind, Sem.run_pure, Result.andThen_ok, run_order hg]
  exact hK _ _ h
theorem run_ord_at : ∀ (i : Nat), i < 19 → ∀ W : World, (Instr.index 117 (.agg ordCells) (.int .i64 i)).run Tryd.prog W = .ok (.int .i64 (ordS.getD i 0 : Nat)) W
  | 0, _, W => by kernel_rfl
  | 1, _, W => by kernel_rfl
  | 2, _, W => by kernel_rfl
  | 3, _, W => by kernel_rfl
  | 4, _, W => by kernel_rfl
  | 5, _, W => by kernel_rfl
  | 6, _, W => by kernel_rfl
  | 7, _, W => by kernel_rfl
  | 8, _, W => by kernel_rfl
  | 9, _, W => by kernel_rfl
  | 10, _, W => by kernel_rfl
  | 11, _, W => by kernel_rfl
  | 12, _, W => by kernel_rfl
  | 13, _, W => by kernel_rfl
  | 14, _, W => by kernel_rfl
  | 15, _, W => by kernel_rfl
  | 16, _, W => by kernel_rfl
  | 17, _, W => by kernel_rfl
  | 18, _, W => by kernel_rfl
  | i + 19, h, _ => absurd h (by omega)
end Go.Proofs.YtghegmbafbpnjaaDoor
