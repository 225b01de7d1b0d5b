/- Several texts in one: Bgn, Blk, Inf (what Unwraps, Wraps reach of them). -/
import Derived.Test.YtghegmbafbpnjaaGreatDoorPm01
import Derived.Test.YtghegmbafbpnjaaGreatDoorPm02
import Derived.Test.YtghegmbafbpnjaaGreatDoorPm03
import Derived.Test.YtghegmbafbpnjaaGreatDoorPm04
import Derived.Test.YtghegmbafbpnjaaGreatDoorPm05
import Derived.Test.YtghegmbafbpnjaaGreatDoorPm06
import Derived.Test.YtghegmbafbpnjaaGreatDoorPm07
import Derived.Test.YtghegmbafbpnjaaGreatDoorPm08
import Derived.Test.YtghegmbafbpnjaaGreatDoorPm09
import Derived.Test.YtghegmbafbpnjaaGreatDoorPm10
import Derived.Test.YtghegmbafbpnjaaGreatDoorPm11
import Derived.Test.YtghegmbafbpnjaaGreatDoorPm12
import Derived.Test.YtghegmbafbpnjaaGreatDoorPm13
import Derived.Test.YtghegmbafbpnjaaGreatDoorPm14
import Derived.Test.YtghegmbafbpnjaaGreatDoorPm15
import Derived.Test.YtghegmbafbpnjaaGreatDoorPm16
import Derived.Test.YtghegmbafbpnjaaGreatDoorPm17
import Derived.Test.YtghegmbafbpnjaaGreatDoorPm18
import Derived.Below
import Derived.BigQuiet
import Derived.BigRegion
import Derived.Deep.AppendLies
import Derived.Deep.CutRange
import Derived.Deep.DeepCutAuto
import Derived.Deep.Draws
import Derived.Deep.LoopGhost
import Derived.Deep.QuietTactic
import Derived.Deep.RegionLaw
import Derived.Deep.RegionWith
import Derived.Deep.Slices
import Derived.Laws.BitsAllLaws
import Derived.Laws.BitsLemmas
import Derived.Laws.CopyOwn
import Derived.Laws.IdiomStrings
import Derived.Laws.OwnMore
import Derived.Laws.Rows
import Derived.Lib.AppendStr
import Derived.Lib.AppendZeros
import Derived.Lib.Hide
import Derived.Lib.Strings
import Derived.LoopIn
import Derived.LoopNIn
import Derived.OneCell
import Derived.OpenShut
import Derived.Outline
import Derived.OwnWalk
import Derived.OwnWalkIn
import Derived.ProofKit
import Derived.RangeFuncBound
import Derived.RangeFuncCalls
import Derived.RangeFuncLeaves
import Derived.RangeFuncNested
import Derived.RegionTactic
import Derived.Shelf.Abstract
import Derived.Shelf.RegionOpen
import Derived.Shelf.SlSortCmp.QuietGrown
import Derived.StillTailTactics
import Derived.TacticsInMore
import Derived.Test.YtghegmbafbpnjaaGreatDoorChecked
import Derived.WalkKit
import Derived.WalkLawsBesides
import Derived.WalkSpells
set_option maxRecDepth 100000
set_option linter.unusedVariables false
namespace Go.Proofs.YtghegmbafbpnjaaGreatDoor
set_option maxRecDepth 100000
open Go Go.RowKit
/-- A block's beginning: whether it is the last one; a stored block's bytes; the tables of another one. -/
def rBegin (M : Int) (F : Nat) (L : List UInt8) : Rd (Nat × List UInt8 × Option (List Int × List Int)) := rBind (rBits 3) fun h =>
  if h / 2 = 0 then rBind (storedR M L) fun L' => rPure (h % 2, L', none) else if h / 2 = 1 then rPure (h % 2, L, some (fixL, fixD)) else if h / 2 = 2 then rBind (dynTabs F) fun x => rPure (h % 2, L, some x) else rFail 13
/-- What follows a block's beginning. -/
def blkN (M : Int) (F f : Nat) (x : Nat × List UInt8 × Option (List Int × List Int)) : Rd (List UInt8) := match x with
  | (last, L, none) => if last ≠ 0 then rPure L else blkG M F f L
  | (last, L, some (l, d)) => rBind (symG l d M F L) fun L2 => if last ≠ 0 then rPure L2 else blkG M F f L2
theorem blk_begin (M : Int) (F f : Nat) (L : List UInt8) : blkG M F (f + 1) L = rBind (rBegin M F L) (blkN M F f) := by
  rw [blk_head]
  unfold rBegin
  rw [bind_bind]
  congr 1
  funext h
  unfold blkK
  by_cases h0 : h / 2 = 0
  · rw [if_pos h0, bind_bind, h0]
    have e : blockR M F 0 L = storedR M L := by funext s p; exact block_stored
    rw [e]; rfl
  · rw [if_neg h0]
    by_cases h1 : h / 2 = 1
    · rw [if_pos h1, h1, bind_pure]
      have e : blockR M F 1 L = symG fixL fixD M F L := by funext s p; exact block_fixed
      rw [e]; rfl
    · rw [if_neg h1]
      by_cases h2 : h / 2 = 2
      · rw [if_pos h2, h2, bind_bind]
        have e : blockR M F 2 L = dynR M F L := by funext s p; exact block_dyn
        rw [e, dyn_tabs, bind_bind]; rfl
      · rw [if_neg h2, bind_fail]
        unfold blockR
        rw [if_neg h0, if_neg h1, if_neg h2, bind_fail]
section
variable {w w' : World} {b rb db : Nat} {og : Option Nat} {s : ByteArray} {p : Nat} {M : Int} {L : List UInt8} {fs fd : Option Nat}
/-- A block's tables in memory. -/
def HasT (w : World) (F : List Nat) (p1 p2 : Option Addr) : Option (List Int × List Int) → Prop
  | none => p1 = none ∧ p2 = none
  | some (l, d) => chk l = 0 ∧ chk d = 0 ∧ ∃ b1 b2, p1 = some ⟨b1, 0, none⟩ ∧ p2 = some ⟨b2, 0, none⟩ ∧ Keep F w (fun x => TT x b1 l) ∧ Keep F w (fun x => TT x b2 d)
theorem HasT.step {F F' : List Nat} {p1 p2 : Option Addr} {o : Option (List Int × List Int)} (h : HasT w F p1 p2 o) (hB : But F w w') (hF : ∀ i ∈ F', i ∈ F ∨ w.heap.size ≤ i) : HasT w' F' p1 p2 o := by
  match o, h with
  | none, h => exact h
  | some (l, d), ⟨h1, h2, b1, b2, e1, e2, k1, k2⟩ => exact ⟨h1, h2, b1, b2, e1, e2, k1.step hB hF, k2.step hB hF⟩
def GotBg (X : List Nat) (w : World) (b rb db : Nat) (og : Option Nat) (s : ByteArray) (M : Int) (r : Except Int ((Nat × List UInt8 × Option (List Int × List Int)) × Nat)) (e : Ending) (w' : World) : Prop :=
  ∃ (l : Nat) (p1 p2 : Option Addr) (er : Int) (og' : Option Nat), e = .returned (.tuple #[.bool (decide (l = 1)), .agg #[.pointer p1, .pointer p2], .int .i64 er]) ∧ Mv b rb w w' og og' ∧ (er ≠ 0 → r = .error er) ∧
    (er = 0 → ∃ (q : Nat) (L' : List UInt8) (o : Option (List Int × List Int)) (fs' fd' : Option Nat), r = .ok ((l, L', o), q) ∧ l < 2 ∧ SS w' b rb db og' s q M L' fs' fd' ∧ FX w' (X ++ Foot b rb og') fs' fd' ∧ HasT w' (X ++ Foot b rb og') p1 p2 o)
theorem bg_done {X : List Nat} {w2 : World} {og' : Option Nat} {r : Except Int ((Nat × List UInt8 × Option (List Int × List Int)) × Nat)} {l : Nat} {er : Int} {p1 p2 : Option Addr} {x y : Value} {t : TypeId}
    (hfl : ∀ k ∈ Foot b rb og, k < w.heap.size) (hd : db < b) (hM : Mv b rb w w2 og og') (hI : Is w2 w.heap.size t #[x, y]) (ht : 5 ≠ t) (hl : l < 2) (h1 : er ≠ 0 → r = .error er)
    (h2 : er = 0 → ∃ (q : Nat) (L' : List UInt8) (o : Option (List Int × List Int)) (fs' fd' : Option Nat), r = .ok ((l, L', o), q) ∧ SS w2 b rb db og' s q M L' fs' fd' ∧ FX w2 (w.heap.size :: X ++ Foot b rb og') fs' fd' ∧ HasT w2 (w.heap.size :: X ++ Foot b rb og') p1 p2 o) :
    GotBg X w b rb db og s M r (.returned (.tuple #[.bool (decide (l = 1)), .agg #[.pointer p1, .pointer p2], .int .i64 er])) ((w2.setCell ⟨w.heap.size, 0, none⟩ (.pointer p1)).setCell ⟨w.heap.size, 1, none⟩ (.pointer p2)).drew := by
  have hbl := hfl b (by simp [Foot])
  have hrl := hfl rb (by simp [Foot])
  have hB : But [w.heap.size] w2 ((w2.setCell ⟨w.heap.size, 0, none⟩ (.pointer p1)).setCell ⟨w.heap.size, 1, none⟩ (.pointer p2)).drew := (((But.refl [w.heap.size] w2).setCell (.inl (by simp)) _).setCell (.inl (by simp)) _).drew
  refine ⟨l, p1, p2, er, og', rfl, ⟨((hM.but.setCell (.inr (Nat.le_refl _)) _).setCell (.inr (Nat.le_refl _)) _).drew, hM.own⟩, h1, fun e => ?_⟩
  obtain ⟨q, L', o, fs', fd', e1, e2, e3, e4⟩ := h2 e
  have hns : w.heap.size ∉ Foot b rb og' := fun hk => by
    unfold Foot at hk
    rcases List.mem_cons.1 hk with e | hk
    · omega
    rcases List.mem_cons.1 hk with e | hk
    · omega
    obtain ⟨ov, c1, c2, c3⟩ := e2.cells
    exact own_ne c2 hI ht (by rw [c3]; simpa using hk)
  refine ⟨q, L', o, fs', fd', e1, hl, e2.away hB (fun k hk => ?_), e3.step (hB.more (by simp)) (fun i hi => .inl (by simp at hi ⊢; exact .inr hi)), e4.step (hB.more (by simp)) (fun i hi => .inl (by simp at hi ⊢; exact .inr hi))⟩
  obtain rfl : k = w.heap.size := by simpa using hk
  exact ⟨hns, by omega⟩
theorem and1 (v : Nat) : Go.bits .and .i64 (v : Int) 1 = ((v % 2 : Nat) : Int) := by
  have := i64_mask (v : Int) 1 (by omega)
  simpa using this

theorem GotD.pt {r : Except Int ((List Int × List Int) × Nat)} {e : Ending} (h : GotD w b rb db og s M L fs fd r e w') :
    ∃ (x1 x2 : Option Addr) (er : Int), e = .returned (.tuple #[.agg #[.pointer x1, .pointer x2], .int .i64 er]) ∧ Mv b rb w w' og og ∧ (er ≠ 0 → r = .error er) ∧
      (er = 0 → ∃ q l d, r = .ok ((l, d), q) ∧ SS w' b rb db og s q M L fs fd ∧ ∀ F, (∀ k ∈ F, k < w.heap.size) → HasT w' F x1 x2 (some (l, d))) := by
  obtain ⟨p1, p2, er, q, l, d, rfl, hM, h1, h2⟩ := h
  by_cases her : er = 0
  · obtain ⟨r1, r2, c1, c2, b1, b2, rfl, rfl, k1, k2⟩ := h2 her
    exact ⟨_, _, er, rfl, hM, fun e => absurd her e, fun _ => ⟨q, l, d, r1, r2, fun F hF => ⟨c1, c2, b1, b2, rfl, rfl, k1 F hF, k2 F hF⟩⟩⟩
  · obtain ⟨r1, rfl, rfl⟩ := h1 her
    exact ⟨none, none, er, rfl, hM, fun _ => r1, fun e => absurd e her⟩
theorem FX.hasT {F : List Nat} {f1 f2 : Nat} (h : FX w F (some f1) (some f2)) : HasT w F (some ⟨f1, 0, none⟩) (some ⟨f2, 0, none⟩) (some (fixL, fixD)) := by
  rcases h with ⟨h, _⟩ | ⟨g1, g2, h1, h2, h3, h4⟩
  · cases h
  · injection h1 with h1
    injection h2 with h2
    subst h1 h2
    exact ⟨chk_fixL, chk_fixD, f1, f2, rfl, rfl, h3, h4⟩
theorem HasT.mv {X : List Nat} {og og' : Option Nat} {p1 p2 : Option Addr} {o : Option (List Int × List Int)} (h : HasT w (X ++ Foot b rb og) p1 p2 o) (hM : Mv b rb w w' og og') : HasT w' (X ++ Foot b rb og') p1 p2 o := by
  match o, h with
  | none, h => exact h
  | some (l, d), ⟨h1, h2, b1, b2, e1, e2, k1, k2⟩ => exact ⟨h1, h2, b1, b2, e1, e2, hM.keepX k1, hM.keepX k2⟩

set_option maxHeartbeats 2000000 in
theorem begin_any {X : List Nat} (h : SS w b rb db og s p M L fs fd) (hG : Keep (Foot b rb og) w GL) (hX : ∀ k ∈ X, k < w.heap.size) (hF : FX w (X ++ Foot b rb og) fs fd) {F : Nat} (hFu : 8 * s.size - p < F) :
    Calls Tryz.prog 61 #[.pointer (some ⟨b, 0, none⟩)] w (GotBg X w b rb db og s M (rBegin M F L s p)) := by
  have h1 := h.alloc (.cells #[.pointer none, .pointer none] 46)
  have m1 := Mv.alloc (b := b) (rb := rb) (w := w) (og := og) (.cells #[.pointer none, .pointer none] 46)
  have hI := Is.fresh w 46 #[.pointer none, .pointer none]
  have hin := h1.inCell
  have hbt := h1.bits 3
  have hfl := foot_lt h
  have hft := foot_ne h
  have hdb := h.hd
  have hp8 := h.rs.1
  have hFX0 : FX (w.alloc (.cells #[.pointer none, .pointer none] 46)) ((w.heap.size :: X) ++ Foot b rb og) fs fd := hF.step ((but_alloc w _).more (by simp)) (fun i hi => by
    rcases List.mem_cons.1 hi with e | e
    · right; omega
    · exact .inl e)
  have HBT := Lib.hid hbt
  have HM := Lib.hid m1
  have HI := Lib.hid hI
  have HG := Lib.hid hG
  have HFX := Lib.hid hFX0
  have HFL := Lib.hid hfl
  have HFT := Lib.hid hft
  have HP8 := Lib.hid hp8
  have HFU := Lib.hid hFu
  have HX := Lib.hid hX
  clear h h1 m1 hI hbt hfl hft hG hp8 hF hFu hFX0 hX
  go_enter Tryz.func61, Tryz.ntmps61
  go_wp2_with fail
  refine HBT.out.mono ?_
  rintro e w1 ⟨v, er, q, rfl, hMv, he1, he2⟩
  have hI1 := HI.out.but hMv.but HFT.out
  have hMW := HM.out.trans hMv
  have hFX1 := HFX.out.mv hMv
  have g0 : w1.cell? ⟨w.heap.size, 0, none⟩ = some (.pointer none) := hI1.cell 0
  have g1 : w1.cell? ⟨w.heap.size, 1, none⟩ = some (.pointer none) := hI1.cell 1
  have f0 : w1.frozen? ⟨w.heap.size, 0, none⟩ = false := hI1.free 0
  have f1 : w1.frozen? ⟨w.heap.size, 1, none⟩ = false := hI1.free 1
  have HE1 := Lib.hid he1
  have HE2 := Lib.hid he2
  have HI1 := Lib.hid hI1
  have HMW := Lib.hid hMW
  have HFX1 := Lib.hid hFX1
  clear hMv he1 he2 hI1 hMW HBT HM HI hFX1 HFX
  by_cases her : er = 0
  · obtain ⟨hr, hS⟩ := HE2.out her
    have hv8 : v < 8 := rBits_lt hr
    have hadv := rBits_adv 3 s p v q HP8.out hr
    obtain ⟨k, hk⟩ : ∃ k, k = v / 2 := ⟨_, rfl⟩
    obtain ⟨l, hl⟩ : ∃ l, l = v % 2 := ⟨_, rfl⟩
    have a1 := and1 v
    rw [← hl] at a1
    have a2 : (v : Int) / 2 = (k : Int) := by omega
    have hrb : rBegin M F L s p = (if k = 0 then rBind (storedR M L) fun L' => rPure (l, L', none) else if k = 1 then rPure (l, L, some (fixL, fixD)) else if k = 2 then rBind (dynTabs F) fun x => rPure (l, L, some x) else rFail 13) s q := by
      rw [hk, hl]; exact bind_val hr
    have hl2 : l < 2 := by omega
    have hk4 : k < 4 := by omega
    have bl : ((l : Int) == 1) = decide (l = 1) := by
      by_cases e : l = 1
      · subst e; rfl
      · rw [decide_eq_false e]; simp; omega
    have HRB := Lib.hid hrb
    have HADV := Lib.hid hadv
    have hrl := HI1.out.lt
    have h2 := hS.alloc (.cells #[.pointer none, .pointer none] 46)
    have m2 := Mv.alloc (b := b) (rb := rb) (w := w1) (og := og) (.cells #[.pointer none, .pointer none] 46)
    have hI7 := Is.fresh w1 46 #[.pointer none, .pointer none]
    have hft7 := foot_ne hS
    have hFX2 : FX (w1.alloc (.cells #[.pointer none, .pointer none] 46)) ((w1.heap.size :: w.heap.size :: X) ++ Foot b rb og) fs fd := HFX1.out.step ((but_alloc w1 _).more (by simp)) (fun i hi => by
      rcases List.mem_cons.1 hi with e | e
      · right; omega
      · exact .inl e)
    have hXl : ∀ k ∈ w1.heap.size :: w.heap.size :: X, k < (w1.alloc (.cells #[.pointer none, .pointer none] 46)).heap.size := fun k hk => by
      rw [World.size_alloc]
      rcases List.mem_cons.1 hk with e | hk
      · omega
      rcases List.mem_cons.1 hk with e | hk
      · omega
      have := HX.out k hk; omega
    have HFX2 := Lib.hid hFX2
    have HXL := Lib.hid hXl
    have HM2 := Lib.hid (HMW.out.trans m2)
    have HS2 := Lib.hid h2
    have HI7 := Lib.hid hI7
    have HI2 := Lib.hid (HI1.out.alloc (.cells #[.pointer none, .pointer none] 46))
    have HFT7 := Lib.hid hft7
    have hrne : w.heap.size ≠ w1.heap.size := by omega
    clear hr hS hadv hk hl hrb HE1 HE2 h2 m2 hI7 hft7 hFX2 hXl
    subst her
    by_cases k0 : k = 0
    · subst k0
      have hrb0 : rBegin M F L s p = rBind (storedR M L) (fun L' => rPure (l, L', none)) s q := by rw [HRB.out, if_pos rfl]
      have HRB0 := Lib.hid hrb0
      have hst := stored_any HS2.out
      have HST := Lib.hid hst
      clear hst hrb0 HRB
      go_wp2_with fail
      refine HST.out.mono ?_
      rintro e w2 ⟨er, L', q2, og', rfl, hMv, he1, he2⟩
      have hI2 := HI2.out.but hMv.but HFT.out
      have hI72 := HI7.out.but hMv.but HFT7.out
      have g0 : w2.cell? ⟨w.heap.size, 0, none⟩ = some (.pointer none) := hI2.cell 0
      have g1 : w2.cell? ⟨w.heap.size, 1, none⟩ = some (.pointer none) := hI2.cell 1
      have f0 : w2.frozen? ⟨w.heap.size, 0, none⟩ = false := hI2.free 0
      have f1 : w2.frozen? ⟨w.heap.size, 1, none⟩ = false := hI2.free 1
      have t0 : w2.cell? ⟨w1.heap.size, 0, none⟩ = some (.pointer none) := hI72.cell 0
      have t1 : w2.cell? ⟨w1.heap.size, 1, none⟩ = some (.pointer none) := hI72.cell 1
      have v0 : w2.frozen? ⟨w1.heap.size, 0, none⟩ = false := hI72.free 0
      have v1 : w2.frozen? ⟨w1.heap.size, 1, none⟩ = false := hI72.free 1
      have HI3 := Lib.hid hI2
      have HM3 := Lib.hid (HM2.out.trans hMv)
      have hFX3 := HFX2.out.mv hMv
      have hend1 : er ≠ 0 → rBegin M F L s p = .error er := fun e => by rw [HRB0.out]; exact bind_err (he1 e)
      have hend2 : er = 0 → ∃ (q : Nat) (L' : List UInt8) (o : Option (List Int × List Int)) (fs' fd' : Option Nat), rBegin M F L s p = .ok ((l, L', o), q) ∧ SS w2 b rb db og' s q M L' fs' fd' ∧ FX w2 (w.heap.size :: X ++ Foot b rb og') fs' fd' ∧ HasT w2 (w.heap.size :: X ++ Foot b rb og') none none o := fun e => by
        obtain ⟨r1, r2⟩ := he2 e
        exact ⟨q2, L', none, fs, fd, by rw [HRB0.out]; exact bind_val r1, r2, hFX3.step (But.refl _ _) (fun i hi => .inl (List.mem_cons_of_mem _ hi)), rfl, rfl⟩
      have HEND1 := Lib.hid hend1
      have HEND2 := Lib.hid hend2
      clear hMv he1 he2 hI2 hI72 hFX3 hend1 hend2 HST HRB0
      go_wp2
      go_region
      all_goals
        go_wp2
        have hend := bg_done (X := X) (s := s) (M := M) (r := rBegin M F L s p) (l := l) (er := er) (p1 := none) (p2 := none) HFL.out hdb HM3.out HI3.out (by decide) hl2 (fun e => (HEND1.out e)) (fun e => (HEND2.out e))
        have c := pair_in (p1 := .pointer none) (p2 := .pointer none) HI3.out
        have c2 := c.1.drew
        generalize ((w2.setCell ⟨w.heap.size, 0, none⟩ (.pointer none)).setCell ⟨w.heap.size, 1, none⟩ (.pointer none)).drew = wf at *
        have c0 : wf.cell? ⟨w.heap.size, 0, none⟩ = some (.pointer none) := c2.cell 0
        have c1 : wf.cell? ⟨w.heap.size, 1, none⟩ = some (.pointer none) := c2.cell 1
        exact bodyPost_ret (v := .tuple #[.bool (decide (l = 1)), .agg #[.pointer none, .pointer none], .int .i64 (er)]) (by simp [results, Tryz.results61, go_sem, c0, c1]) rfl hend
    · by_cases k1 : k = 1
      · subst k1
        have hrb0 : rBegin M F L s p = .ok ((l, L, some (fixL, fixD)), q) := by rw [HRB.out, if_neg k0, if_pos rfl]; rfl
        have HRB0 := Lib.hid hrb0
        have hst := fixedTables_any HS2.out HXL.out HFX2.out
        have HST := Lib.hid hst
        have d0 : (((1 : Nat) : Int) == 0) = false := by decide
        clear hst hrb0 HRB k0
        go_wp2_with fail
        refine HST.out.mono ?_
        rintro e w2 ⟨a1', a2', he, hMv, hS3, hFX3⟩
        obtain rfl : e = .returned (.tuple #[.agg #[.pointer (some ⟨a1', 0, none⟩), .pointer (some ⟨a2', 0, none⟩)], .int .i64 0]) := he
        have hI2 := HI2.out.but hMv.but HFT.out
        have hI72 := HI7.out.but hMv.but HFT7.out
        have g0 : w2.cell? ⟨w.heap.size, 0, none⟩ = some (.pointer none) := hI2.cell 0
        have g1 : w2.cell? ⟨w.heap.size, 1, none⟩ = some (.pointer none) := hI2.cell 1
        have f0 : w2.frozen? ⟨w.heap.size, 0, none⟩ = false := hI2.free 0
        have f1 : w2.frozen? ⟨w.heap.size, 1, none⟩ = false := hI2.free 1
        have t0 : w2.cell? ⟨w1.heap.size, 0, none⟩ = some (.pointer none) := hI72.cell 0
        have t1 : w2.cell? ⟨w1.heap.size, 1, none⟩ = some (.pointer none) := hI72.cell 1
        have v0 : w2.frozen? ⟨w1.heap.size, 0, none⟩ = false := hI72.free 0
        have v1 : w2.frozen? ⟨w1.heap.size, 1, none⟩ = false := hI72.free 1
        have hb7 : But [w1.heap.size] w2 ((w2.setCell ⟨w1.heap.size, 0, none⟩ (.pointer (some ⟨a1', 0, none⟩))).setCell ⟨w1.heap.size, 1, none⟩ (.pointer (some ⟨a2', 0, none⟩))) := ((But.refl [w1.heap.size] w2).setCell (.inl (by simp)) _).setCell (.inl (by simp)) _
        have hs7 := hS3.away hb7 (fun k hk => by
          have hk' : k = w1.heap.size := by simpa using hk
          subst hk'
          have := HFL.out b (by simp [Foot])
          exact ⟨HFT7.out, by omega⟩)
        have hf7 : FX ((w2.setCell ⟨w1.heap.size, 0, none⟩ (.pointer (some ⟨a1', 0, none⟩))).setCell ⟨w1.heap.size, 1, none⟩ (.pointer (some ⟨a2', 0, none⟩))) ((w.heap.size :: X) ++ Foot b rb og) (some a1') (some a2') := hFX3.step (hb7.more (by simp)) (fun i hi => .inl (List.mem_cons_of_mem _ hi))
        have hi7 := hI2.but hb7 (by simp; omega)
        have hm7 : Mv b rb w ((w2.setCell ⟨w1.heap.size, 0, none⟩ (.pointer (some ⟨a1', 0, none⟩))).setCell ⟨w1.heap.size, 1, none⟩ (.pointer (some ⟨a2', 0, none⟩))) og og := ⟨(((HM2.out.trans hMv).but.setCell (.inr (by show w.heap.size ≤ w1.heap.size; omega)) _).setCell (.inr (by show w.heap.size ≤ w1.heap.size; omega)) _), (HM2.out.trans hMv).own⟩
        have HI3 := Lib.hid hi7
        have HM3 := Lib.hid hm7
        have hend2 : ∃ (q : Nat) (L' : List UInt8) (o : Option (List Int × List Int)) (fs' fd' : Option Nat), rBegin M F L s p = .ok ((l, L', o), q) ∧ SS ((w2.setCell ⟨w1.heap.size, 0, none⟩ (.pointer (some ⟨a1', 0, none⟩))).setCell ⟨w1.heap.size, 1, none⟩ (.pointer (some ⟨a2', 0, none⟩))) b rb db og s q M L' fs' fd' ∧ FX ((w2.setCell ⟨w1.heap.size, 0, none⟩ (.pointer (some ⟨a1', 0, none⟩))).setCell ⟨w1.heap.size, 1, none⟩ (.pointer (some ⟨a2', 0, none⟩))) (w.heap.size :: X ++ Foot b rb og) fs' fd' ∧ HasT ((w2.setCell ⟨w1.heap.size, 0, none⟩ (.pointer (some ⟨a1', 0, none⟩))).setCell ⟨w1.heap.size, 1, none⟩ (.pointer (some ⟨a2', 0, none⟩))) (w.heap.size :: X ++ Foot b rb og) (some ⟨a1', 0, none⟩) (some ⟨a2', 0, none⟩) o :=
          ⟨q, L, some (fixL, fixD), some a1', some a2', HRB0.out, hs7, hf7, hf7.hasT⟩
        have HEND2 := Lib.hid hend2
        clear hMv hI2 hI72 hFX3 hend2 HST HRB0 hb7 hs7 hf7 hi7 hm7 hS3
        go_wp2
        go_region
        all_goals
          go_wp2
          have hend := bg_done (X := X) (s := s) (M := M) (r := rBegin M F L s p) (l := l) (er := 0) (p1 := (some ⟨a1', 0, none⟩)) (p2 := (some ⟨a2', 0, none⟩)) HFL.out hdb HM3.out HI3.out (by decide) hl2 (fun e => absurd rfl e) (fun _ => HEND2.out)
          have c := pair_in (p1 := .pointer (some ⟨a1', 0, none⟩)) (p2 := .pointer (some ⟨a2', 0, none⟩)) HI3.out
          have c2 := c.1.drew
          generalize ((((w2.setCell ⟨w1.heap.size, 0, none⟩ (.pointer (some ⟨a1', 0, none⟩))).setCell ⟨w1.heap.size, 1, none⟩ (.pointer (some ⟨a2', 0, none⟩))).setCell ⟨w.heap.size, 0, none⟩ (.pointer (some ⟨a1', 0, none⟩))).setCell ⟨w.heap.size, 1, none⟩ (.pointer (some ⟨a2', 0, none⟩))).drew = wf at *
          have c0 : wf.cell? ⟨w.heap.size, 0, none⟩ = some (.pointer (some ⟨a1', 0, none⟩)) := c2.cell 0
          have c1 : wf.cell? ⟨w.heap.size, 1, none⟩ = some (.pointer (some ⟨a2', 0, none⟩)) := c2.cell 1
          exact bodyPost_ret (v := .tuple #[.bool (decide (l = 1)), .agg #[.pointer (some ⟨a1', 0, none⟩), .pointer (some ⟨a2', 0, none⟩)], .int .i64 (0)]) (by simp [results, Tryz.results61, go_sem, c0, c1]) rfl hend
      · by_cases k2 : k = 2
        · subst k2
          have hrb0 : rBegin M F L s p = rBind (dynTabs F) (fun x => rPure (l, L, some x)) s q := by rw [HRB.out, if_neg k0, if_neg k1, if_pos rfl]
          have HRB0 := Lib.hid hrb0
          have hst := dynamicTables_any HS2.out (HM2.out.keep HG.out) (F := F) (by have := HADV.out; have := HFU.out; omega)
          have HST := Lib.hid hst
          have d0 : (((2 : Nat) : Int) == 0) = false := by decide
          have d1 : (((2 : Nat) : Int) == 1) = false := by decide
          clear hst hrb0 HRB k0 k1
          go_wp2_with fail
          refine HST.out.mono ?_
          intro e w2 hgot
          obtain ⟨x1, x2, er, he, hMv, hIX⟩ := hgot.pt
          subst he
          have hI2 := HI2.out.but hMv.but HFT.out
          have hI72 := HI7.out.but hMv.but HFT7.out
          have g0 : w2.cell? ⟨w.heap.size, 0, none⟩ = some (.pointer none) := hI2.cell 0
          have g1 : w2.cell? ⟨w.heap.size, 1, none⟩ = some (.pointer none) := hI2.cell 1
          have f0 : w2.frozen? ⟨w.heap.size, 0, none⟩ = false := hI2.free 0
          have f1 : w2.frozen? ⟨w.heap.size, 1, none⟩ = false := hI2.free 1
          have t0 : w2.cell? ⟨w1.heap.size, 0, none⟩ = some (.pointer none) := hI72.cell 0
          have t1 : w2.cell? ⟨w1.heap.size, 1, none⟩ = some (.pointer none) := hI72.cell 1
          have v0 : w2.frozen? ⟨w1.heap.size, 0, none⟩ = false := hI72.free 0
          have v1 : w2.frozen? ⟨w1.heap.size, 1, none⟩ = false := hI72.free 1
          have hb7 : But [w1.heap.size] w2 ((w2.setCell ⟨w1.heap.size, 0, none⟩ (.pointer x1)).setCell ⟨w1.heap.size, 1, none⟩ (.pointer x2)) := ((But.refl [w1.heap.size] w2).setCell (.inl (by simp)) _).setCell (.inl (by simp)) _
          have hi7 := hI2.but hb7 (by simp; omega)
          have hm7 : Mv b rb w ((w2.setCell ⟨w1.heap.size, 0, none⟩ (.pointer x1)).setCell ⟨w1.heap.size, 1, none⟩ (.pointer x2)) og og := ⟨(((HM2.out.trans hMv).but.setCell (.inr (by show w.heap.size ≤ w1.heap.size; omega)) _).setCell (.inr (by show w.heap.size ≤ w1.heap.size; omega)) _), (HM2.out.trans hMv).own⟩
          have hFX3 := HFX2.out.mv hMv
          have hend1 : er ≠ 0 → rBegin M F L s p = .error er := fun e => by rw [HRB0.out]; exact bind_err (hIX.1 e)
          have hend2 : er = 0 → ∃ (q : Nat) (L' : List UInt8) (o : Option (List Int × List Int)) (fs' fd' : Option Nat), rBegin M F L s p = .ok ((l, L', o), q) ∧ SS ((w2.setCell ⟨w1.heap.size, 0, none⟩ (.pointer x1)).setCell ⟨w1.heap.size, 1, none⟩ (.pointer x2)) b rb db og s q M L' fs' fd' ∧ FX ((w2.setCell ⟨w1.heap.size, 0, none⟩ (.pointer x1)).setCell ⟨w1.heap.size, 1, none⟩ (.pointer x2)) (w.heap.size :: X ++ Foot b rb og) fs' fd' ∧ HasT ((w2.setCell ⟨w1.heap.size, 0, none⟩ (.pointer x1)).setCell ⟨w1.heap.size, 1, none⟩ (.pointer x2)) (w.heap.size :: X ++ Foot b rb og) x1 x2 o := fun e => by
            obtain ⟨q2, l2, d2, r1, r2, r3⟩ := hIX.2 e
            refine ⟨q2, L, some (l2, d2), fs, fd, by rw [HRB0.out]; exact bind_val r1, r2.away hb7 (fun k hk => ?_), hFX3.step (hb7.more (by simp)) (fun i hi => .inl (List.mem_cons_of_mem _ hi)), (r3 ((w1.heap.size :: w.heap.size :: X) ++ Foot b rb og) (fun k hk => ?_)).step (hb7.more (by simp)) (fun i hi => .inl (List.mem_cons_of_mem _ hi))⟩
            · have hk' : k = w1.heap.size := by simpa using hk
              subst hk'
              have := HFL.out b (by simp [Foot])
              exact ⟨HFT7.out, by omega⟩
            · rcases List.mem_append.1 hk with hk | hk
              · exact HXL.out k hk
              · have := HFL.out k hk
                rw [World.size_alloc]; omega
          have HI3 := Lib.hid hi7
          have HM3 := Lib.hid hm7
          have HEND1 := Lib.hid hend1
          have HEND2 := Lib.hid hend2
          clear hMv hI2 hI72 hFX3 hend1 hend2 HST HRB0 hb7 hi7 hm7 hIX hgot
          go_wp2
          go_region
          all_goals
            go_wp2
            have hend := bg_done (X := X) (s := s) (M := M) (r := rBegin M F L s p) (l := l) (er := er) (p1 := x1) (p2 := x2) HFL.out hdb HM3.out HI3.out (by decide) hl2 (fun e => HEND1.out e) (fun e => HEND2.out e)
            have c := pair_in (p1 := .pointer x1) (p2 := .pointer x2) HI3.out
            have c2 := c.1.drew
            generalize ((((w2.setCell ⟨w1.heap.size, 0, none⟩ (.pointer x1)).setCell ⟨w1.heap.size, 1, none⟩ (.pointer x2)).setCell ⟨w.heap.size, 0, none⟩ (.pointer x1)).setCell ⟨w.heap.size, 1, none⟩ (.pointer x2)).drew = wf at *
            have c0 : wf.cell? ⟨w.heap.size, 0, none⟩ = some (.pointer x1) := c2.cell 0
            have c1 : wf.cell? ⟨w.heap.size, 1, none⟩ = some (.pointer x2) := c2.cell 1
            exact bodyPost_ret (v := .tuple #[.bool (decide (l = 1)), .agg #[.pointer x1, .pointer x2], .int .i64 (er)]) (by simp [results, Tryz.results61, go_sem, c0, c1]) rfl hend
        · obtain rfl : k = 3 := by omega
          have hrb0 : rBegin M F L s p = .error 13 := by rw [HRB.out, if_neg k0, if_neg k1, if_neg k2]; rfl
          have HRB0 := Lib.hid hrb0
          have d0 : (((3 : Nat) : Int) == 0) = false := by decide
          have d1 : (((3 : Nat) : Int) == 1) = false := by decide
          have d2 : (((3 : Nat) : Int) == 2) = false := by decide
          have hI2 := HI2.out
          have hI72 := HI7.out
          have hmf : Mv b rb w ((w1.alloc (.cells #[.pointer none, .pointer none] 46))) og og := HM2.out
          have HI3 := Lib.hid hI2
          have HM3 := Lib.hid hmf
          clear hrb0 HRB k0 k1 k2 hmf HFX2 HXL HS2 HM2 HI2 HI7
          go_wp2
          generalize (w1.alloc (.cells #[.pointer none, .pointer none] 46)) = w2 at *
          have g0 : w2.cell? ⟨w.heap.size, 0, none⟩ = some (.pointer none) := hI2.cell 0
          have g1 : w2.cell? ⟨w.heap.size, 1, none⟩ = some (.pointer none) := hI2.cell 1
          have f0 : w2.frozen? ⟨w.heap.size, 0, none⟩ = false := hI2.free 0
          have f1 : w2.frozen? ⟨w.heap.size, 1, none⟩ = false := hI2.free 1
          have t0 : w2.cell? ⟨w1.heap.size, 0, none⟩ = some (.pointer none) := hI72.cell 0
          have t1 : w2.cell? ⟨w1.heap.size, 1, none⟩ = some (.pointer none) := hI72.cell 1
          clear hI2 hI72
          go_region
          all_goals
            go_wp2
            have hend := bg_done (X := X) (s := s) (M := M) (r := rBegin M F L s p) (l := l) (er := 13) (p1 := none) (p2 := none) HFL.out hdb HM3.out HI3.out (by decide) hl2 (fun _ => HRB0.out) (fun e => absurd e (by decide))
            have c := pair_in (p1 := .pointer none) (p2 := .pointer none) HI3.out
            have c2 := c.1.drew
            generalize ((w2.setCell ⟨w.heap.size, 0, none⟩ (.pointer none)).setCell ⟨w.heap.size, 1, none⟩ (.pointer none)).drew = wf at *
            have c0 : wf.cell? ⟨w.heap.size, 0, none⟩ = some (.pointer none) := c2.cell 0
            have c1 : wf.cell? ⟨w.heap.size, 1, none⟩ = some (.pointer none) := c2.cell 1
            exact bodyPost_ret (v := .tuple #[.bool (decide (l = 1)), .agg #[.pointer none, .pointer none], .int .i64 (13)]) (by simp [results, Tryz.results61, go_sem, c0, c1]) rfl hend
  · have d2 : (er != 0) = true := by simpa using her
    have HER := Lib.hid her
    clear her
    go_wp2
    have c := pair_in (p1 := .pointer none) (p2 := .pointer none) HI1.out
    have hm : Mv b rb w ((w1.setCell ⟨w.heap.size, 0, none⟩ (.pointer none)).setCell ⟨w.heap.size, 1, none⟩ (.pointer none)) og og := ⟨(HMW.out.but.setCell (.inr (Nat.le_refl _)) _).setCell (.inr (Nat.le_refl _)) _, HMW.out.own⟩
    generalize ((w1.setCell ⟨w.heap.size, 0, none⟩ (.pointer none)).setCell ⟨w.heap.size, 1, none⟩ (.pointer none)) = wf at *
    have c0 : wf.cell? ⟨w.heap.size, 0, none⟩ = some (.pointer none) := c.1.cell 0
    have c1 : wf.cell? ⟨w.heap.size, 1, none⟩ = some (.pointer none) := c.1.cell 1
    refine bodyPost_ret (v := .tuple #[.bool false, .agg #[.pointer none, .pointer none], .int .i64 er]) (by simp [results, Tryz.results61, go_sem, c0, c1]) rfl ?_
    exact ⟨0, none, none, er, og, rfl, hm, fun _ => bind_err (HE1.out HER.out), fun e => absurd e HER.out⟩
end
end Go.Proofs.YtghegmbafbpnjaaGreatDoor
namespace Go.Proofs.YtghegmbafbpnjaaGreatDoor
set_option maxRecDepth 100000
open Go Go.RowKit
section
variable {w w' : World} {b rb db : Nat} {og : Option Nat} {s : ByteArray} {p : Nat} {M : Int} {L : List UInt8} {fs fd : Option Nat}
set_option maxHeartbeats 1000000 in
theorem produce_match {d : List Int} {bd : Nat} {x : Option Addr} {tv : Value} (h : SS w b rb db og s p M L fs fd) (hc : chk d = 0) (hT : Keep (Foot b rb og) w fun w' => TT w' bd d) (t : Nat) (ht : 256 < t)
    (htv : tv = .agg #[.pointer x, .pointer (some ⟨bd, 0, none⟩)]) :
    Calls Tryz.prog 63 #[.pointer (some ⟨b, 0, none⟩), .int .i64 t, tv] w (GotE w b rb db og s M fs fd (rProd d M t L s p)) := by
  subst htv
  have hr : rProd d M t L s p = rMatch d M t L s p := by unfold rProd; rw [if_pos ht]
  have h1 := h.alloc (.cells #[.pointer x, .pointer (some ⟨bd, 0, none⟩)] 46)
  have m1 := Mv.alloc (b := b) (rb := rb) (w := w) (og := og) (.cells #[.pointer x, .pointer (some ⟨bd, 0, none⟩)] 46)
  have hm := match_any h1 hc (m1.keep hT) t ht (x := x) rfl
  have d1 : decide ((256 : Int) < (t : Int)) = true := by simp; omega
  have HM := Lib.hid hm
  have HR := Lib.hid hr
  have HM1 := Lib.hid m1
  clear h h1 m1 hm hr hc hT ht
  go_enter Tryz.func63, Tryz.ntmps63
  go_wp2_with fail
  refine HM.out.mono ?_
  rintro e w2 ⟨er, L', q, og', rfl, hMv, he1, he2⟩
  have HMV := Lib.hid hMv
  have HE1 := Lib.hid he1
  have HE2 := Lib.hid he2
  clear hMv he1 he2
  go_wp2
  go_ret
  exact ⟨er, L', q, og', rfl, HM1.out.trans HMV.out, fun e => by rw [HR.out]; exact HE1.out e, fun e => by rw [HR.out]; exact HE2.out e⟩
theorem produce_any {d : List Int} {bd : Nat} {x : Option Addr} (h : SS w b rb db og s p M L fs fd) (hc : chk d = 0) (hT : Keep (Foot b rb og) w fun w' => TT w' bd d) (t : Nat) (ht : t ≠ 256) :
    Calls Tryz.prog 63 #[.pointer (some ⟨b, 0, none⟩), .int .i64 t, .agg #[.pointer x, .pointer (some ⟨bd, 0, none⟩)]] w (GotE w b rb db og s M fs fd (rProd d M t L s p)) := by
  by_cases h1 : 256 < t
  · exact produce_match h hc hT t h1 rfl
  · exact produce_lit h t (by omega) rfl
theorem Mv.notin {og' : Option Nat} {r : Nat} (h : Mv b rb w w' og og') (hn : r ∉ Foot b rb og) (hr : r < w.heap.size) : r ∉ Foot b rb og' := fun hk => by
  rcases h.foot r hk with e | e
  · exact hn e
  · omega
/-- At the head of a block. -/
def BlkRel (M : Int) (F f : Nat) (s : ByteArray) (R : Except Int (List UInt8 × Nat)) (l : Nat) (L : List UInt8) (q : Nat) : Prop :=
  (l = 1 ∧ R = .ok (L, q)) ∨ (l = 0 ∧ blkG M F f L s q = R ∧ 8 * s.size - q < f)
theorem blkRel_next {F f l q : Nat} {R : Except Int (List UInt8 × Nat)} (hl : l < 2) (h : (if l ≠ 0 then rPure L else blkG M F f L) s q = R) (hq : 8 * s.size - q < f) : BlkRel M F f s R l L q := by
  by_cases h0 : l = 0
  · subst h0
    rw [if_neg (by decide)] at h
    exact .inr ⟨rfl, h, hq⟩
  · rw [if_pos h0] at h
    exact .inl ⟨by omega, h.symm⟩
theorem rBegin_adv (M : Int) (F : Nat) (L : List UInt8) {s : ByteArray} {p q : Nat} {x : Nat × List UInt8 × Option (List Int × List Int)} (hp : p ≤ 8 * s.size) (h : rBegin M F L s p = .ok (x, q)) : p < q ∧ q ≤ 8 * s.size := by
  unfold rBegin at h
  obtain ⟨⟨v, q1⟩, h1, h2⟩ := ok_bind h
  have hb : q1 = p + 3 ∧ q1 ≤ 8 * s.size := by
    rw [rBits_small (by omega)] at h1
    split at h1
    · cases h1
    · injection h1 with h1
      injection h1 with _ h1
      omega
  have hst : Adv (storedR M L) := Adv.bind (rBytes_adv 2) fun a => Adv.bind (rBytes_adv 2) fun b => Adv.when (Adv.bind (rBytes_adv _) fun x => Adv.when (Adv.pure _))
  have hdy : Adv (dynTabs F) := by
    unfold dynTabs tablesR
    exact Adv.bind (rBits_adv 14) fun v => Adv.bind (rSmall_adv _) fun sm => Adv.bind (lenG_adv _ _ _ _) fun ls => Adv.when (Adv.when (Adv.pure _))
  have key : Adv (if v / 2 = 0 then rBind (storedR M L) fun L' => rPure (v % 2, L', none) else if v / 2 = 1 then rPure (v % 2, L, some (fixL, fixD)) else if v / 2 = 2 then rBind (dynTabs F) fun x => rPure (v % 2, L, some x) else (rFail 13 : Rd (Nat × List UInt8 × Option (List Int × List Int)))) :=
    Adv.ite (Adv.bind hst fun _ => Adv.pure _) (Adv.ite (Adv.pure _) (Adv.ite (Adv.bind hdy fun _ => Adv.pure _) (Adv.fail 13)))
  have := key s q1 x q hb.2 h2
  omega
theorem rProd_adv (d : List Int) (M : Int) (t : Nat) (L : List UInt8) : Adv (rProd d M t L) := by
  unfold rProd rMatch rLen rDst
  exact Adv.ite (Adv.bind (Adv.when (Adv.bind (rBits_adv _) fun _ => Adv.pure _)) fun _ => Adv.bind (Adv.bind (rNext_adv d) fun _ => Adv.when (Adv.bind (rBits_adv _) fun _ => Adv.pure _)) fun _ => Adv.when (Adv.when (Adv.pure _))) (Adv.when (Adv.pure _))
/-- The blocks told an error, or the stream at its end. -/
def GotBK (w : World) (b rb db : Nat) (og : Option Nat) (s : ByteArray) (M : Int) (r : Except Int (List UInt8 × Nat)) (e : Ending) (w' : World) : Prop :=
  ∃ (er : Int) (og' : Option Nat), e = .returned (.int .i64 er) ∧ Mv b rb w w' og og' ∧ (er ≠ 0 → r = .error er) ∧ (er = 0 → ∃ L' q fs' fd', r = .ok (L', q) ∧ SS w' b rb db og' s q M L' fs' fd')

set_option maxHeartbeats 4000000 in
theorem blocks_any (h : SS w b rb db og s p M L fs fd) (hG : Keep (Foot b rb og) w GL) (hF : FX w (Foot b rb og) fs fd) {F f0 : Nat} (hFu : 8 * s.size < F) (hf0 : 8 * s.size - p < f0) :
    Calls Tryz.prog 29 #[.pointer (some ⟨b, 0, none⟩)] w (GotBK w b rb db og s M (blkG M F f0 L s p)) := by
  obtain ⟨R, hR⟩ : ∃ R, R = blkG M F f0 L s p := ⟨_, rfl⟩
  rw [← hR]
  have HS := Lib.hid h
  have HG := Lib.hid hG
  have HFX := Lib.hid hF
  have HR := Lib.hid hR
  have HF0 := Lib.hid hf0
  have HFU := Lib.hid hFu
  clear h hG hF hR hf0 hFu
  go_enter Tryz.func29, Tryz.ntmps29
  go_wp2
  go_step3
  go_wp2
  go_step3
  go_wp2
  go_loopg [3, 4] f0 (fun f ev lv wr => ∃ (l : Nat) (L1 : List UInt8) (q : Nat) (og1 fs1 fd1 : Option Nat), ev = .int .i64 0 ∧ lv = .bool (decide (l = 1)) ∧ SS wr b rb db og1 s q M L1 fs1 fd1 ∧ Mv b rb w wr og og1 ∧ FX wr (Foot b rb og1) fs1 fd1 ∧ BlkRel M F f s R l L1 q)
  case atStart => exact ⟨0, L, p, og, fs, fd, rfl, rfl, HS.out, Mv.refl _ _ _ _, HFX.out, .inr ⟨rfl, HR.out.symm, HF0.out⟩⟩
  case round =>
    obtain ⟨l, L1, q, og1, fs1, fd1, rfl, rfl, hS, hMv, hF, hB⟩ := hrel
    have HMV := Lib.hid hMv
    by_cases hl : l = 1
    · subst hl
      have hR : R = .ok (L1, q) := by
        rcases hB with h | h
        · exact h.2
        · exact absurd h.1 (by decide)
      have HRR := Lib.hid hR
      have HS1 := Lib.hid hS
      clear hR hS hB hF hMv HS HFX
      go_wp2
      try rw [Exit.noGoto_ret]
      go_ret
      exact ⟨0, og1, rfl, HMV.out, fun e => absurd rfl e, fun _ => ⟨L1, q, fs1, fd1, HRR.out, HS1.out⟩⟩
    · have hl0 : decide (l = 1) = false := by simpa using hl
      obtain ⟨hl00, hR, hf⟩ : l = 0 ∧ blkG M F gk L1 s q = R ∧ 8 * s.size - q < gk := by
        rcases hB with h | h
        · exact absurd h.1 hl
        · exact h
      obtain ⟨f, rfl⟩ : ∃ f, gk = f + 1 := ⟨gk - 1, by omega⟩
      obtain ⟨wo, rfl⟩ : ∃ wo : World, wo = wr := ⟨_, rfl⟩
      have h1 := hS.alloc (.cells #[.pointer none, .pointer none] 46)
      have m1 := Mv.alloc (b := b) (rb := rb) (w := wo) (og := og1) (.cells #[.pointer none, .pointer none] 46)
      have hI := Is.fresh wo 46 #[.pointer none, .pointer none]
      have hft := foot_ne hS
      have hq8 := hS.rs.1
      have hFX0 : FX (wo.alloc (.cells #[.pointer none, .pointer none] 46)) ([wo.heap.size] ++ Foot b rb og1) fs1 fd1 := hF.step ((but_alloc wo _).more (by simp)) (fun i hi => by
        rcases List.mem_cons.1 hi with e | e
        · right; omega
        · exact .inl e)
      have hbg := begin_any (X := [wo.heap.size]) h1 ((HMV.out.trans m1).keep HG.out) (fun k hk => by simp at hk; rw [World.size_alloc]; omega) hFX0 (F := F) (by have := HFU.out; omega)
      have hbl := blk_begin M F f L1
      have hwr := hMv.but.size
      have hdb := hS.hd
      have hfl := foot_lt hS
      have HBG := Lib.hid hbg
      have HBL := Lib.hid hbl
      have HI := Lib.hid hI
      have HFT := Lib.hid hft
      have HQ8 := Lib.hid hq8
      have HM1 := Lib.hid (HMV.out.trans m1)
      have HRR := Lib.hid hR
      have HFF := Lib.hid hf
      have HFL := Lib.hid hfl
      clear h1 m1 hI hft hFX0 hbg hbl hR hf hS hB hF hMv HS HFX hl00 hq8 hfl
      go_wp2_with fail
      refine HBG.out.mono ?_
      rintro e w2 ⟨l2, p1, p2, er, og2, rfl, hMv, he1, he2⟩
      have hI2 := HI.out.but hMv.but HFT.out
      have t0 : w2.cell? ⟨wo.heap.size, 0, none⟩ = some (.pointer none) := hI2.cell 0
      have t1 : w2.cell? ⟨wo.heap.size, 1, none⟩ = some (.pointer none) := hI2.cell 1
      have v0 : w2.frozen? ⟨wo.heap.size, 0, none⟩ = false := hI2.free 0
      have v1 : w2.frozen? ⟨wo.heap.size, 1, none⟩ = false := hI2.free 1
      have hns := hMv.notin HFT.out (by rw [World.size_alloc]; omega)
      have HM2 := Lib.hid (HM1.out.trans hMv)
      have HE1 := Lib.hid he1
      have HE2 := Lib.hid he2
      have HI2 := Lib.hid hI2
      have HNS := Lib.hid hns
      clear hMv he1 he2 hI2 hns HBG
      by_cases her : er = 0
      · obtain ⟨q2, L2, o, fs2, fd2, hr, hl2, hS2, hF2, hT2⟩ := HE2.out her
        have hadv := rBegin_adv M F L1 HQ8.out hr
        have hR2 : blkN M F f (l2, L2, o) s q2 = R := by
          rw [← HRR.out, HBL.out]; exact (bind_val hr).symm
        have HR2 := Lib.hid hR2
        have HADV := Lib.hid hadv
        have HS2 := Lib.hid hS2
        have HF2 := Lib.hid hF2
        have HT2 := Lib.hid hT2
        clear hR2 hadv hS2 hF2 hT2 hr HE1 HE2 HRR
        subst her
        have c := pair_in (p1 := .pointer p1) (p2 := .pointer p2) HI2.out
        have s3 := HS2.out.away c.2 (fun k hk => by
          obtain rfl : k = wo.heap.size := by simpa using hk
          have := HFL.out b (by simp [Foot])
          exact ⟨HNS.out, by omega⟩)
        have f3 := HF2.out.step (F' := Foot b rb og2) (c.2.more (by simp)) (fun i hi => .inl (List.mem_append_right _ hi))
        have k3 := HT2.out.step (F' := Foot b rb og2) (c.2.more (by simp)) (fun i hi => .inl (List.mem_append_right _ hi))
        have m3 : Mv b rb w ((w2.setCell ⟨wo.heap.size, 0, none⟩ (.pointer p1)).setCell ⟨wo.heap.size, 1, none⟩ (.pointer p2)) og og2 := ⟨(HM2.out.but.setCell (.inr hwr) _).setCell (.inr hwr) _, HM2.out.own⟩
        have HI3 := Lib.hid c.1
        have HS3 := Lib.hid s3
        have HF3 := Lib.hid f3
        have HK3 := Lib.hid k3
        have HM3 := Lib.hid m3
        clear c s3 f3 k3 m3 HS2 HF2 HT2 HM1 HI HFT HM2 HI2 HMV
        go_wp2_with fail
        generalize ((w2.setCell ⟨wo.heap.size, 0, none⟩ (.pointer p1)).setCell ⟨wo.heap.size, 1, none⟩ (.pointer p2)) = w3 at *
        clear t0 t1 v0 v1
        rcases o with _ | ⟨ls, ds⟩
        · obtain ⟨rfl, rfl⟩ := HK3.out
          have t0 : w3.cell? ⟨wo.heap.size, 0, none⟩ = some (.pointer none) := HI3.out.cell 0
          go_loopg [3, 6] 0 (fun g ev _ wr => ev = .int .i64 0 ∧ wr = w3)
          case atStart => exact ⟨rfl, rfl⟩
          case round =>
            obtain ⟨rfl, rfl⟩ := hrel
            go_wp2
            go_roundg f
            case measure => omega
            case rel => exact ⟨l2, L2, q2, og2, fs2, fd2, rfl, rfl, HS3.out, HM3.out, HF3.out, blkRel_next hl2 HR2.out (by have := HADV.out; have := HFF.out; omega)⟩
        · obtain ⟨hc1, hc2, b1, b2, rfl, rfl, hk1, hk2⟩ := HK3.out
          obtain ⟨R2, hR2e⟩ : ∃ R2, R2 = symG ls ds M F L2 s q2 := ⟨_, rfl⟩
          have hRb : rBind (symG ls ds M F L2) (fun L2 => if l2 ≠ 0 then rPure L2 else blkG M F f L2) s q2 = R := HR2.out
          have hRe : ∀ e, R2 = .error e → R = .error e := fun e he => by
            have k : symG ls ds M F L2 s q2 = .error e := hR2e.symm.trans he
            rw [← hRb]; exact bind_err k
          have hRk : ∀ a q, R2 = .ok (a, q) → (if l2 ≠ 0 then rPure a else blkG M F f a) s q = R := fun a q he => by
            have k : symG ls ds M F L2 s q2 = .ok (a, q) := hR2e.symm.trans he
            rw [← hRb, bind_val k]
          have HRE := Lib.hid hRe
          have HRK := Lib.hid hRk
          have hst : symG ls ds M F L2 s q2 = R2 ∧ 8 * s.size - q2 < F := ⟨hR2e.symm, by have := HFU.out; omega⟩
          have hq2 := HADV.out
          have HST := Lib.hid hst
          have HQ2 := Lib.hid hq2
          have HC1 := Lib.hid hc1
          have HC2 := Lib.hid hc2
          have HK1 := Lib.hid hk1
          have HK2 := Lib.hid hk2
          clear hR2e hRb hRe hRk hst hc1 hc2 hk1 hk2 HK3 HR2 hq2
          go_loopg [3, 6] F (fun g ev _ wr => ∃ (L3 : List UInt8) (q3 : Nat) (og3 : Option Nat), ev = .int .i64 0 ∧ SS wr b rb db og3 s q3 M L3 fs2 fd2 ∧ Mv b rb w wr og og3 ∧ FX wr (Foot b rb og3) fs2 fd2 ∧
            Keep (Foot b rb og3) wr (fun x => TT x b1 ls) ∧ Keep (Foot b rb og3) wr (fun x => TT x b2 ds) ∧ Is wr wo.heap.size 46 #[.pointer (some ⟨b1, 0, none⟩), .pointer (some ⟨b2, 0, none⟩)] ∧ wo.heap.size ∉ Foot b rb og3 ∧ Hid (symG ls ds M g L3 s q3 = R2 ∧ 8 * s.size - q3 < g) ∧ q2 ≤ q3)
          case atStart => exact ⟨L2, q2, og2, rfl, HS3.out, HM3.out, HF3.out, HK1.out, HK2.out, HI3.out, HNS.out, HST.out, Nat.le_refl _⟩
          case round =>
            obtain ⟨L3, q3, og3, rfl, hS, hMv, hF, hk1, hk2, hI, hns, HG3, hq23⟩ := hrel
            obtain ⟨g, hge⟩ : ∃ g, gk = g + 1 := ⟨gk - 1, by have := HG3.out.2; omega⟩
            subst hge
            obtain ⟨wi, rfl⟩ : ∃ wi : World, wi = wr := ⟨_, rfl⟩
            have t0 : wi.cell? ⟨wo.heap.size, 0, none⟩ = some (.pointer (some ⟨b1, 0, none⟩)) := hI.cell 0
            have t1 : wi.cell? ⟨wo.heap.size, 1, none⟩ = some (.pointer (some ⟨b2, 0, none⟩)) := hI.cell 1
            have hin := hS.inCell
            have hnx := hS.drew.next HC1.out (Mv.drew.keep hk1)
            have hq8 := hS.rs.1
            have HNX := Lib.hid hnx
            have HMI := Lib.hid hMv
            have HFI := Lib.hid hF
            have HKI1 := Lib.hid hk1
            have HKI2 := Lib.hid hk2
            have HII := Lib.hid hI
            have HNI := Lib.hid hns
            have HQ83 := Lib.hid hq8
            have hrl := hI.lt
            clear hnx hMv hF hk1 hk2 hI hns hS HS3 HM3 HF3 HK1 HK2 HI3 HST hq8
            go_upto_region 9 with (fail)
            go_cut [3, 6] from 17 to 39 (fun v3 v6 wc => ∃ (t : Nat) (er : Int) (q : Nat), v6 = .int .i64 t ∧ v3 = .int .i64 er ∧ Hid (Mv b rb wi wc og3 og3) ∧ Hid (er ≠ 0 → rNext ls s q3 = .error er) ∧ Hid (er = 0 → rNext ls s q3 = .ok (t, q) ∧ SS wc b rb db og3 s q M L3 fs2 fd2))
            case first =>
              have t0' : wi.drew.cell? ⟨wo.heap.size, 0, none⟩ = some (.pointer (some ⟨b1, 0, none⟩)) := t0
              have hin' : wi.drew.cell? ⟨b, 0, none⟩ = some (.pointer (some ⟨rb, 0, none⟩)) := hin
              go_region_with (go_at_call 62; refine HNX.out.mono ?_; rintro e w4 ⟨v, er, q, rfl, hMv, he1, he2⟩; have HMV := Lib.hid hMv; have HE1 := Lib.hid he1; have HE2 := Lib.hid he2; clear hMv he1 he2)
              all_goals
                (try go_wp2)
                go_meet
                exact ⟨_, _, _, rfl, rfl, Mv.drew.trans HMV.out, HE1.out, HE2.out⟩
            case rest =>
              obtain ⟨t, er, q4, rfl, rfl, HMV, HE1, HE2⟩ := hcut
              obtain ⟨w4, rfl⟩ : ∃ w4 : World, w4 = wc := ⟨_, rfl⟩
              clear HNX hin t0 t1
              have hst := sym_step ls ds M g L3
              have HSTEP := Lib.hid hst
              clear hst
              by_cases her : er = 0
              · obtain ⟨hr, hS4⟩ := HE2.out her
                have hadv := rNext_adv' ls HQ83.out hr
                have HRN := Lib.hid hr
                have HS4 := Lib.hid hS4
                have HADV4 := Lib.hid hadv
                clear hr hS4 hadv HE1 HE2
                subst her
                by_cases ht : t = 256
                · subst ht
                  have hR2k : R2 = .ok (L3, q4) := by
                    rw [← HG3.out.1, HSTEP.out, bind_val HRN.out]; rfl
                  have HR2K := Lib.hid hR2k
                  clear hR2k
                  go_wp2
                  go_roundg f
                  case measure => omega
                  case rel =>
                    exact ⟨l2, L3, q4, og3, fs2, fd2, rfl, rfl, HS4.out, HMI.out.trans HMV.out, HFI.out.mv (X := []) HMV.out, blkRel_next hl2 (HRK.out _ _ HR2K.out) (by have := HADV.out; have := HFF.out; have := HADV4.out; omega)⟩
                · have d256 : ((t : Int) == 256) = false := by simp; omega
                  have hI4 := HII.out.but HMV.out.but HNI.out
                  have t0 : w4.cell? ⟨wo.heap.size, 0, none⟩ = some (.pointer (some ⟨b1, 0, none⟩)) := hI4.cell 0
                  have t1 : w4.cell? ⟨wo.heap.size, 1, none⟩ = some (.pointer (some ⟨b2, 0, none⟩)) := hI4.cell 1
                  have hpr := produce_any (x := some ⟨b1, 0, none⟩) HS4.out HC2.out (HMV.out.keep HKI2.out) t ht
                  have HPR := Lib.hid hpr
                  have HI4 := Lib.hid hI4
                  have hrl4 := hI4.lt
                  have hg1 : symG ls ds M (g + 1) L3 s q3 = rBind (rProd ds M t L3) (symG ls ds M g) s q4 := by
                    rw [HSTEP.out, bind_val HRN.out, if_neg ht]
                  have HG1 := Lib.hid hg1
                  clear hpr hI4 hg1 ht
                  go_wp2_with fail
                  refine HPR.out.mono ?_
                  rintro e w5 ⟨er, L5, q5, og5, rfl, hMv5, he1, he2⟩
                  have HM5 := Lib.hid hMv5
                  have HE1 := Lib.hid he1
                  have HE2 := Lib.hid he2
                  clear hMv5 he1 he2 t0 t1
                  by_cases her : er = 0
                  · obtain ⟨hr5, hS5⟩ := HE2.out her
                    have hpa := rProd_adv ds M t L3 s q4 L5 q5 HADV4.out.2 hr5
                    have hg5 : symG ls ds M g L5 s q5 = R2 := by
                      rw [← HG3.out.1, HG1.out]; exact (bind_val hr5).symm
                    have HG5 := Lib.hid hg5
                    have HPA := Lib.hid hpa
                    have HS5 := Lib.hid hS5
                    clear hr5 hS5 hpa hg5 HE1 HE2
                    subst her
                    go_wp2
                    go_roundg g
                    case measure => omega
                    case rel =>
                      have m5 := HMV.out.trans HM5.out
                      refine ⟨L5, q5, og5, rfl, HS5.out, HMI.out.trans m5, HFI.out.mv (X := []) m5, m5.keep HKI1.out, m5.keep HKI2.out, HI4.out.but HM5.out.but (HMV.out.notin HNI.out hrl), m5.notin HNI.out hrl, ⟨HG5.out, ?_⟩, ?_⟩
                      · have := HG3.out.2; have := HADV4.out; have := HPA.out; omega
                      · have := HADV4.out; have := HPA.out; omega
                  · have d2 : (er != 0) = true := by simpa using her
                    have HER := Lib.hid her
                    have hR2k : R2 = .error er := by
                      rw [← HG3.out.1, HG1.out]; exact bind_err (HE1.out her)
                    have HR2K := Lib.hid hR2k
                    clear her hR2k
                    go_wp2
                    try rw [Exit.noGoto_ret]
                    go_ret
                    exact ⟨er, og5, rfl, HMI.out.trans (HMV.out.trans HM5.out), fun _ => HRE.out _ HR2K.out, fun e => absurd e HER.out⟩
              · have d2 : (er != 0) = true := by simpa using her
                have HER := Lib.hid her
                have hR2k : R2 = .error er := by
                  rw [← HG3.out.1, HSTEP.out]; exact bind_err (HE1.out her)
                have HR2K := Lib.hid hR2k
                clear her hR2k
                go_wp2
                try rw [Exit.noGoto_ret]
                go_ret
                exact ⟨er, og3, rfl, HMI.out.trans HMV.out, fun _ => HRE.out _ HR2K.out, fun e => absurd e HER.out⟩
      · have d2 : (er != 0) = true := by simpa using her
        have HER := Lib.hid her
        clear her
        go_wp2
        try rw [Exit.noGoto_ret]
        go_ret
        refine ⟨er, og2, rfl, ⟨(HM2.out.but.setCell (.inr hwr) _).setCell (.inr hwr) _, HM2.out.own⟩, fun _ => ?_, fun e => absurd e HER.out⟩
        rw [← HRR.out, HBL.out]; exact bind_err (HE1.out HER.out)
end
end Go.Proofs.YtghegmbafbpnjaaGreatDoor
namespace Go.Proofs.YtghegmbafbpnjaaGreatDoor
set_option maxRecDepth 100000
open Go Go.RowKit
section
variable {w : World}
def tell (r : List UInt8 × Nat × Int) : Ending := .returned (.tuple #[.string ⟨r.1.toArray⟩, .int .i64 (r.2.1 : Nat), .int .i64 r.2.2])
set_option maxHeartbeats 1000000 in
/-- The program's Inflate is the plain one. -/
theorem inflate_any (s : ByteArray) (M : Int) (hs : s.size ≤ 140737489403904) (hM : M ≤ 1099511627776) (hG : GL w) :
    Calls Tryz.prog 16 #[.string s, .int .i64 M] w fun e w' => e = tell (inflT s M) ∧ But [] w w' := by
  go_enter Tryz.func16, Tryz.ntmps16
  go_wp2_with fail
  refine (bits_read _ _).mono ?_
  rintro e w1 ⟨rfl, hR, hB1, hs1⟩
  have hb : w1.heap.size = w.heap.size + 2 := hs1
  have hI := Is.fresh w1 48 #[.pointer (some ⟨w.heap.size + 1, 0, none⟩), .slice none 0 0, .int .i64 M, .pointer none, .pointer none]
  rw [hb] at hI
  have hBa := hB1.alloc (.cells #[.pointer (some ⟨w.heap.size + 1, 0, none⟩), .slice none 0 0, .int .i64 M, .pointer none, .pointer none] 48)
  have hS : SS (w1.alloc (.cells #[.pointer (some ⟨w.heap.size + 1, 0, none⟩), .slice none 0 0, .int .i64 M, .pointer none, .pointer none] 48)) (w.heap.size + 2) (w.heap.size + 1) w.heap.size none s 0 M [] none none :=
    ⟨hR.but (but_alloc w1 _) (by simp) (by simp), by omega, by omega, hs, hM, by simp; omega, .slice none 0 0, hI, World.ownsRow_nil _ _ _ _, rfl⟩
  have hKG : Keep (Foot (w.heap.size + 2) (w.heap.size + 1) none) (w1.alloc (.cells #[.pointer (some ⟨w.heap.size + 1, 0, none⟩), .slice none 0 0, .int .i64 M, .pointer none, .pointer none] 48)) GL :=
    (show Keep [] w GL from fun w' hw => hG.but hw).step hBa (fun i hi => by
      unfold Foot at hi
      simp at hi
      right; omega)
  have hbk := blocks_any (F := 8 * s.size + 1) (f0 := 8 * s.size + 1) hS hKG (.inl ⟨rfl, rfl⟩) (by omega) (by omega)
  have HBK := Lib.hid hbk
  have HBA := Lib.hid hBa
  have hfr : ∀ i ∈ Foot (w.heap.size + 2) (w.heap.size + 1) none, w.heap.size ≤ i := fun i hi => by
    unfold Foot at hi
    simp at hi
    omega
  have HFR := Lib.hid hfr
  clear hR hB1 hI hBa hS hKG hbk hG hs1 hfr
  go_wp2_with fail
  refine HBK.out.mono ?_
  rintro e w2 ⟨er, og2, rfl, hMv, he1, he2⟩
  have hBf := HBA.out.fresh hMv.but HFR.out
  have HBF := Lib.hid hBf
  have HE1 := Lib.hid he1
  have HE2 := Lib.hid he2
  clear hMv he1 he2 hBf HBK HBA
  by_cases her : er = 0
  · obtain ⟨L, q, fs, fd, hr, hS⟩ := HE2.out her
    obtain ⟨A, c, hi, hown, _⟩ := hS.at
    have k0 : w2.cell? ⟨w.heap.size + 2, 0, none⟩ = some (.pointer (some ⟨w.heap.size + 1, 0, none⟩)) := hi.cell 0
    have k1 : w2.cell? ⟨w.heap.size + 2, 1, none⟩ = some (.slice A L.length c) := hi.cell 1
    have hcv : ∀ n, (convert 40 9 (.slice A L.length c)).run Tryz.prog (w2.drewN n) = .ok (.string ⟨L.toArray⟩) (w2.drewN n) := fun n => own_text (ownsRow_but hown ((But.refl [] w2).drewN n) (by simp))
    have hlf := fun n => (hS.drewN n).rs.left_w (by omega)
    have hq8 := hS.rs.1
    obtain ⟨x, hx⟩ : ∃ x, x = 8 * s.size - q := ⟨_, rfl⟩
    rw [← hx] at hlf
    obtain ⟨y, hy⟩ : ∃ y, y = x / 8 := ⟨_, rfl⟩
    obtain ⟨z, hz⟩ : ∃ z, z = (q + 7) / 8 := ⟨_, rfl⟩
    have a1 : (x : Int) / 8 = (y : Int) := by omega
    have a2 : IntKind.i64.wrap (y : Int) = (y : Int) := IntWalk.i64_in _ (by omega)
    have a3 : (s.size : Int) - (y : Int) = (z : Int) := by omega
    have a4 : IntKind.i64.wrap (z : Int) = (z : Int) := IntWalk.i64_in _ (by omega)
    have HR := Lib.hid hr
    have HL := Lib.hid hlf
    have HCV := Lib.hid hcv
    have hcv0 := hcv 0
    have HZ := Lib.hid hz
    clear hr hS hi hown hlf hx hy hz hq8 HE1 HE2 hcv hcv0 HFR
    subst her
    have hcv := HCV.out
    go_wp2
    go_quiet ((go_at_call 30; exact Calls.quiet_of (HL.out _)))
    go_wp2
    go_ret3
    exact ⟨by rw [inflT_ok HR.out, ← HZ.out]; rfl, HBF.out.drewN nq⟩
  · have d2 : (er != 0) = true := by simpa using her
    have HER := Lib.hid her
    clear her
    go_wp2
    go_ret3
    exact ⟨by rw [inflT_err (HE1.out HER.out)]; rfl, HBF.out⟩
end
end Go.Proofs.YtghegmbafbpnjaaGreatDoor
