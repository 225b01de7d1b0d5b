/- Several texts in one: LcP (what PixelImages, PixelRows, PixelSame reach of them). -/
import Derived.Test.YtfiedoejdikcgaaDoorQ01
import Derived.Test.YtfiedoejdikcgaaDoorQ02
import Derived.Test.YtfiedoejdikcgaaDoorQ03
import Derived.Test.YtfiedoejdikcgaaDoorQ05
import Derived.Test.YtfiedoejdikcgaaDoorQ06
import Derived.Test.YtfiedoejdikcgaaDoorQ07
import Derived.Test.YtfiedoejdikcgaaDoorQ08
import Derived.Below
import Derived.BigQuiet
import Derived.BigRegion
import Derived.Deep.AppendLies
import Derived.Deep.CutBlock
import Derived.Deep.CutRange
import Derived.Deep.DeepCutAuto
import Derived.Deep.Draws
import Derived.Deep.QuietTactic
import Derived.Deep.RegionLaw
import Derived.Deep.RegionWith
import Derived.Handy
import Derived.Laws.BitsAllLaws
import Derived.Laws.BitsLemmas
import Derived.Laws.OwnMore
import Derived.Laws.Rows
import Derived.Laws.StructEq
import Derived.Lib.Hide
import Derived.LoopIn
import Derived.LoopNIn
import Derived.Maps.AppendAt
import Derived.OrdersHeld
import Derived.Outline
import Derived.OwnWalk
import Derived.OwnWalkIn
import Derived.RangeFuncBound
import Derived.RangeFuncCalls
import Derived.RangeFuncLeaves
import Derived.RangeFuncNested
import Derived.RegionTactic
import Derived.Shelf.Abstract
import Derived.Shelf.RegionOpen
import Derived.Sort.CutIn
import Derived.TacticsInMore
import Derived.Test.YtfiedoejdikcgaaDoorChecked
import Derived.WalkKit
set_option maxRecDepth 100000
set_option linter.unusedVariables false
set_option maxRecDepth 100000
set_option linter.unusedVariables false
namespace Go.Proofs.YtfiedoejdikcgaaDoor
set_option maxRecDepth 100000
open Go Go.RowKit Go.Shelf
attribute [local go_sem] Oper.semAt_some
/-- What the program's variable holds. -/
def placesL : List PassL := plainL ++ lacedL
def GP (w : World) : Prop := ∀ i p, placesL[i]? = some p → (w.cell? ⟨0, i * 4, none⟩ = some (.int .i64 (p.x : Nat)) ∧ w.cell? ⟨0, i * 4 + 1, none⟩ = some (.int .i64 (p.y : Nat)) ∧ w.cell? ⟨0, i * 4 + 2, none⟩ = some (.int .i64 (p.dx : Nat)) ∧ w.cell? ⟨0, i * 4 + 3, none⟩ = some (.int .i64 (p.dy : Nat))) ∧ 0 < w.heap.size
theorem GP.but {w w' : World} (h : GP w) (hB : But [] w w') : GP w' := fun i p hp => by
  obtain ⟨⟨h0, h1, h2, h3⟩, h4⟩ := h i p hp
  exact ⟨⟨hB.cell h0 (by simp), hB.cell h1 (by simp), hB.cell h2 (by simp), hB.cell h3 (by simp)⟩, Nat.lt_of_lt_of_le h4 hB.size⟩
/-- The blocks of R are as they were, and no fewer. -/
def KeptS (R : Nat → Prop) (W W' : World) : Prop := W.heap.size ≤ W'.heap.size ∧ ∀ b, R b → W'.heap[b]? = W.heap[b]?
theorem KeptS.trans {R : Nat → Prop} {A B C : World} (h : KeptS R A B) (k : KeptS R B C) : KeptS R A C := ⟨Nat.le_trans h.1 k.1, fun b hb => (k.2 b hb).trans (h.2 b hb)⟩
theorem KeptS.cell {R : Nat → Prop} {A B : World} (h : KeptS R A B) {a : Addr} (ha : R a.block) : B.cell? a = A.cell? a := World.cell?_of_block (h.2 a.block ha)
theorem KeptS.is {R : Nat → Prop} {A B : World} (h : KeptS R A B) {b : Nat} {t : TypeId} {cs : Array Value} (hI : Is A b t cs) (hb : R b) : Is B b t cs := (h.2 b hb).trans hI
theorem KeptS.but {R : Nat → Prop} {W A B : World} (h : KeptS R W A) (hR : ∀ b, R b → b < W.heap.size) (k : But [] A B) : KeptS R W B :=
  ⟨Nat.le_trans h.1 k.size, fun b hb => (k.block b (Nat.lt_of_lt_of_le (hR b hb) h.1) (by simp)).trans (h.2 b hb)⟩
theorem callsIn_any {F : Fence} (hF : F = Fence.wide) {n : Nat} {P : Program} {f : FuncId} {args : Array Value} {w : World} {R : Ending → World → Prop} (h : Calls P f args w R) : CallsIn F n P f args w R := by rw [hF]; exact callsIn_wide.2 h
/-- The passes that are told, in their order. -/
def encP (M : List P6) (k : Nat) : Array Value := #[p6Val (M.getD k (0, 0, 0, 0, 0, 0))]
theorem encP_at {M : List P6} {k : Nat} {x y dx dy mW mH : Nat} (h : M[k]? = some (x, y, dx, dy, mW, mH)) : encP M k = #[.agg #[.int .i64 x, .int .i64 y, .int .i64 dx, .int .i64 dy, .int .i64 mW, .int .i64 mH]] := by
  unfold encP
  rw [List.getD_eq_getElem?_getD, h]
  rfl
theorem six_but {w v : World} {b : Nat} {x0 x1 x2 x3 x4 x5 : Value} (h : But [] w v) (hb : w.heap.size ≤ b) : But [] w ((((((v.setCell ⟨b, 0, none⟩ x0).setCell ⟨b, 1, none⟩ x1).setCell ⟨b, 2, none⟩ x2).setCell ⟨b, 3, none⟩ x3).setCell ⟨b, 4, none⟩ x4).setCell ⟨b, 5, none⟩ x5) :=
  (((((h.setCell (.inr hb) x0).setCell (.inr hb) x1).setCell (.inr hb) x2).setCell (.inr hb) x3).setCell (.inr hb) x4).setCell (.inr hb) x5
theorem six_is {v : World} {b : Nat} {t : TypeId} {y0 y1 y2 y3 y4 y5 x0 x1 x2 x3 x4 x5 : Value} (h : Is v b t #[y0, y1, y2, y3, y4, y5]) : Is ((((((v.setCell ⟨b, 0, none⟩ x0).setCell ⟨b, 1, none⟩ x1).setCell ⟨b, 2, none⟩ x2).setCell ⟨b, 3, none⟩ x3).setCell ⟨b, 4, none⟩ x4).setCell ⟨b, 5, none⟩ x5) b t #[x0, x1, x2, x3, x4, x5] :=
  (((((h.put 0 x0).put 1 x1).put 2 x2).put 3 x3).put 4 x4).put 5 x5
theorem takenP_pre {w h : Nat} {B : List PassL} {i : Nat} {p : PassL} (hp : B[i]? = some p) (hs : someP w h p = true) : (takenP w h B B.length)[(takenP w h B i).length]? = some (p6 w h p) := by
  have h1 : takenP w h B B.length = takenP w h B (i + 1) ++ ((B.drop (i + 1)).filter (someP w h)).map (p6 w h) := by
    unfold takenP
    rw [List.take_length, ← List.map_append, ← List.filter_append, List.take_append_drop]
  rw [h1, takenP_next hp, if_pos hs]
  simp
set_option maxHeartbeats 1000000 in
theorem passes_any (w : World) (v : Value) {a b d c l : Int} (hv : v = .agg #[.int .i64 a, .int .i64 b, .int .i64 d, .int .i64 c, .int .i64 l]) :
    Calls Tryd.prog 42 #[v] w fun e w' => e = .returned (.func (.func 60) #[] #[.pointer (some ⟨w.heap.size, 0, none⟩)]) ∧ w' = w.alloc (.cells #[.int .i64 a, .int .i64 b, .int .i64 d, .int .i64 c, .int .i64 l] 29) := by
  subst hv
  go_enter Tryd.func42, Tryd.ntmps42
  go_wp2
  go_ret
  exact ⟨rfl, rfl⟩
set_option maxHeartbeats 4000000 in
theorem passes_closure {F : Fence} (hFW : F = Fence.wide) (hFn : F.fn 60) (hro : F.round = none) {m : Nat} (hm : 1 ≤ m) {g1 : Nat} {a b d c l : Int} {R : Nat → Prop} {w : World} (hI : Is w g1 29 #[.int .i64 a, .int .i64 b, .int .i64 d, .int .i64 c, .int .i64 l]) (hG : GP w) (hR1 : R g1) (hR2 : R 0) (hRl : ∀ b, R b → b < w.heap.size) :
    RoundsB F m Tryd.prog 60 #[.pointer (some ⟨g1, 0, none⟩)] (encP (passA a b d c l)) (KeptS R) (passA a b d c l).length w := by
  intro l0 J W hW hJs hY hJ
  have hE := fun v => pright_h v a b d c l
  have f21 : F.fn 18 := by rw [hFW]; trivial
  have f25 : F.fn 61 := by rw [hFW]; trivial
  have HFW := Lib.hid hFW
  have HRL : Hid (∀ b, R b → b < W.heap.size) := Lib.hid fun b hb => Nat.lt_of_lt_of_le (hRl b hb) hW.size
  have HI : Hid (Is W g1 29 #[.int .i64 a, .int .i64 b, .int .i64 d, .int .i64 c, .int .i64 l]) := Lib.hid (hI.below hW hI.lt)
  have HG : Hid (∀ i p, placesL[i]? = some p → (W.cell? ⟨0, i * 4, none⟩ = some (.int .i64 (p.x : Nat)) ∧ W.cell? ⟨0, i * 4 + 1, none⟩ = some (.int .i64 (p.y : Nat)) ∧ W.cell? ⟨0, i * 4 + 2, none⟩ = some (.int .i64 (p.dx : Nat)) ∧ W.cell? ⟨0, i * 4 + 3, none⟩ = some (.int .i64 (p.dy : Nat)))) := Lib.hid fun i p hp => by
    obtain ⟨⟨h0, h1, h2, h3⟩, h4⟩ := hG i p hp
    exact ⟨(hW.cell (p := ⟨_, _, none⟩) h4).trans h0, (hW.cell (p := ⟨_, _, none⟩) h4).trans h1, (hW.cell (p := ⟨_, _, none⟩) h4).trans h2, (hW.cell (p := ⟨_, _, none⟩) h4).trans h3⟩
  have HR1 := Lib.hid hR1
  have HR2 := Lib.hid hR2
  clear hFW hW hI hG hR1 hR2 hRl
  by_cases h0 : rightH a b d c l ≠ 0
  · obtain ⟨er, her⟩ : ∃ x, x = rightH a b d c l := ⟨_, rfl⟩
    rw [passA_bad h0] at hY ⊢
    have h1 : er = 5 ∨ er = 24 := by rcases rightH_cases a b d c l with h | h | h <;> simp_all
    simp only [← her] at hE
    have HE := Lib.hid hE
    have HJS := Lib.hid hJs
    have HJ := Lib.hid hJ
    clear hE her h0 hY hJs hJ
    rcases h1 with rfl | rfl
    · refine callsIn_of_wp Tryd.func60 rfl hFn ?_ hro
      simp only [Tryd.ntmps60, List.size_toArray, List.length_cons, List.length_nil, Nat.reduceAdd, Nat.reduceSub, Array.replicate_succ, Array.replicate_zero, List.push_toArray, List.append_toArray, List.nil_append, List.cons_append]
      have c0 := HI.out.cell 0
      have c1 := HI.out.cell 1
      have c2 := HI.out.cell 2
      have c3 := HI.out.cell 3
      have c4 := HI.out.cell 4
      gi_wp2_with (gi_at_call 18; refine (callsIn_any HFW.out (HE.out _)).mono ?_; rintro e w1 ⟨rfl, hB1⟩; have HB1 := Lib.hid hB1; clear hB1)
      exact bodyPost_ret (results_none rfl _ _ _) rfl ⟨⟨_, rfl⟩, HJS.out _ _ _ HJ.out HB1.out⟩
    · refine callsIn_of_wp Tryd.func60 rfl hFn ?_ hro
      simp only [Tryd.ntmps60, List.size_toArray, List.length_cons, List.length_nil, Nat.reduceAdd, Nat.reduceSub, Array.replicate_succ, Array.replicate_zero, List.push_toArray, List.append_toArray, List.nil_append, List.cons_append]
      have c0 := HI.out.cell 0
      have c1 := HI.out.cell 1
      have c2 := HI.out.cell 2
      have c3 := HI.out.cell 3
      have c4 := HI.out.cell 4
      gi_wp2_with (gi_at_call 18; refine (callsIn_any HFW.out (HE.out _)).mono ?_; rintro e w1 ⟨rfl, hB1⟩; have HB1 := Lib.hid hB1; clear hB1)
      exact bodyPost_ret (results_none rfl _ _ _) rfl ⟨⟨_, rfl⟩, HJS.out _ _ _ HJ.out HB1.out⟩
  have h0 : rightH a b d c l = 0 := by simpa using h0
  obtain ⟨⟨a1, a2⟩, ⟨b1, b2⟩, hab, hl, _⟩ := rightH_ok h0
  obtain ⟨H0, rfl⟩ : ∃ n : Nat, a = (n : Int) := ⟨a.toNat, by omega⟩
  obtain ⟨H1, rfl⟩ : ∃ n : Nat, b = (n : Int) := ⟨b.toNat, by omega⟩
  rw [h0] at hE
  have HE := Lib.hid hE
  clear hab
  rcases hl with hl | hl
  · subst hl
    obtain ⟨B, hB⟩ : ∃ B, B = plainL := ⟨_, rfl⟩
    have hBl : B.length = 1 := by rw [hB]; rfl
    have hBs : ∀ p, p ∈ B → (p.x < p.dx ∧ p.y < p.dy) ∧ (p.dx ≤ 8 ∧ p.dy ≤ 8) := by rw [hB]; decide
    have hBp : ∀ (i : Nat) p, B[i]? = some p → placesL[0 + i]? = some p := by
      intro i p hp
      rw [hB] at hp
      have hi := (List.getElem?_eq_some_iff.1 hp).1
      rw [Nat.zero_add]; unfold placesL; rw [List.getElem?_append_left hi]; exact hp
    have HM : Hid (passA (H0 : Nat) (H1 : Nat) d c 0 = takenP H0 H1 B B.length) := Lib.hid (by rw [passA_ok h0]; unfold takenP; rw [List.take_length, hB]; rfl)
    rw [HM.out] at hY ⊢
    have HBL := Lib.hid hBl
    have HBS := Lib.hid hBs
    have HBP := Lib.hid hBp
    have HY := Lib.hid hY
    have HJS := Lib.hid hJs
    have HJ0 : Hid (J (takenP H0 H1 B 0).length W) := Lib.hid hJ
    clear hB hBl hBs hBp hY hJs hJ h0 hE
    refine callsIn_of_wp Tryd.func60 rfl hFn ?_ hro
    simp only [Tryd.ntmps60, List.size_toArray, List.length_cons, List.length_nil, Nat.reduceAdd, Nat.reduceSub, Array.replicate_succ, Array.replicate_zero, List.push_toArray, List.append_toArray, List.nil_append, List.cons_append]
    have c0 := HI.out.cell 0
    have c1 := HI.out.cell 1
    have c2 := HI.out.cell 2
    have c3 := HI.out.cell 3
    have c4 := HI.out.cell 4
    gi_wp2_with (gi_at_call 18; refine (callsIn_any HFW.out (HE.out _)).mono ?_; rintro e w1 ⟨rfl, hB1⟩; have HJ1 := Lib.hid (HJS.out _ _ _ HJ0.out hB1); have HK1 : Hid (KeptS R W w1) := Lib.hid (KeptS.but (R := R) ⟨Nat.le_refl _, fun _ _ => rfl⟩ HRL.out hB1); have hI1 := HI.out.but hB1 (by simp); clear hB1 c0 c1 c2 c3 c4 HJ0; have c4 := hI1.cell 4; clear hI1)
    clear c4
    gi_loopw [5] (fun iv wr => ∃ j : Nat, j ≤ 1 ∧ iv = .int .i64 ((0 + j : Nat) : Int) ∧ Hid (J (takenP H0 H1 B j).length wr) ∧ Hid (KeptS R W wr)) (fun iv _ => 1 - (intOf iv).toNat)
    case atStart => exact ⟨0, Nat.zero_le _, rfl, HJ1, HK1⟩
    case round =>
      clear HJ1 HK1
      obtain ⟨j, hj, rfl, HJ, HK⟩ := hrel
      by_cases hlt : j < 1
      · obtain ⟨p, hp⟩ : ∃ p, B[j]? = some p := ⟨_, List.getElem?_eq_getElem (by have := HBL.out; omega)⟩
        have hpm := HBS.out p (List.mem_of_getElem? hp)
        have hpc := HG.out _ p (HBP.out j p hp)
        obtain ⟨k0, k1, k2, k3⟩ := hpc
        replace k0 := (HK.out.cell (a := ⟨_, _, none⟩) HR2.out).trans k0
        replace k1 := (HK.out.cell (a := ⟨_, _, none⟩) HR2.out).trans k1
        replace k2 := (HK.out.cell (a := ⟨_, _, none⟩) HR2.out).trans k2
        replace k3 := (HK.out.cell (a := ⟨_, _, none⟩) HR2.out).trans k3
        have HNX := Lib.hid (takenP_next (w := H0) (h := H1) hp)
        have HPRE := Lib.hid (takenP_pre (w := H0) (h := H1) hp)
        obtain ⟨x, y, dx, dy⟩ := p
        obtain ⟨⟨s1, s2⟩, s3, s4⟩ := hpm
        dsimp only at s1 s2 s3 s4 k0 k1 k2 k3
        obtain ⟨mW, hmW⟩ : ∃ m, m = manyL H0 x dx := ⟨_, rfl⟩
        obtain ⟨mH, hmH⟩ : ∃ m, m = manyL H1 y dy := ⟨_, rfl⟩
        have HPA : Hid (∀ v, Calls Tryd.prog 61 #[.agg #[.int .i64 x, .int .i64 y, .int .i64 dx, .int .i64 dy], .agg #[.int .i64 H0, .int .i64 H1, .int .i64 d, .int .i64 c, .int .i64 0]] v fun e w' => e = .returned (.agg #[.int .i64 x, .int .i64 y, .int .i64 dx, .int .i64 dy, .int .i64 mW, .int .i64 mH]) ∧ But [] v w') := Lib.hid fun v => by rw [hmW, hmH]; exact ppassAt_any v s1 s2 s3 s4 (by omega) (by omega)
        have HSO : Hid (someP H0 H1 ⟨x, y, dx, dy⟩ = decide (0 < mW ∧ 0 < mH)) := Lib.hid (by rw [hmW, hmH]; rfl)
        have HP6 : Hid (p6 H0 H1 ⟨x, y, dx, dy⟩ = (x, y, dx, dy, mW, mH)) := Lib.hid (by rw [hmW, hmH]; rfl)
        have hgb : 0 < wr.heap.size := Nat.lt_of_lt_of_le (HRL.out _ HR2.out) HK.out.1
        have HII := Lib.hid (HK.out.is HI.out HR1.out)
        clear hmW hmH s1 s2 s3 s4 hp
        obtain ⟨i, hi⟩ : ∃ i, i = 0 + j := ⟨_, rfl⟩
        rw [← hi] at k0 k1 k2 k3 ⊢
        have i0 : (0 : Int) ≤ (i : Int) := by omega
        have i1 : (i : Int) < 8 := by omega
        have i2 : (i : Int) < 1 := by omega
        have HIE := Lib.hid hi
        clear hi
        gi_upto_region 7 with (fail)
        gi_cut [6] from 19 (fun v wx => ∃ g, v = .pointer (some ⟨g, 0, none⟩) ∧ Hid (But [] wr wx) ∧ Hid (Is wx g 52 #[.int .i64 x, .int .i64 y, .int .i64 dx, .int .i64 dy, .int .i64 mW, .int .i64 mH]))
        case first =>
          have hmix : Tryd.prog.follows .mixedOrders = true := by kernel_rfl
          have z0 : wr.drew.cell? ⟨0, i * 4, none⟩ = some (.int .i64 x) := k0
          have z1 : wr.drew.cell? ⟨0, i * 4 + 1, none⟩ = some (.int .i64 y) := k1
          have z2 : wr.drew.cell? ⟨0, i * 4 + 2, none⟩ = some (.int .i64 dx) := k2
          have z3 : wr.drew.cell? ⟨0, i * 4 + 3, none⟩ = some (.int .i64 dy) := k3
          have y0 := HII.out.drew.cell 0
          have y1 := HII.out.drew.cell 1
          have y2 := HII.out.drew.cell 2
          have y3 := HII.out.drew.cell 3
          have y4 := HII.out.drew.cell 4
          have hgl : g1 < wr.heap.size := HII.out.lt
          have x0 := HII.out.cell 0
          have x1 := HII.out.cell 1
          have x2 := HII.out.cell 2
          have x3 := HII.out.cell 3
          have x4 := HII.out.cell 4
          gi_region_with_o (gi_at_call 61; refine (callsIn_any HFW.out (HPA.out _)).mono ?_; rintro e w6 ⟨rfl, hB6⟩; first | (have hI6 := ((Is.fresh wr 52 #[.int .i64 0, .int .i64 0, .int .i64 0, .int .i64 0, .int .i64 0, .int .i64 0]).drew).but hB6 (by simp); have HB6 := Lib.hid ((((But.refl [] wr).alloc _).drew).trans hB6); have s0 := hI6.cell 0; have s1 := hI6.cell 1; have s2 := hI6.cell 2; have s3 := hI6.cell 3; have s4 := hI6.cell 4; have s5 := hI6.cell 5; have t0 := hI6.free 0; have t1 := hI6.free 1; have t2 := hI6.free 2; have t3 := hI6.free 3; have t4 := hI6.free 4; have t5 := hI6.free 5; have HI6 := Lib.hid hI6; clear hI6 hB6) | (have HB6 := Lib.hid (((But.refl [] wr).drew).trans hB6); clear hB6))
          all_goals gi_wp2
          all_goals gi_meet
          all_goals first
            | (have h6 := HI6.out; exact ⟨_, rfl, Lib.hid (six_but HB6.out (Nat.le_refl _)), Lib.hid (six_is h6)⟩)
            | exact ⟨_, rfl, Lib.hid (HB6.out.alloc _), Lib.hid (Is.fresh _ _ _)⟩
        case rest =>
        clear k0 k1 k2 k3 i1
        obtain ⟨g, rfl, HBx, HIx⟩ := hcut
        have HJ2 := Lib.hid (HJS.out _ _ _ HJ.out HBx.out)
        have HK2 := Lib.hid (HK.out.but HRL.out HBx.out)
        have q4 := HIx.out.cell 4
        have q5 := HIx.out.cell 5
        clear HII HBx HJ HK hgb HPA
        by_cases hm : 0 < mW ∧ 0 < mH
        · have hs := HSO.out.trans (decide_eq_true hm)
          have hpre := HPRE.out hs
          rw [HP6.out] at hpre
          have hy := HY.out _ _ HJ2.out (List.getElem?_eq_some_iff.1 hpre).1
          rw [encP_at hpre] at hy
          have HN : Hid (takenP H0 H1 B (j + 1) = takenP H0 H1 B j ++ [(x, y, dx, dy, mW, mH)]) := Lib.hid (by rw [HNX.out, if_pos hs, HP6.out])
          obtain ⟨fn, tmps, assign, body, hy, hR⟩ := hy
          have q0 := HIx.out.cell 0
          have q1 := HIx.out.cell 1
          have q2 := HIx.out.cell 2
          have q3 := HIx.out.cell 3
          obtain ⟨hm1, hm2⟩ := hm
          clear hs hpre HSO HPRE HP6 HNX
          gi_wp2
          refine hR.mono ?_
          rintro e W3 ⟨rfl, hJ3, hk3⟩
          have HJ3 : Hid (J (takenP H0 H1 B (j + 1)).length W3) := Lib.hid (by rw [HN.out, List.length_append]; exact hJ3)
          have HK3 := Lib.hid (HK2.out.trans hk3)
          clear hJ3 hk3 hR hy
          gi_wp2
          go_roundw
          case rel => exact ⟨j + 1, by omega, by congr 1; have := HIE.out; omega, HJ3, HK3⟩
          case measure => have := HIE.out; simp [intOf] <;> omega
        · have hs := HSO.out.trans (decide_eq_false hm)
          have HJ3 : Hid (J (takenP H0 H1 B (j + 1)).length wc) := Lib.hid (by rw [HNX.out, if_neg (by rw [hs]; decide), List.append_nil]; exact HJ2.out)
          clear hs HSO HPRE HP6 HNX
          obtain ⟨wv, rfl⟩ : ∃ z, z = wc := ⟨_, rfl⟩
          by_cases hm1 : 0 < mW
          · have hm2 : ¬ 0 < mH := fun h => hm ⟨hm1, h⟩
            clear hm
            gi_wp2
            refine ⟨(fun f hf => nomatch hf), ?_⟩
            gi_wp2
            go_roundw
            case rel => exact ⟨j + 1, by omega, by congr 1; have := HIE.out; omega, HJ3, HK2⟩
            case measure => have := HIE.out; simp [intOf] <;> omega
          · clear hm
            gi_wp2
            refine ⟨(fun f hf => nomatch hf), ?_⟩
            gi_wp2
            go_roundw
            case rel => exact ⟨j + 1, by omega, by congr 1; have := HIE.out; omega, HJ3, HK2⟩
            case measure => have := HIE.out; simp [intOf] <;> omega
      · obtain rfl : j = 1 := by omega
        gi_wp2
        go_end0
        exact ⟨⟨_, rfl⟩, by rw [HBL.out]; exact HJ.out⟩
  · subst hl
    obtain ⟨B, hB⟩ : ∃ B, B = lacedL := ⟨_, rfl⟩
    have hBl : B.length = 7 := by rw [hB]; rfl
    have hBs : ∀ p, p ∈ B → (p.x < p.dx ∧ p.y < p.dy) ∧ (p.dx ≤ 8 ∧ p.dy ≤ 8) := by rw [hB]; decide
    have hBp : ∀ (i : Nat) p, B[i]? = some p → placesL[1 + i]? = some p := by
      intro i p hp
      rw [hB] at hp
      have hi := (List.getElem?_eq_some_iff.1 hp).1
      rw [Nat.add_comm]; exact hp
    have HM : Hid (passA (H0 : Nat) (H1 : Nat) d c 1 = takenP H0 H1 B B.length) := Lib.hid (by rw [passA_ok h0]; unfold takenP; rw [List.take_length, hB]; rfl)
    rw [HM.out] at hY ⊢
    have HBL := Lib.hid hBl
    have HBS := Lib.hid hBs
    have HBP := Lib.hid hBp
    have HY := Lib.hid hY
    have HJS := Lib.hid hJs
    have HJ0 : Hid (J (takenP H0 H1 B 0).length W) := Lib.hid hJ
    clear hB hBl hBs hBp hY hJs hJ h0 hE
    refine callsIn_of_wp Tryd.func60 rfl hFn ?_ hro
    simp only [Tryd.ntmps60, List.size_toArray, List.length_cons, List.length_nil, Nat.reduceAdd, Nat.reduceSub, Array.replicate_succ, Array.replicate_zero, List.push_toArray, List.append_toArray, List.nil_append, List.cons_append]
    have c0 := HI.out.cell 0
    have c1 := HI.out.cell 1
    have c2 := HI.out.cell 2
    have c3 := HI.out.cell 3
    have c4 := HI.out.cell 4
    gi_wp2_with (gi_at_call 18; refine (callsIn_any HFW.out (HE.out _)).mono ?_; rintro e w1 ⟨rfl, hB1⟩; have HJ1 := Lib.hid (HJS.out _ _ _ HJ0.out hB1); have HK1 : Hid (KeptS R W w1) := Lib.hid (KeptS.but (R := R) ⟨Nat.le_refl _, fun _ _ => rfl⟩ HRL.out hB1); have hI1 := HI.out.but hB1 (by simp); clear hB1 c0 c1 c2 c3 c4 HJ0; have c4 := hI1.cell 4; clear hI1)
    clear c4
    gi_loopw [5] (fun iv wr => ∃ j : Nat, j ≤ 7 ∧ iv = .int .i64 ((1 + j : Nat) : Int) ∧ Hid (J (takenP H0 H1 B j).length wr) ∧ Hid (KeptS R W wr)) (fun iv _ => 8 - (intOf iv).toNat)
    case atStart => exact ⟨0, Nat.zero_le _, rfl, HJ1, HK1⟩
    case round =>
      clear HJ1 HK1
      obtain ⟨j, hj, rfl, HJ, HK⟩ := hrel
      by_cases hlt : j < 7
      · obtain ⟨p, hp⟩ : ∃ p, B[j]? = some p := ⟨_, List.getElem?_eq_getElem (by have := HBL.out; omega)⟩
        have hpm := HBS.out p (List.mem_of_getElem? hp)
        have hpc := HG.out _ p (HBP.out j p hp)
        obtain ⟨k0, k1, k2, k3⟩ := hpc
        replace k0 := (HK.out.cell (a := ⟨_, _, none⟩) HR2.out).trans k0
        replace k1 := (HK.out.cell (a := ⟨_, _, none⟩) HR2.out).trans k1
        replace k2 := (HK.out.cell (a := ⟨_, _, none⟩) HR2.out).trans k2
        replace k3 := (HK.out.cell (a := ⟨_, _, none⟩) HR2.out).trans k3
        have HNX := Lib.hid (takenP_next (w := H0) (h := H1) hp)
        have HPRE := Lib.hid (takenP_pre (w := H0) (h := H1) hp)
        obtain ⟨x, y, dx, dy⟩ := p
        obtain ⟨⟨s1, s2⟩, s3, s4⟩ := hpm
        dsimp only at s1 s2 s3 s4 k0 k1 k2 k3
        obtain ⟨mW, hmW⟩ : ∃ m, m = manyL H0 x dx := ⟨_, rfl⟩
        obtain ⟨mH, hmH⟩ : ∃ m, m = manyL H1 y dy := ⟨_, rfl⟩
        have HPA : Hid (∀ v, Calls Tryd.prog 61 #[.agg #[.int .i64 x, .int .i64 y, .int .i64 dx, .int .i64 dy], .agg #[.int .i64 H0, .int .i64 H1, .int .i64 d, .int .i64 c, .int .i64 1]] v fun e w' => e = .returned (.agg #[.int .i64 x, .int .i64 y, .int .i64 dx, .int .i64 dy, .int .i64 mW, .int .i64 mH]) ∧ But [] v w') := Lib.hid fun v => by rw [hmW, hmH]; exact ppassAt_any v s1 s2 s3 s4 (by omega) (by omega)
        have HSO : Hid (someP H0 H1 ⟨x, y, dx, dy⟩ = decide (0 < mW ∧ 0 < mH)) := Lib.hid (by rw [hmW, hmH]; rfl)
        have HP6 : Hid (p6 H0 H1 ⟨x, y, dx, dy⟩ = (x, y, dx, dy, mW, mH)) := Lib.hid (by rw [hmW, hmH]; rfl)
        have hgb : 0 < wr.heap.size := Nat.lt_of_lt_of_le (HRL.out _ HR2.out) HK.out.1
        have HII := Lib.hid (HK.out.is HI.out HR1.out)
        clear hmW hmH s1 s2 s3 s4 hp
        obtain ⟨i, hi⟩ : ∃ i, i = 1 + j := ⟨_, rfl⟩
        rw [← hi] at k0 k1 k2 k3 ⊢
        have i0 : (0 : Int) ≤ (i : Int) := by omega
        have i1 : (i : Int) < 8 := by omega
        have i2 : (i : Int) < 8 := by omega
        have HIE := Lib.hid hi
        clear hi
        gi_upto_region 7 with (fail)
        gi_cut [6] from 19 (fun v wx => ∃ g, v = .pointer (some ⟨g, 0, none⟩) ∧ Hid (But [] wr wx) ∧ Hid (Is wx g 52 #[.int .i64 x, .int .i64 y, .int .i64 dx, .int .i64 dy, .int .i64 mW, .int .i64 mH]))
        case first =>
          have hmix : Tryd.prog.follows .mixedOrders = true := by kernel_rfl
          have z0 : wr.drew.cell? ⟨0, i * 4, none⟩ = some (.int .i64 x) := k0
          have z1 : wr.drew.cell? ⟨0, i * 4 + 1, none⟩ = some (.int .i64 y) := k1
          have z2 : wr.drew.cell? ⟨0, i * 4 + 2, none⟩ = some (.int .i64 dx) := k2
          have z3 : wr.drew.cell? ⟨0, i * 4 + 3, none⟩ = some (.int .i64 dy) := k3
          have y0 := HII.out.drew.cell 0
          have y1 := HII.out.drew.cell 1
          have y2 := HII.out.drew.cell 2
          have y3 := HII.out.drew.cell 3
          have y4 := HII.out.drew.cell 4
          have hgl : g1 < wr.heap.size := HII.out.lt
          have x0 := HII.out.cell 0
          have x1 := HII.out.cell 1
          have x2 := HII.out.cell 2
          have x3 := HII.out.cell 3
          have x4 := HII.out.cell 4
          gi_region_with_o (gi_at_call 61; refine (callsIn_any HFW.out (HPA.out _)).mono ?_; rintro e w6 ⟨rfl, hB6⟩; first | (have hI6 := ((Is.fresh wr 52 #[.int .i64 0, .int .i64 0, .int .i64 0, .int .i64 0, .int .i64 0, .int .i64 0]).drew).but hB6 (by simp); have HB6 := Lib.hid ((((But.refl [] wr).alloc _).drew).trans hB6); have s0 := hI6.cell 0; have s1 := hI6.cell 1; have s2 := hI6.cell 2; have s3 := hI6.cell 3; have s4 := hI6.cell 4; have s5 := hI6.cell 5; have t0 := hI6.free 0; have t1 := hI6.free 1; have t2 := hI6.free 2; have t3 := hI6.free 3; have t4 := hI6.free 4; have t5 := hI6.free 5; have HI6 := Lib.hid hI6; clear hI6 hB6) | (have HB6 := Lib.hid (((But.refl [] wr).drew).trans hB6); clear hB6))
          all_goals gi_wp2
          all_goals gi_meet
          all_goals first
            | (have h6 := HI6.out; exact ⟨_, rfl, Lib.hid (six_but HB6.out (Nat.le_refl _)), Lib.hid (six_is h6)⟩)
            | exact ⟨_, rfl, Lib.hid (HB6.out.alloc _), Lib.hid (Is.fresh _ _ _)⟩
        case rest =>
        clear k0 k1 k2 k3 i1
        obtain ⟨g, rfl, HBx, HIx⟩ := hcut
        have HJ2 := Lib.hid (HJS.out _ _ _ HJ.out HBx.out)
        have HK2 := Lib.hid (HK.out.but HRL.out HBx.out)
        have q4 := HIx.out.cell 4
        have q5 := HIx.out.cell 5
        clear HII HBx HJ HK hgb HPA
        by_cases hm : 0 < mW ∧ 0 < mH
        · have hs := HSO.out.trans (decide_eq_true hm)
          have hpre := HPRE.out hs
          rw [HP6.out] at hpre
          have hy := HY.out _ _ HJ2.out (List.getElem?_eq_some_iff.1 hpre).1
          rw [encP_at hpre] at hy
          have HN : Hid (takenP H0 H1 B (j + 1) = takenP H0 H1 B j ++ [(x, y, dx, dy, mW, mH)]) := Lib.hid (by rw [HNX.out, if_pos hs, HP6.out])
          obtain ⟨fn, tmps, assign, body, hy, hR⟩ := hy
          have q0 := HIx.out.cell 0
          have q1 := HIx.out.cell 1
          have q2 := HIx.out.cell 2
          have q3 := HIx.out.cell 3
          obtain ⟨hm1, hm2⟩ := hm
          clear hs hpre HSO HPRE HP6 HNX
          gi_wp2
          refine hR.mono ?_
          rintro e W3 ⟨rfl, hJ3, hk3⟩
          have HJ3 : Hid (J (takenP H0 H1 B (j + 1)).length W3) := Lib.hid (by rw [HN.out, List.length_append]; exact hJ3)
          have HK3 := Lib.hid (HK2.out.trans hk3)
          clear hJ3 hk3 hR hy
          gi_wp2
          go_roundw
          case rel => exact ⟨j + 1, by omega, by congr 1; have := HIE.out; omega, HJ3, HK3⟩
          case measure => have := HIE.out; simp [intOf] <;> omega
        · have hs := HSO.out.trans (decide_eq_false hm)
          have HJ3 : Hid (J (takenP H0 H1 B (j + 1)).length wc) := Lib.hid (by rw [HNX.out, if_neg (by rw [hs]; decide), List.append_nil]; exact HJ2.out)
          clear hs HSO HPRE HP6 HNX
          obtain ⟨wv, rfl⟩ : ∃ z, z = wc := ⟨_, rfl⟩
          by_cases hm1 : 0 < mW
          · have hm2 : ¬ 0 < mH := fun h => hm ⟨hm1, h⟩
            clear hm
            gi_wp2
            refine ⟨(fun f hf => nomatch hf), ?_⟩
            gi_wp2
            go_roundw
            case rel => exact ⟨j + 1, by omega, by congr 1; have := HIE.out; omega, HJ3, HK2⟩
            case measure => have := HIE.out; simp [intOf] <;> omega
          · clear hm
            gi_wp2
            refine ⟨(fun f hf => nomatch hf), ?_⟩
            gi_wp2
            go_roundw
            case rel => exact ⟨j + 1, by omega, by congr 1; have := HIE.out; omega, HJ3, HK2⟩
            case measure => have := HIE.out; simp [intOf] <;> omega
      · obtain rfl : j = 7 := by omega
        gi_wp2
        go_end0
        exact ⟨⟨_, rfl⟩, by rw [HBL.out]; exact HJ.out⟩
end Go.Proofs.YtfiedoejdikcgaaDoor
