/- Several texts in one: SbT (what PixelImages reach of them). -/
import Derived.Test.YtfiedoejdikcgaaDoorQ01
import Derived.Test.YtfiedoejdikcgaaDoorQ02
import Derived.Test.YtfiedoejdikcgaaDoorQ03
import Derived.Test.YtfiedoejdikcgaaDoorQ04
import Derived.Test.YtfiedoejdikcgaaDoorQ05
import Derived.Test.YtfiedoejdikcgaaDoorQ06
import Derived.Test.YtfiedoejdikcgaaDoorQ07
import Derived.Test.YtfiedoejdikcgaaDoorQ22
import Derived.Test.YtfiedoejdikcgaaDoorQ28
import Derived.Below
import Derived.BigQuiet
import Derived.BigRegion
import Derived.Deep.AppendLies
import Derived.Deep.CutBlock
import Derived.Deep.CutRange
import Derived.Deep.DeepCutAuto
import Derived.Deep.Draws
import Derived.Deep.QuietTactic
import Derived.Deep.RegionLaw
import Derived.Deep.RegionWith
import Derived.Handy
import Derived.Laws.BitsAllLaws
import Derived.Laws.BitsLemmas
import Derived.Laws.BytesArg
import Derived.Laws.IdiomStrings
import Derived.Laws.MakeOwn
import Derived.Laws.OwnMore
import Derived.Laws.Rows
import Derived.Lib.Hide
import Derived.Maps.AppendAt
import Derived.OrdersHeld
import Derived.OrdersIn
import Derived.Outline
import Derived.OwnWalk
import Derived.OwnWalkIn
import Derived.RangeFuncCalls
import Derived.RegionTactic
import Derived.TacticsInMore
import Derived.Test.YtfiedoejdikcgaaDoorChecked
import Derived.WalkKit
set_option maxRecDepth 100000
set_option linter.unusedVariables false
set_option maxRecDepth 100000
set_option linter.unusedVariables false
namespace Go.Proofs.YtfiedoejdikcgaaDoor
set_option maxRecDepth 100000
open Go Go.RowKit
set_option maxHeartbeats 1000000 in
theorem epixel_bad (w : World) {a b c d e0 : Int} {pal tr : ByteArray} {has : Bool} {A : Option Addr} {n cp : Nat} {l : List Int} (hZ : Zs w A n l) (hn : n ≤ 1000) (h : samplesI c ≠ (n : Int) ∨ n = 0 ∨ depB d = false) :
    Calls Tryd.prog 30 #[.agg #[.int .i64 a, .int .i64 b, .int .i64 d, .int .i64 c, .int .i64 e0, .string pal, .string tr, .bool has], .slice A n cp] w fun r w' => r = .returned (.tuple #[.string (pixelA d c pal tr has l).1, .int .i64 (pixelA d c pal tr has l).2]) ∧ But [] w w' := by
  obtain ⟨sc, hsc⟩ : ∃ z, z = samplesI c := ⟨_, rfl⟩
  have HSM : Hid (∀ v, Calls Tryd.prog 16 #[.int .i64 c] v fun e w' => e = .returned (.int .i64 sc) ∧ v = w') := Lib.hid fun v => by rw [hsc]; exact esamples_any v c
  have HDP : Hid (∀ v, Calls Tryd.prog 49 #[.int .i64 d] v fun e w' => e = .returned (.bool (depB d)) ∧ v = w') := Lib.hid fun v => edepth_any v d
  have HR := Lib.hid (pixelA_bad (pal := pal) (tr := tr) (has := has) (show samplesI c ≠ (l.length : Int) ∨ l.length = 0 ∨ depB d = false ∨ inR d.toNat l = false by
    rw [hZ.1]
    rcases h with h | h | h
    · exact .inl h
    · exact .inr (.inl h)
    · exact .inr (.inr (.inl h))))
  rw [HR.out]
  rw [← hsc] at h
  clear hsc
  have hA := (But.refl [] w).alloc (.cells #[.int .i64 a, .int .i64 b, .int .i64 d, .int .i64 c, .int .i64 e0, .string pal, .string tr, .bool has] 31)
  have HS0 : Hid (SmS w w.heap.size #[.int .i64 a, .int .i64 b, .int .i64 d, .int .i64 c, .int .i64 e0, .string pal, .string tr, .bool has] A n l (w.alloc (.cells #[.int .i64 a, .int .i64 b, .int .i64 d, .int .i64 c, .int .i64 e0, .string pal, .string tr, .bool has] 31))) := Lib.hid ⟨Is.fresh _ _ _, hZ.but hA, hA⟩
  have c2 := HS0.out.1.cell 2
  have c3 := HS0.out.1.cell 3
  clear hA hZ
  by_cases h1 : sc = (n : Int)
  · subst h1
    have t1 : ((n : Int) != (n : Int)) = false := by simp
    by_cases h2 : n = 0
    · subst h2
      clear h
      go_enter Tryd.func30, Tryd.ntmps30
      go_wp2_with (first | (refine (HSM.out _).mono ?_; rintro e wz ⟨rfl, rfl⟩) | (refine (HDP.out _).mono ?_; rintro e wz ⟨rfl, rfl⟩))
      go_ret2
      exact ⟨rfl, HS0.out.2.2⟩
    · have t2 : ((n : Int) == 0) = false := by simp; exact h2
      have hd : depB d = false := by
        rcases h with h | h | h
        · exact absurd rfl h
        · exact absurd h h2
        · exact h
      rw [hd] at HDP
      clear h hd
      go_enter Tryd.func30, Tryd.ntmps30
      go_wp2_with (first | (refine (HSM.out _).mono ?_; rintro e wz ⟨rfl, rfl⟩) | (refine (HDP.out _).mono ?_; rintro e wz ⟨rfl, rfl⟩))
      go_ret2
      exact ⟨rfl, HS0.out.2.2⟩
  · have t1 : ((n : Int) != sc) = true := by simp; exact fun e => h1 e.symm
    have t2 : ((n : Int) = sc) = False := by simp; exact fun e => h1 e.symm
    clear h
    go_enter Tryd.func30, Tryd.ntmps30
    go_wp2_with (first | (refine (HSM.out _).mono ?_; rintro e wz ⟨rfl, rfl⟩) | (refine (HDP.out _).mono ?_; rintro e wz ⟨rfl, rfl⟩))
    go_ret2
    exact ⟨rfl, HS0.out.2.2⟩
set_option maxHeartbeats 4000000 in
theorem epixel_ok (w : World) {a b e0 c : Int} {D : Nat} {pal tr : ByteArray} {has : Bool} {A : Option Addr} {n cp : Nat} {l : List Int} (hZ : Zs w A n l) (hF : ZFit l) (hD : depB (D : Int) = true) (hc : samplesI c = (n : Int)) (hn : 0 < n) (hp : pal.size ≤ 140737488351232) (ht : tr.size ≤ 140737488351232) :
    Calls Tryd.prog 30 #[.agg #[.int .i64 a, .int .i64 b, .int .i64 D, .int .i64 c, .int .i64 e0, .string pal, .string tr, .bool has], .slice A n cp] w fun r w' => r = .returned (.tuple #[.string (pixelA (D : Nat) c pal tr has l).1, .int .i64 (pixelA (D : Nat) c pal tr has l).2]) ∧ But [] w w' := by
  have hln := hZ.1
  have HLN := Lib.hid hln
  have hA := (But.refl [] w).alloc (.cells #[.int .i64 a, .int .i64 b, .int .i64 D, .int .i64 c, .int .i64 e0, .string pal, .string tr, .bool has] 31)
  obtain ⟨b0, hb0⟩ : ∃ g, g = w.heap.size := ⟨_, rfl⟩
  obtain ⟨w1, hw1⟩ : ∃ X, X = w.alloc (.cells #[.int .i64 a, .int .i64 b, .int .i64 D, .int .i64 c, .int .i64 e0, .string pal, .string tr, .bool has] 31) := ⟨_, rfl⟩
  have hI : Is w1 b0 31 #[.int .i64 a, .int .i64 b, .int .i64 D, .int .i64 c, .int .i64 e0, .string pal, .string tr, .bool has] := by rw [hw1, hb0]; exact Is.fresh _ _ _
  rw [← hw1] at hA
  have HA := Lib.hid hA
  have hZ1 := hZ.but hA
  have HC : Hid (∀ v, But [] w1 v → v.cell? ⟨b0, 0, none⟩ = some (.int .i64 a) ∧ v.cell? ⟨b0, 2, none⟩ = some (.int .i64 (D : Nat)) ∧ v.cell? ⟨b0, 3, none⟩ = some (.int .i64 c) ∧ v.cell? ⟨b0, 1, none⟩ = some (.int .i64 b) ∧ v.cell? ⟨b0, 4, none⟩ = some (.int .i64 e0) ∧ v.cell? ⟨b0, 5, none⟩ = some (.string pal) ∧ v.cell? ⟨b0, 6, none⟩ = some (.string tr) ∧ v.cell? ⟨b0, 7, none⟩ = some (.bool has)) := Lib.hid fun v hv => by
    have hh := hI.but hv (by simp)
    exact ⟨hh.cell 0, hh.cell 2, hh.cell 3, hh.cell 1, hh.cell 4, hh.cell 5, hh.cell 6, hh.cell 7⟩
  have HL : Hid (∀ v, But [] w1 v → b0 < v.heap.size) := Lib.hid fun v hv => (hI.but hv (by simp)).lt
  have HI := Lib.hid hI
  have HZ := Lib.hid hZ1
  have HSM : Hid (∀ v, Calls Tryd.prog 16 #[.int .i64 c] v fun e w' => e = .returned (.int .i64 n) ∧ v = w') := Lib.hid fun v => by rw [← hc]; exact esamples_any v c
  have HDP : Hid (∀ v, Calls Tryd.prog 49 #[.int .i64 (D : Nat)] v fun e w' => e = .returned (.bool true) ∧ v = w') := Lib.hid fun v => by rw [← hD]; exact edepth_any v _
  have HBAD : Hid (inR D l = false → pixelA (D : Nat) c pal tr has l = (⟨#[]⟩, 1)) := Lib.hid fun h => pixelA_bad (.inr (.inr (.inr h)))
  have HOK : Hid (inR D l = true → pixelA (D : Nat) c pal tr has l = pixA D c pal tr has l) := Lib.hid fun h => pixelA_ok hln hc hn hD h
  have hdep : isDepth D ∧ 1 ≤ D ∧ D ≤ 16 := by
    obtain ⟨D', e, h1, h2, h3⟩ := depB_nat hD
    have e2 : D = D' := by omega
    rw [e2]
    exact ⟨h1, h2, h3⟩
  obtain ⟨_, D1, D16⟩ := hdep
  obtain ⟨R, hR⟩ : ∃ R, R = pixelA (D : Nat) c pal tr has l := ⟨_, rfl⟩
  rw [← hR] at HBAD HOK ⊢
  obtain ⟨M, hM⟩ : ∃ M, M = 2 ^ D := ⟨_, rfl⟩
  have hM1 : 1 ≤ M := by rw [hM]; exact Nat.pow_pos (by decide)
  have hM2 : M ≤ 65536 := by rw [hM]; exact Nat.pow_le_pow_right (by decide) D16
  have p1 : (2 : Int) ^ D = (M : Int) := by rw [hM]; simp
  have t7 : IntKind.i64.wrap (M : Int) = (M : Int) := by rw [IntKind.wrap_i64]; omega
  have HM := Lib.hid hM
  have HF := Lib.hid hF
  have HC4 := Lib.hid (samplesI_cases hc hn)
  have hn4 : n ≤ 4 := by rcases HC4.out with h | h | h | h | h <;> omega
  have t2 : ((n : Int) == 0) = false := by simp; omega
  have t3 : ((n : Int) != (n : Int)) = false := by simp
  have c0 := hI.cell 0
  have c2 := hI.cell 2
  have c3 := hI.cell 3
  clear hln hA hI hZ1 hD hR hM hF hZ hc
  go_enter Tryd.func30, Tryd.ntmps30
  go_upto_region 1 with (fail)
  rw [← hw1, ← hb0]
  clear c0 c2 c3
  have c2 := (HC.out w1 (But.refl [] _)).2.1
  have c3 := (HC.out w1 (But.refl [] _)).2.2.1
  clear hw1 hb0
  have HO0 : Hid (OwnSt w1 w1.heap.size (.slice none 0 0) ((l.take 0).map (wB D))) := Lib.hid (OwnSt.nil _ _)
  go_wp2_with (first | (refine (HSM.out _).mono ?_; rintro e wz ⟨rfl, rfl⟩) | (refine (HDP.out _).mono ?_; rintro e wz ⟨rfl, rfl⟩))
  clear c2 c3
  go_loopw [6, 7] (fun lv iv wr => ∃ i : Nat, i ≤ n ∧ iv = .int .i64 i ∧ Hid (OwnSt wr w1.heap.size lv ((l.take i).map (wB D))) ∧ Hid (But [] w1 wr) ∧ Hid (∀ (j : Nat) (x : Int), j < i → l[j]? = some x → 0 ≤ x ∧ x < ((2 ^ D : Nat) : Int))) (fun _ iv _ => n - (intOf iv).toNat)
  case atStart => exact ⟨0, Nat.zero_le _, rfl, HO0, Lib.hid (But.refl [] _), Lib.hid (fun j x h => absurd h (by omega))⟩
  case round =>
    clear HO0
    obtain ⟨i, hi, rfl, HO, HB, HJ⟩ := hrel
    by_cases hlt : i < n
    · obtain ⟨g, o, x, rfl, hg, hx, k0⟩ := (HZ.out.but HB.out).at hlt
      have i0 : (0 : Int) ≤ (i : Int) := by omega
      have i1 : (i : Int) < n := by omega
      have c2 := (HC.out wr HB.out).2.1
      have hgl := HL.out wr HB.out
      have hb := HF.out x (List.mem_of_getElem? hx)
      have HX := Lib.hid hx
      clear hx
      by_cases hneg : x < 0
      · have HE := Lib.hid (HBAD.out (inR_no HX.out (.inl hneg)))
        have q1 : decide (x < 0) = true := decide_eq_true hneg
        go_upto_region 7 with (fail)
        go_quiet (fail)
        go_wp2
        go_ret2
        exact ⟨by rw [HE.out]; rfl, HA.out.trans (HB.out.drewN _)⟩
      have q1 : decide (x < 0) = false := decide_eq_false hneg
      by_cases hbig : (M : Int) ≤ x
      · have HE := Lib.hid (HBAD.out (inR_no HX.out (.inr (by rw [← HM.out]; exact hbig))))
        have q2 : decide ((M : Int) ≤ x) = true := decide_eq_true hbig
        go_upto_region 7 with (fail)
        go_quiet (fail)
        go_wp2
        go_ret2
        exact ⟨by rw [HE.out]; rfl, HA.out.trans (HB.out.drewN _)⟩
      have q2 : decide ((M : Int) ≤ x) = false := decide_eq_false hbig
      go_upto_region 7 with (fail)
      go_cut [50] from 35 to 51 (fun v wx => v = .bool false ∧ Hid (But [] wr wx))
      case first =>
        go_quiet (fail)
        go_wp2
        go_meet
        exact ⟨rfl, Lib.hid ((But.refl [] _).drewN _)⟩
      case rest =>
      clear q1 q2 k0 c2 hgl p1 t7
      obtain ⟨rfl, HBx⟩ := hcut
      have HOx := Lib.hid (HO.out.but HBx.out)
      have HBW := Lib.hid (HB.out.trans HBx.out)
      clear HO HB HBx
      obtain ⟨L, hL⟩ : ∃ L, L = (l.take i).map (wB D) := ⟨_, rfl⟩
      have hlen : L.length = i := by rw [hL, List.length_map, List.length_take, HLN.out]; omega
      have HLE := Lib.hid hlen
      have HX2 : Hid ((l.take (i + 1)).map (wB D) = L ++ [wB D x]) := Lib.hid (by rw [hL, take_nextZ HX.out, List.map_append]; rfl)
      rw [← hL] at HOx
      obtain ⟨A0, cp0, rfl, hcp0⟩ := HOx.out.shape
      have hlt : i < n := hlt
      obtain ⟨W0, hW0⟩ : ∃ z, z = wideA x (D : Int) := ⟨_, rfl⟩
      have HW : Hid (∀ v, Calls Tryd.prog 51 #[.int .i64 x, .int .i64 (D : Nat)] v fun e w' => e = .returned (.int .i64 (W0 : Nat)) ∧ v = w') := Lib.hid fun v => by rw [hW0]; exact ewide_any v x _ hb
      obtain ⟨s0, hs0⟩ : ∃ z, z = wB D x := ⟨_, rfl⟩
      have HT : Hid (∀ v, Calls Tryd.prog 50 #[.int .i64 (W0 : Nat)] v fun e w' => e = .returned (.string s0) ∧ But [] v w') := Lib.hid fun v => by rw [hs0]; unfold wB; rw [← hW0]; exact etwo_any v (by rw [hW0]; exact wideA_lt _ _)
      rw [← hs0] at HX2
      have HIN : Hid (∀ (j : Nat) (y : Int), j < i + 1 → l[j]? = some y → 0 ≤ y ∧ y < ((2 ^ D : Nat) : Int)) := Lib.hid fun j y hj hy => by
        by_cases e : j = i
        · rw [e, HX.out] at hy
          cases hy
          rw [← HM.out]
          omega
        · exact HJ.out j y (by omega) hy
      have HXC : Hid (∀ v, But [] w1 v → v.cell? ⟨g, o + i, none⟩ = some (.int .i64 x)) := Lib.hid fun v hv => by
        obtain ⟨g', o', x', e, _, hx', k'⟩ := (HZ.out.but hv).at hlt
        injection e with e
        injection e with e1 e2
        rw [HX.out] at hx'
        cases hx'
        rw [e1, e2]
        exact k'
      clear hs0 hW0 hneg hbig hb HJ hlen hg hL
      go_upto_region 9 with (fail)
      refine wp_region_m (S := fun v => But [] w1 v) (R := fun v v' => But [] v v') (fun w => But.refl [] w) (by kernel_rfl) (HBW.out.drew) ?_
      refine wpM_take (fun w => But.refl [] w) (fun x y z h k => h.trans k) (i := 0) (v := .slice A0 L.length cp0) rfl (by kernel_rfl) (by kernel_rfl) (by kernel_rfl) (fun _ _ _ h => h) (YieldsR.read (fun w => But.refl [] w) ?_ fun w hS => ?_) ?_
      · go_simp
      · go_simp
      refine wpM_take (fun w => But.refl [] w) (fun x y z h k => h.trans k) (i := 1) (v := .slice (some ⟨g, o, none⟩) n cp) rfl (by kernel_rfl) (by kernel_rfl) (by kernel_rfl) (fun _ _ _ h => h) (YieldsR.read (fun w => But.refl [] w) ?_ fun w hS => ?_) ?_
      · go_simp
      · go_simp
      refine wpM_take (fun w => But.refl [] w) (fun x y z h k => h.trans k) (i := 2) (v := .int .i64 (i : Nat)) rfl (by kernel_rfl) (by kernel_rfl) (by kernel_rfl) (fun _ _ _ h => h) (YieldsR.read (fun w => But.refl [] w) ?_ fun w hS => ?_) ?_
      · go_simp
      · go_simp
      refine wpM_take (fun w => But.refl [] w) (fun x y z h k => h.trans k) (i := 3) (v := .pointer (some ⟨g, o + i, none⟩)) rfl (by kernel_rfl) (by kernel_rfl) (by kernel_rfl) (fun _ _ _ h => h) (YieldsR.read (fun w => But.refl [] w) ?_ fun w hS => ?_) ?_
      · go_simp
      · go_simp
      refine wpM_take (fun w => But.refl [] w) (fun x y z h k => h.trans k) (i := 4) (v := .int .i64 x) rfl (by kernel_rfl) (by kernel_rfl) (by kernel_rfl) (fun _ _ _ h => h) (YieldsR.read (fun w => But.refl [] w) ?_ fun w hS => ?_) ?_
      · go_simp
      · have y := HXC.out w hS; go_simp
      refine wpM_take (fun w => But.refl [] w) (fun x y z h k => h.trans k) (i := 5) (v := .pointer (some ⟨b0, 0, none⟩)) rfl (by kernel_rfl) (by kernel_rfl) (by kernel_rfl) (fun _ _ _ h => h) (YieldsR.read (fun w => But.refl [] w) ?_ fun w hS => ?_) ?_
      · go_simp
      · go_simp
      refine wpM_take (fun w => But.refl [] w) (fun x y z h k => h.trans k) (i := 6) (v := .pointer (some ⟨b0, 2, none⟩)) rfl (by kernel_rfl) (by kernel_rfl) (by kernel_rfl) (fun _ _ _ h => h) (YieldsR.read (fun w => But.refl [] w) ?_ fun w hS => ?_) ?_
      · go_simp
      · go_simp
      refine wpM_take (fun w => But.refl [] w) (fun x y z h k => h.trans k) (i := 7) (v := .int .i64 (D : Nat)) rfl (by kernel_rfl) (by kernel_rfl) (by kernel_rfl) (fun _ _ _ h => h) (YieldsR.read (fun w => But.refl [] w) ?_ fun w hS => ?_) ?_
      · go_simp
      · have y := (HC.out w hS).2.1; go_simp
      refine wpM_take (fun w => But.refl [] w) (fun x y z h k => h.trans k) (i := 8) (v := .int .i64 (W0 : Nat)) rfl (by kernel_rfl) (by kernel_rfl) (by kernel_rfl) (fun _ _ _ h => h) (.inl ⟨?_, fun w hS => .inr ⟨_, _, ?_, (HW.out w).mono ?_⟩⟩) ?_
      · go_simp
      · go_simp
      · rintro e wy ⟨rfl, rfl⟩; exact ⟨rfl, hS, But.refl [] _⟩
      refine wpM_take (fun w => But.refl [] w) (fun x y z h k => h.trans k) (i := 9) (v := .string s0) rfl (by kernel_rfl) (by kernel_rfl) (by kernel_rfl) (fun _ _ _ h => h) (.inl ⟨?_, fun w hS => .inr ⟨_, _, ?_, (HT.out w).mono ?_⟩⟩) ?_
      · go_simp
      · go_simp
      · rintro e wy ⟨rfl, hB⟩; exact ⟨rfl, hS.trans hB, hB⟩
      refine wpM_one (i := 10) rfl (by kernel_rfl) fun w6 hR6 hS6 K' hK => ?_
      have HS6 := Lib.hid hS6
      have HO6 := Lib.hid ((HOx.out.but (((But.refl [] _).drew).trans hR6)).but ((But.refl [] _).alloc (.cells #[.string s0] 9)))
      clear hR6 hS6
      go_simp
      refine hK _ _ ⟨HS6.out.alloc _, ?_⟩
      clear hK K'
      refine wpM_one (i := 11) rfl (by kernel_rfl) fun w7 hR7 hS7 K' hK => ?_
      refine step_append_s (w0 := w1) w7 rfl _ _ rfl (.slice A0 L.length cp0) L (by rfl) (HO6.out.but hR7) hS7 s0 (by rfl) ((Is.fresh w6 9 #[.string s0]).but hR7 (by simp)) (by rw [HLE.out]; omega) ?_
      intro A9 c9 w9 HO9 HB9
      refine hK _ _ ⟨HB9.out, ?_⟩
      clear hK K' hR7 hS7
      refine wpM_take (fun w => But.refl [] w) (fun x y z h k => h.trans k) (i := 12) (v := .slice A9 (L.length + 1) c9) rfl (by kernel_rfl) (by kernel_rfl) (by kernel_rfl) (fun _ _ _ h => h) (YieldsR.read (fun w => But.refl [] w) ?_ fun w hS => ?_) ?_
      · go_simp
      · go_simp
      refine ⟨by kernel_rfl, fun w8 hR8 hS8 => ?_⟩
      have HO8 : Hid (OwnSt w8 w1.heap.size (.slice A9 (L.length + 1) c9) ((l.take (i + 1)).map (wB D))) := Lib.hid (by rw [HX2.out]; exact HO9.out.but hR8)
      have HB8 := Lib.hid hS8
      clear hR8 hS8 HO9 HB9 HO6 HS6 HOx HBW HX2
      go_simp
      go_wp2
      go_roundw
      case rel => exact ⟨i + 1, by omega, by go_num, HO8, HB8, HIN⟩
      case measure => simp [intOf] <;> omega
    · obtain rfl : n = i := by omega
      have HIR := Lib.hid (inR_yes (D := D) (l := l) (fun j x hj => HJ.out j x (by have := (List.getElem?_eq_some_iff.1 hj).1; have := HLN.out; omega) hj))
      have HE := Lib.hid (HOK.out HIR.out)
      have HLT : Hid ((l.take n) = l) := Lib.hid (List.take_of_length_le (by rw [HLN.out]; exact Nat.le_refl _))
      rw [HLT.out] at HO
      obtain ⟨A0, cp0, rfl, hcp0⟩ := HO.out.shape
      clear HBAD HOK HJ p1 t7 hcp0 HLT
      obtain ⟨nn, hnl⟩ : ∃ z, z = (l.map (wB D)).length := ⟨_, rfl⟩
      rw [← hnl] at HO ⊢
      obtain rfl : n = nn := by rw [hnl, List.length_map]; exact HLN.out.symm
      clear hnl
      obtain ⟨s65, hs65⟩ : ∃ z, z = strL (twoB 65535) := ⟨_, rfl⟩
      have H65 : Hid (∀ v, Calls Tryd.prog 50 #[.int .i64 65535] v fun e w' => e = .returned (.string s65) ∧ But [] v w') := Lib.hid fun v => by rw [hs65]; exact etwo_any v (by decide)
      have z65 : s65.size = 2 := by rw [hs65, strL_size]; rfl
      have HS65 := Lib.hid hs65
      obtain ⟨s00, hs00⟩ : ∃ z, z = strL (twoB 0) := ⟨_, rfl⟩
      have H00 : Hid (∀ v, Calls Tryd.prog 50 #[.int .i64 0] v fun e w' => e = .returned (.string s00) ∧ But [] v w') := Lib.hid fun v => by rw [hs00]; exact etwo_any v (by decide)
      have z00 : s00.size = 2 := by rw [hs00, strL_size]; rfl
      have HS00 := Lib.hid hs00
      have hgl := HL.out wr HB.out
      clear hs65 hs00
      go_wp2_with fail
      refine (H65.out _).mono ?_
      rintro e w2 ⟨rfl, hB2⟩
      have HB2 := Lib.hid (HB.out.trans hB2)
      have HO2 := Lib.hid (HO.out.but hB2)
      clear hB2 HO HB hgl
      obtain ⟨c0, c2, c3, c1, c4, c5, c6, c7⟩ := HC.out w2 HB2.out
      have hgl := HL.out w2 HB2.out
      obtain ⟨sv, hsv⟩ : ∃ z, z = sameS D tr has l := ⟨_, rfl⟩
      have HSV := Lib.hid hsv
      have HSAME : Hid (∀ v, But [] w1 v → Calls Tryd.prog 52 #[.agg #[.int .i64 a, .int .i64 b, .int .i64 D, .int .i64 c, .int .i64 e0, .string pal, .string tr, .bool has], .slice A n cp] v fun r w' => r = .returned (.bool sv) ∧ But [] v w') := Lib.hid fun v hv => by rw [hsv]; exact esame_any v D1 D16 (HZ.out.but hv) (by rcases HC4.out with h | h | h | h | h <;> omega) ht
      clear hsv
      rcases HC4.out with ⟨hcc, hnn⟩ | ⟨hcc, hnn⟩ | ⟨hcc, hnn⟩ | ⟨hcc, hnn⟩ | ⟨hcc, hnn⟩
      · have HNC : Hid (c = 0 ∧ n = 1) := Lib.hid ⟨hcc, hnn⟩
        subst hcc hnn
        obtain ⟨x0, hx0⟩ : ∃ x, l[0]? = some x := ⟨_, List.getElem?_eq_getElem (by rw [HLN.out]; decide)⟩
        obtain ⟨s0, hs0⟩ : ∃ z, z = wB D x0 := ⟨_, rfl⟩
        have hz0 : s0.size = 2 := by rw [hs0]; unfold wB; rw [strL_size]; rfl
        have HM0 : Hid ((l.map (wB D))[0]? = some s0) := Lib.hid (by rw [List.getElem?_map, hx0, hs0]; rfl)
        have HX0 : Hid (wideA (l.getD 0 0) (D : Int) = wideA x0 (D : Int)) := Lib.hid (by rw [getD_of hx0])
        have HW0 : Hid (s0 = strL (twoB (wideA x0 (D : Int)))) := Lib.hid (by rw [hs0]; rfl)
        clear hx0 hs0
        have HAT : Hid (sv = true → strL (twoB (alphaA D tr has l)) = s00) := Lib.hid fun h => by unfold alphaA; rw [← HSV.out, if_pos h, HS00.out]
        have HAF : Hid (sv = false → strL (twoB (alphaA D tr has l)) = s65) := Lib.hid fun h => by unfold alphaA; rw [← HSV.out, if_neg (by rw [h]; decide), HS65.out]
        go_wp2_with fail
        refine (HSAME.out _ HB2.out).mono ?_
        rintro e w3 ⟨rfl, hB3⟩
        have HB3 := Lib.hid (HB2.out.trans hB3)
        have HO3 := Lib.hid (HO2.out.but hB3)
        clear hB3 HO2 HB2 c0 c1 c2 c3 c4 c5 c6 c7 hgl
        cases sv with
        | true =>
          go_wp2_with fail
          refine (H00.out _).mono ?_
          rintro e w4 ⟨rfl, hB4⟩
          have HB4 := Lib.hid (HB3.out.trans hB4)
          have HO4 := Lib.hid (HO3.out.but hB4)
          clear hB4 HO3 HB3
          obtain ⟨c0, c2, c3, c1, c4, c5, c6, c7⟩ := HC.out w4 HB4.out
          have hgl := HL.out w4 HB4.out
          obtain ⟨gs, hA0, hgs, k0⟩ := HO4.out.at HM0.out
          subst hA0
          go_upto_region 15 with (fail)
          go_quiet (fail)
          go_wp2
          go_ret2
          refine ⟨?_, HA.out.trans (HB4.out.drewN _)⟩
          rw [HE.out]
          unfold pixA
          rw [if_pos rfl, HX0.out, ← px4_is, ← HW0.out, HAT.out trivial]
          try rfl
        | false =>
          obtain ⟨c0, c2, c3, c1, c4, c5, c6, c7⟩ := HC.out w3 HB3.out
          have hgl := HL.out w3 HB3.out
          obtain ⟨gs, hA0, hgs, k0⟩ := HO3.out.at HM0.out
          subst hA0
          go_upto_region 15 with (fail)
          go_quiet (fail)
          go_wp2
          go_ret2
          refine ⟨?_, HA.out.trans (HB3.out.drewN _)⟩
          rw [HE.out]
          unfold pixA
          rw [if_pos rfl, HX0.out, ← px4_is, ← HW0.out, HAF.out trivial]
          try rfl
      · have HNC : Hid (c = 2 ∧ n = 3) := Lib.hid ⟨hcc, hnn⟩
        subst hcc hnn
        obtain ⟨x0, hx0⟩ : ∃ x, l[0]? = some x := ⟨_, List.getElem?_eq_getElem (by rw [HLN.out]; decide)⟩
        obtain ⟨s0, hs0⟩ : ∃ z, z = wB D x0 := ⟨_, rfl⟩
        have hz0 : s0.size = 2 := by rw [hs0]; unfold wB; rw [strL_size]; rfl
        have HM0 : Hid ((l.map (wB D))[0]? = some s0) := Lib.hid (by rw [List.getElem?_map, hx0, hs0]; rfl)
        have HX0 : Hid (wideA (l.getD 0 0) (D : Int) = wideA x0 (D : Int)) := Lib.hid (by rw [getD_of hx0])
        have HW0 : Hid (s0 = strL (twoB (wideA x0 (D : Int)))) := Lib.hid (by rw [hs0]; rfl)
        clear hx0 hs0
        obtain ⟨x1, hx1⟩ : ∃ x, l[1]? = some x := ⟨_, List.getElem?_eq_getElem (by rw [HLN.out]; decide)⟩
        obtain ⟨s1, hs1⟩ : ∃ z, z = wB D x1 := ⟨_, rfl⟩
        have hz1 : s1.size = 2 := by rw [hs1]; unfold wB; rw [strL_size]; rfl
        have HM1 : Hid ((l.map (wB D))[1]? = some s1) := Lib.hid (by rw [List.getElem?_map, hx1, hs1]; rfl)
        have HX1 : Hid (wideA (l.getD 1 0) (D : Int) = wideA x1 (D : Int)) := Lib.hid (by rw [getD_of hx1])
        have HW1 : Hid (s1 = strL (twoB (wideA x1 (D : Int)))) := Lib.hid (by rw [hs1]; rfl)
        clear hx1 hs1
        obtain ⟨x2, hx2⟩ : ∃ x, l[2]? = some x := ⟨_, List.getElem?_eq_getElem (by rw [HLN.out]; decide)⟩
        obtain ⟨s2, hs2⟩ : ∃ z, z = wB D x2 := ⟨_, rfl⟩
        have hz2 : s2.size = 2 := by rw [hs2]; unfold wB; rw [strL_size]; rfl
        have HM2 : Hid ((l.map (wB D))[2]? = some s2) := Lib.hid (by rw [List.getElem?_map, hx2, hs2]; rfl)
        have HX2 : Hid (wideA (l.getD 2 0) (D : Int) = wideA x2 (D : Int)) := Lib.hid (by rw [getD_of hx2])
        have HW2 : Hid (s2 = strL (twoB (wideA x2 (D : Int)))) := Lib.hid (by rw [hs2]; rfl)
        clear hx2 hs2
        have HAT : Hid (sv = true → strL (twoB (alphaA D tr has l)) = s00) := Lib.hid fun h => by unfold alphaA; rw [← HSV.out, if_pos h, HS00.out]
        have HAF : Hid (sv = false → strL (twoB (alphaA D tr has l)) = s65) := Lib.hid fun h => by unfold alphaA; rw [← HSV.out, if_neg (by rw [h]; decide), HS65.out]
        go_wp2_with fail
        refine (HSAME.out _ HB2.out).mono ?_
        rintro e w3 ⟨rfl, hB3⟩
        have HB3 := Lib.hid (HB2.out.trans hB3)
        have HO3 := Lib.hid (HO2.out.but hB3)
        clear hB3 HO2 HB2 c0 c1 c2 c3 c4 c5 c6 c7 hgl
        cases sv with
        | true =>
          go_wp2_with fail
          refine (H00.out _).mono ?_
          rintro e w4 ⟨rfl, hB4⟩
          have HB4 := Lib.hid (HB3.out.trans hB4)
          have HO4 := Lib.hid (HO3.out.but hB4)
          clear hB4 HO3 HB3
          obtain ⟨c0, c2, c3, c1, c4, c5, c6, c7⟩ := HC.out w4 HB4.out
          have hgl := HL.out w4 HB4.out
          obtain ⟨gs, hA0, hgs, k0⟩ := HO4.out.at HM0.out
          subst hA0
          have k1 : _ ∧ _ := ⟨HO4.out.at HM1.out, trivial⟩
          obtain ⟨⟨gs1, hA1, _, k1⟩, _⟩ := k1
          obtain rfl : gs = gs1 := by injection hA1 with q; injection q
          clear hA1
          have k2 : _ ∧ _ := ⟨HO4.out.at HM2.out, trivial⟩
          obtain ⟨⟨gs2, hA2, _, k2⟩, _⟩ := k2
          obtain rfl : gs = gs2 := by injection hA2 with q; injection q
          clear hA2
          go_upto_region 17 with (fail)
          go_quiet (fail)
          go_wp2
          go_ret2
          refine ⟨?_, HA.out.trans (HB4.out.drewN _)⟩
          rw [HE.out]
          unfold pixA
          rw [if_neg (by decide)]
          rw [if_pos rfl, HX0.out, HX1.out, HX2.out, ← px4_is, ← HW0.out, ← HW1.out, ← HW2.out, HAT.out trivial]
          try rfl
        | false =>
          obtain ⟨c0, c2, c3, c1, c4, c5, c6, c7⟩ := HC.out w3 HB3.out
          have hgl := HL.out w3 HB3.out
          obtain ⟨gs, hA0, hgs, k0⟩ := HO3.out.at HM0.out
          subst hA0
          have k1 : _ ∧ _ := ⟨HO3.out.at HM1.out, trivial⟩
          obtain ⟨⟨gs1, hA1, _, k1⟩, _⟩ := k1
          obtain rfl : gs = gs1 := by injection hA1 with q; injection q
          clear hA1
          have k2 : _ ∧ _ := ⟨HO3.out.at HM2.out, trivial⟩
          obtain ⟨⟨gs2, hA2, _, k2⟩, _⟩ := k2
          obtain rfl : gs = gs2 := by injection hA2 with q; injection q
          clear hA2
          go_upto_region 17 with (fail)
          go_quiet (fail)
          go_wp2
          go_ret2
          refine ⟨?_, HA.out.trans (HB3.out.drewN _)⟩
          rw [HE.out]
          unfold pixA
          rw [if_neg (by decide)]
          rw [if_pos rfl, HX0.out, HX1.out, HX2.out, ← px4_is, ← HW0.out, ← HW1.out, ← HW2.out, HAF.out trivial]
          try rfl
      · have HNC : Hid (c = 3 ∧ n = 1) := Lib.hid ⟨hcc, hnn⟩
        subst hcc hnn
        clear HSAME HSV H00 HS00 z00
        obtain ⟨x0, hx0⟩ : ∃ x, l[0]? = some x := ⟨_, List.getElem?_eq_getElem (by rw [HLN.out]; decide)⟩
        obtain ⟨hp0, hp1⟩ := inR_at HIR.out hx0
        obtain ⟨k, rfl⟩ : ∃ k : Nat, x0 = (k : Int) := ⟨x0.toNat, by omega⟩
        have hk : k < 65536 := by rw [← HM.out] at hp1; omega
        have HX := Lib.hid (getD_of hx0)
        obtain ⟨ga, oa, x', rfl, hga, hx', ka⟩ := (HZ.out.but HB2.out).at (i := 0) (by decide)
        obtain rfl : (k : Int) = x' := by rw [hx0] at hx'; exact Option.some.inj hx'
        rw [Nat.add_zero] at ka
        obtain ⟨k3, hk3⟩ : ∃ z, z = 3 * k := ⟨_, rfl⟩
        have e1 : (3 : Int) * (k : Int) = (k3 : Int) := by omega
        have v1 := wrapI_in (show k3 < 1000000000000000 by omega)
        have v0 := wrapI_in (show k < 1000000000000000 by omega)
        obtain ⟨k6, hk6⟩ : ∃ z, z = k3 + 3 := ⟨_, rfl⟩
        have e6 : (k3 : Int) + 3 = (k6 : Int) := by omega
        have v6 := wrapI_in (show k6 < 1000000000000000 by omega)
        by_cases hsh : pal.size < k6
        · have HR : Hid (pixA D 3 pal tr has l = (⟨#[]⟩, 29)) := Lib.hid (by unfold pixA; rw [if_neg (by decide), if_neg (by decide), if_neg (by decide), if_neg (by decide), HX.out, if_pos (by show pal.size < 3 * k + 3; omega)])
          clear hx0 hx' hp0 hp1 hk3 hk6
          go_wp2
          go_ret2
          exact ⟨by rw [HE.out, HR.out]; rfl, HA.out.trans HB2.out⟩
        obtain ⟨k4, hk4⟩ : ∃ z, z = k3 + 1 := ⟨_, rfl⟩
        obtain ⟨k5, hk5⟩ : ∃ z, z = k3 + 2 := ⟨_, rfl⟩
        have hl3 : k3 < pal.size := by omega
        have hl4 : k4 < pal.size := by omega
        have hl5 : k5 < pal.size := by omega
        obtain ⟨p0, hp0⟩ : ∃ z, z = pal[k3].toNat := ⟨_, rfl⟩
        obtain ⟨p1, hp1⟩ : ∃ z, z = pal[k4].toNat := ⟨_, rfl⟩
        obtain ⟨p2, hp2⟩ : ∃ z, z = pal[k5].toNat := ⟨_, rfl⟩
        have y0 : p0 < 256 := by rw [hp0]; exact pal[k3].toNat_lt
        have y1 : p1 < 256 := by rw [hp1]; exact pal[k4].toNat_lt
        have y2 : p2 < 256 := by rw [hp2]; exact pal[k5].toNat_lt
        have i0 : ∀ w, (Instr.index 9 (.string pal) (.int .i64 (k3 : Int))).run Tryd.prog w = .ok (.int .u8 (p0 : Int)) w := fun w => by rw [hp0]; exact byteR_run hl3 w
        have i1 : ∀ w, (Instr.index 9 (.string pal) (.int .i64 (k4 : Int))).run Tryd.prog w = .ok (.int .u8 (p1 : Int)) w := fun w => by rw [hp1]; exact byteR_run hl4 w
        have i2 : ∀ w, (Instr.index 9 (.string pal) (.int .i64 (k5 : Int))).run Tryd.prog w = .ok (.int .u8 (p2 : Int)) w := fun w => by rw [hp2]; exact byteR_run hl5 w
        obtain ⟨q0, hq0⟩ : ∃ z, z = 257 * p0 := ⟨_, rfl⟩
        have f0 : (257 : Int) * (p0 : Int) = (q0 : Int) := by omega
        have wp0 := wrapI_in (show p0 < 1000000000000000 by omega)
        have wq0 := wrapI_in (show q0 < 1000000000000000 by omega)
        obtain ⟨s0, hs0⟩ : ∃ z, z = strL (twoB q0) := ⟨_, rfl⟩
        have hz0 : s0.size = 2 := by rw [hs0, strL_size]; rfl
        have HT0 : Hid (∀ v, Calls Tryd.prog 50 #[.int .i64 (q0 : Nat)] v fun e w' => e = .returned (.string s0) ∧ But [] v w') := Lib.hid fun v => by rw [hs0]; exact etwo_any v (by omega)
        obtain ⟨q1, hq1⟩ : ∃ z, z = 257 * p1 := ⟨_, rfl⟩
        have f1 : (257 : Int) * (p1 : Int) = (q1 : Int) := by omega
        have wp1 := wrapI_in (show p1 < 1000000000000000 by omega)
        have wq1 := wrapI_in (show q1 < 1000000000000000 by omega)
        obtain ⟨s1, hs1⟩ : ∃ z, z = strL (twoB q1) := ⟨_, rfl⟩
        have hz1 : s1.size = 2 := by rw [hs1, strL_size]; rfl
        have HT1 : Hid (∀ v, Calls Tryd.prog 50 #[.int .i64 (q1 : Nat)] v fun e w' => e = .returned (.string s1) ∧ But [] v w') := Lib.hid fun v => by rw [hs1]; exact etwo_any v (by omega)
        obtain ⟨q2, hq2⟩ : ∃ z, z = 257 * p2 := ⟨_, rfl⟩
        have f2 : (257 : Int) * (p2 : Int) = (q2 : Int) := by omega
        have wp2 := wrapI_in (show p2 < 1000000000000000 by omega)
        have wq2 := wrapI_in (show q2 < 1000000000000000 by omega)
        obtain ⟨s2, hs2⟩ : ∃ z, z = strL (twoB q2) := ⟨_, rfl⟩
        have hz2 : s2.size = 2 := by rw [hs2, strL_size]; rfl
        have HT2 : Hid (∀ v, Calls Tryd.prog 50 #[.int .i64 (q2 : Nat)] v fun e w' => e = .returned (.string s2) ∧ But [] v w') := Lib.hid fun v => by rw [hs2]; exact etwo_any v (by omega)
        have e4 : (k3 : Int) + 1 = (k4 : Int) := by omega
        have e5 : (k3 : Int) + 2 = (k5 : Int) := by omega
        have v4 := wrapI_in (show k4 < 1000000000000000 by omega)
        have v5 := wrapI_in (show k5 < 1000000000000000 by omega)
        have HR : Hid (∀ al, al = strL (twoB (alphaP tr has k)) → pixA D 3 pal tr has l = (s0 ++ s1 ++ s2 ++ al, 0)) := Lib.hid fun al hal => by
          unfold pixA
          rw [if_neg (by decide), if_neg (by decide), if_neg (by decide), if_neg (by decide), HX.out, show ((k : Int)).toNat = k from rfl, if_neg (by omega), ← hk3, ← hk4, ← hk5, getD_byte pal hl3, getD_byte pal hl4, getD_byte pal hl5, ← hp0, ← hp1, ← hp2, ← hq0, ← hq1, ← hq2, ← px4_is, ← hs0, ← hs1, ← hs2, ← hal]
        clear hx0 hx' hk6 hk3 hk4 hk5 hp0 hp1 hp2 hq0 hq1 hq2 hs0 hs1 hs2
        obtain ⟨sa, hsa⟩ : ∃ z, z = strL (twoB (alphaP tr has k)) := ⟨_, rfl⟩
        have HAL := Lib.hid hsa
        have hza : sa.size = 2 := by rw [hsa, strL_size]; rfl
        obtain ⟨r, hr⟩ : ∃ r, r = (has && decide (k < tr.size)) := ⟨_, rfl⟩
        have Hr := Lib.hid hr
        have HF65 : Hid (r = false → s65 = sa) := Lib.hid fun h => by
          rw [hsa, HS65.out]
          unfold alphaP
          rw [if_neg]
          rintro ⟨h1, h2⟩
          rw [hr, h1, decide_eq_true h2] at h
          cases h
        have HTR : Hid (r = true → k < tr.size ∧ sa = strL (twoB (257 * (tr.data.toList.getD k 0).toNat))) := Lib.hid fun h => by
          rw [hr, Bool.and_eq_true] at h
          have h2 := of_decide_eq_true h.2
          refine ⟨h2, ?_⟩
          rw [hsa]
          unfold alphaP
          rw [if_pos ⟨h.1, h2⟩]
        clear hsa hr
        go_upto_region 25 with (fail)
        go_cut [165] from 157 to 166 (fun v wx => v = .bool r ∧ w2 = wx)
        case first =>
          cases has with
          | false =>
            obtain rfl : false = r := by rw [Hr.out]; rfl
            go_wp2
            go_meet
            exact ⟨rfl, rfl⟩
          | true =>
            by_cases htr : k < tr.size
            · obtain rfl : true = r := by rw [Hr.out, decide_eq_true htr]; rfl
              go_wp2
              go_meet
              exact ⟨rfl, rfl⟩
            · obtain rfl : false = r := by rw [Hr.out, decide_eq_false htr]; rfl
              go_wp2
              go_meet
              exact ⟨rfl, rfl⟩
        case rest =>
        obtain ⟨rfl, rfl⟩ := hcut
        go_upto_if 165 with (fail)
        go_cut [8] from 166 to 173 (fun v wx => v = .string sa ∧ Hid (But [] w2 wx))
        case first =>
          cases r with
          | false =>
            obtain rfl : s65 = sa := HF65.out rfl
            go_wp2
            go_meet
            exact ⟨rfl, Lib.hid (But.refl [] _)⟩
          | true =>
            obtain ⟨htr, hsa⟩ := HTR.out rfl
            obtain ⟨pa, hpa⟩ : ∃ z, z = tr[k].toNat := ⟨_, rfl⟩
            have ba : pa < 256 := by rw [hpa]; exact tr[k].toNat_lt
            have ia : ∀ w, (Instr.index 9 (.string tr) (.int .i64 (k : Int))).run Tryd.prog w = .ok (.int .u8 (pa : Int)) w := fun w => by rw [hpa]; exact byteR_run htr w
            obtain ⟨qa, hqa⟩ : ∃ z, z = 257 * pa := ⟨_, rfl⟩
            have fa : (257 : Int) * (pa : Int) = (qa : Int) := by omega
            have wpa := wrapI_in (show pa < 1000000000000000 by omega)
            have wqa := wrapI_in (show qa < 1000000000000000 by omega)
            have HTA : Hid (∀ v, Calls Tryd.prog 50 #[.int .i64 (qa : Nat)] v fun e w' => e = .returned (.string sa) ∧ But [] v w') := Lib.hid fun v => by
              rw [hsa, getD_byte tr htr, ← hpa, ← hqa]; exact etwo_any v (by omega)
            clear hpa hqa hsa
            go_wp2_with fail
            refine (HTA.out _).mono ?_
            rintro e w3 ⟨rfl, hB3⟩
            have HB3 := Lib.hid hB3
            clear hB3
            go_wp2
            go_meet
            exact ⟨rfl, HB3⟩
        case rest =>
        obtain ⟨rfl, HB3⟩ := hcut
        have HB4 := Lib.hid (HB2.out.trans HB3.out)
        clear HB3 HB2 HO2 c0 c1 c2 c3 c4 c5 c6 c7 hgl ka HTR HF65 Hr
        have hgl := HL.out wc HB4.out
        go_upto_region 27 with (fail)
        refine wp_region_m (S := fun v => But [] w1 v) (R := fun v v' => But [] v v') (fun w => But.refl [] w) (by kernel_rfl) (HB4.out.drew) ?_
        refine wpM_take (fun w => But.refl [] w) (fun x y z h k => h.trans k) (i := 0) (v := .pointer (some ⟨b0, 5, none⟩)) rfl (by kernel_rfl) (by kernel_rfl) (by kernel_rfl) (fun _ _ _ h => h) (YieldsR.read (fun w => But.refl [] w) ?_ fun w hS => ?_) ?_
        · go_simp
        · go_simp
        refine wpM_take (fun w => But.refl [] w) (fun x y z h k => h.trans k) (i := 1) (v := .string pal) rfl (by kernel_rfl) (by kernel_rfl) (by kernel_rfl) (fun _ _ _ h => h) (YieldsR.read (fun w => But.refl [] w) ?_ fun w hS => ?_) ?_
        · go_simp
        · have y := (HC.out w hS).2.2.2.2.2.1; go_simp
        refine wpM_take (fun w => But.refl [] w) (fun x y z h k => h.trans k) (i := 2) (v := .int .i64 (k : Nat)) rfl (by kernel_rfl) (by kernel_rfl) (by kernel_rfl) (fun _ _ _ h => h) (YieldsR.read (fun w => But.refl [] w) ?_ fun w hS => ?_) ?_
        · go_simp
        · go_simp
        refine wpM_take (fun w => But.refl [] w) (fun x y z h k => h.trans k) (i := 3) (v := .int .i64 (k3 : Nat)) rfl (by kernel_rfl) (by kernel_rfl) (by kernel_rfl) (fun _ _ _ h => h) (YieldsR.read (fun w => But.refl [] w) ?_ fun w hS => ?_) ?_
        · go_simp
        · go_simp
        refine wpM_take (fun w => But.refl [] w) (fun x y z h k => h.trans k) (i := 4) (v := .int .u8 (p0 : Nat)) rfl (by kernel_rfl) (by kernel_rfl) (by kernel_rfl) (fun _ _ _ h => h) (YieldsR.read (fun w => But.refl [] w) ?_ fun w hS => ?_) ?_
        · go_simp
        · go_simp
        refine wpM_take (fun w => But.refl [] w) (fun x y z h k => h.trans k) (i := 5) (v := .int .i64 (p0 : Nat)) rfl (by kernel_rfl) (by kernel_rfl) (by kernel_rfl) (fun _ _ _ h => h) (YieldsR.read (fun w => But.refl [] w) ?_ fun w hS => ?_) ?_
        · go_simp
        · go_simp
        refine wpM_take (fun w => But.refl [] w) (fun x y z h k => h.trans k) (i := 6) (v := .int .i64 (q0 : Nat)) rfl (by kernel_rfl) (by kernel_rfl) (by kernel_rfl) (fun _ _ _ h => h) (YieldsR.read (fun w => But.refl [] w) ?_ fun w hS => ?_) ?_
        · go_simp
        · go_simp
        refine wpM_take (fun w => But.refl [] w) (fun x y z h k => h.trans k) (i := 7) (v := .string s0) rfl (by kernel_rfl) (by kernel_rfl) (by kernel_rfl) (fun _ _ _ h => h) (.inl ⟨?_, fun w hS => .inr ⟨_, _, ?_, (HT0.out w).mono ?_⟩⟩) ?_
        · go_simp
        · go_simp
        · rintro e wy ⟨rfl, hB⟩; exact ⟨rfl, hS.trans hB, hB⟩
        refine wpM_take (fun w => But.refl [] w) (fun x y z h k => h.trans k) (i := 8) (v := .pointer (some ⟨b0, 5, none⟩)) rfl (by kernel_rfl) (by kernel_rfl) (by kernel_rfl) (fun _ _ _ h => h) (YieldsR.read (fun w => But.refl [] w) ?_ fun w hS => ?_) ?_
        · go_simp
        · go_simp
        refine wpM_take (fun w => But.refl [] w) (fun x y z h k => h.trans k) (i := 9) (v := .string pal) rfl (by kernel_rfl) (by kernel_rfl) (by kernel_rfl) (fun _ _ _ h => h) (YieldsR.read (fun w => But.refl [] w) ?_ fun w hS => ?_) ?_
        · go_simp
        · have y := (HC.out w hS).2.2.2.2.2.1; go_simp
        refine wpM_take (fun w => But.refl [] w) (fun x y z h k => h.trans k) (i := 10) (v := .int .i64 (k : Nat)) rfl (by kernel_rfl) (by kernel_rfl) (by kernel_rfl) (fun _ _ _ h => h) (YieldsR.read (fun w => But.refl [] w) ?_ fun w hS => ?_) ?_
        · go_simp
        · go_simp
        refine wpM_take (fun w => But.refl [] w) (fun x y z h k => h.trans k) (i := 11) (v := .int .i64 (k3 : Nat)) rfl (by kernel_rfl) (by kernel_rfl) (by kernel_rfl) (fun _ _ _ h => h) (YieldsR.read (fun w => But.refl [] w) ?_ fun w hS => ?_) ?_
        · go_simp
        · go_simp
        refine wpM_take (fun w => But.refl [] w) (fun x y z h k => h.trans k) (i := 12) (v := .int .i64 (k4 : Nat)) rfl (by kernel_rfl) (by kernel_rfl) (by kernel_rfl) (fun _ _ _ h => h) (YieldsR.read (fun w => But.refl [] w) ?_ fun w hS => ?_) ?_
        · go_simp
        · go_simp
        refine wpM_take (fun w => But.refl [] w) (fun x y z h k => h.trans k) (i := 13) (v := .int .u8 (p1 : Nat)) rfl (by kernel_rfl) (by kernel_rfl) (by kernel_rfl) (fun _ _ _ h => h) (YieldsR.read (fun w => But.refl [] w) ?_ fun w hS => ?_) ?_
        · go_simp
        · go_simp
        refine wpM_take (fun w => But.refl [] w) (fun x y z h k => h.trans k) (i := 14) (v := .int .i64 (p1 : Nat)) rfl (by kernel_rfl) (by kernel_rfl) (by kernel_rfl) (fun _ _ _ h => h) (YieldsR.read (fun w => But.refl [] w) ?_ fun w hS => ?_) ?_
        · go_simp
        · go_simp
        refine wpM_take (fun w => But.refl [] w) (fun x y z h k => h.trans k) (i := 15) (v := .int .i64 (q1 : Nat)) rfl (by kernel_rfl) (by kernel_rfl) (by kernel_rfl) (fun _ _ _ h => h) (YieldsR.read (fun w => But.refl [] w) ?_ fun w hS => ?_) ?_
        · go_simp
        · go_simp
        refine wpM_take (fun w => But.refl [] w) (fun x y z h k => h.trans k) (i := 16) (v := .string s1) rfl (by kernel_rfl) (by kernel_rfl) (by kernel_rfl) (fun _ _ _ h => h) (.inl ⟨?_, fun w hS => .inr ⟨_, _, ?_, (HT1.out w).mono ?_⟩⟩) ?_
        · go_simp
        · go_simp
        · rintro e wy ⟨rfl, hB⟩; exact ⟨rfl, hS.trans hB, hB⟩
        refine wpM_take (fun w => But.refl [] w) (fun x y z h k => h.trans k) (i := 17) (v := .string (s0 ++ s1)) rfl (by kernel_rfl) (by kernel_rfl) (by kernel_rfl) (fun _ _ _ h => h) (YieldsR.read (fun w => But.refl [] w) ?_ fun w hS => ?_) ?_
        · go_simp
        · go_simp
        refine wpM_take (fun w => But.refl [] w) (fun x y z h k => h.trans k) (i := 18) (v := .pointer (some ⟨b0, 5, none⟩)) rfl (by kernel_rfl) (by kernel_rfl) (by kernel_rfl) (fun _ _ _ h => h) (YieldsR.read (fun w => But.refl [] w) ?_ fun w hS => ?_) ?_
        · go_simp
        · go_simp
        refine wpM_take (fun w => But.refl [] w) (fun x y z h k => h.trans k) (i := 19) (v := .string pal) rfl (by kernel_rfl) (by kernel_rfl) (by kernel_rfl) (fun _ _ _ h => h) (YieldsR.read (fun w => But.refl [] w) ?_ fun w hS => ?_) ?_
        · go_simp
        · have y := (HC.out w hS).2.2.2.2.2.1; go_simp
        refine wpM_take (fun w => But.refl [] w) (fun x y z h k => h.trans k) (i := 20) (v := .int .i64 (k : Nat)) rfl (by kernel_rfl) (by kernel_rfl) (by kernel_rfl) (fun _ _ _ h => h) (YieldsR.read (fun w => But.refl [] w) ?_ fun w hS => ?_) ?_
        · go_simp
        · go_simp
        refine wpM_take (fun w => But.refl [] w) (fun x y z h k => h.trans k) (i := 21) (v := .int .i64 (k3 : Nat)) rfl (by kernel_rfl) (by kernel_rfl) (by kernel_rfl) (fun _ _ _ h => h) (YieldsR.read (fun w => But.refl [] w) ?_ fun w hS => ?_) ?_
        · go_simp
        · go_simp
        refine wpM_take (fun w => But.refl [] w) (fun x y z h k => h.trans k) (i := 22) (v := .int .i64 (k5 : Nat)) rfl (by kernel_rfl) (by kernel_rfl) (by kernel_rfl) (fun _ _ _ h => h) (YieldsR.read (fun w => But.refl [] w) ?_ fun w hS => ?_) ?_
        · go_simp
        · go_simp
        refine wpM_take (fun w => But.refl [] w) (fun x y z h k => h.trans k) (i := 23) (v := .int .u8 (p2 : Nat)) rfl (by kernel_rfl) (by kernel_rfl) (by kernel_rfl) (fun _ _ _ h => h) (YieldsR.read (fun w => But.refl [] w) ?_ fun w hS => ?_) ?_
        · go_simp
        · go_simp
        refine wpM_take (fun w => But.refl [] w) (fun x y z h k => h.trans k) (i := 24) (v := .int .i64 (p2 : Nat)) rfl (by kernel_rfl) (by kernel_rfl) (by kernel_rfl) (fun _ _ _ h => h) (YieldsR.read (fun w => But.refl [] w) ?_ fun w hS => ?_) ?_
        · go_simp
        · go_simp
        refine wpM_take (fun w => But.refl [] w) (fun x y z h k => h.trans k) (i := 25) (v := .int .i64 (q2 : Nat)) rfl (by kernel_rfl) (by kernel_rfl) (by kernel_rfl) (fun _ _ _ h => h) (YieldsR.read (fun w => But.refl [] w) ?_ fun w hS => ?_) ?_
        · go_simp
        · go_simp
        refine wpM_take (fun w => But.refl [] w) (fun x y z h k => h.trans k) (i := 26) (v := .string s2) rfl (by kernel_rfl) (by kernel_rfl) (by kernel_rfl) (fun _ _ _ h => h) (.inl ⟨?_, fun w hS => .inr ⟨_, _, ?_, (HT2.out w).mono ?_⟩⟩) ?_
        · go_simp
        · go_simp
        · rintro e wy ⟨rfl, hB⟩; exact ⟨rfl, hS.trans hB, hB⟩
        refine wpM_take (fun w => But.refl [] w) (fun x y z h k => h.trans k) (i := 27) (v := .string (s0 ++ s1 ++ s2)) rfl (by kernel_rfl) (by kernel_rfl) (by kernel_rfl) (fun _ _ _ h => h) (YieldsR.read (fun w => But.refl [] w) ?_ fun w hS => ?_) ?_
        · go_simp
        · go_simp
        refine wpM_take (fun w => But.refl [] w) (fun x y z h k => h.trans k) (i := 28) (v := .string sa) rfl (by kernel_rfl) (by kernel_rfl) (by kernel_rfl) (fun _ _ _ h => h) (YieldsR.read (fun w => But.refl [] w) ?_ fun w hS => ?_) ?_
        · go_simp
        · go_simp
        refine wpM_take (fun w => But.refl [] w) (fun x y z h k => h.trans k) (i := 29) (v := .string (s0 ++ s1 ++ s2 ++ sa)) rfl (by kernel_rfl) (by kernel_rfl) (by kernel_rfl) (fun _ _ _ h => h) (YieldsR.read (fun w => But.refl [] w) ?_ fun w hS => ?_) ?_
        · go_simp
        · go_simp
        refine wpM_take (fun w => But.refl [] w) (fun x y z h k => h.trans k) (i := 30) (v := .string (s0 ++ s1 ++ s2 ++ sa)) rfl (by kernel_rfl) (by kernel_rfl) (by kernel_rfl) (fun _ _ _ h => h) (YieldsR.read (fun w => But.refl [] w) ?_ fun w hS => ?_) ?_
        · go_simp
        · go_simp
        refine wpM_take (fun w => But.refl [] w) (fun x y z h k => h.trans k) (i := 31) (v := .int .i64 0) rfl (by kernel_rfl) (by kernel_rfl) (by kernel_rfl) (fun _ _ _ h => h) (YieldsR.read (fun w => But.refl [] w) ?_ fun w hS => ?_) ?_
        · go_simp
        · go_simp
        refine ⟨by kernel_rfl, fun w8 hR8 hS8 => ?_⟩
        have HB8 := Lib.hid hS8
        clear hR8 hS8
        go_simp
        go_wp2
        go_ret2
        refine ⟨?_, HA.out.trans HB8.out⟩
        rw [HE.out, HR.out _ HAL.out]
        try rfl
      · have HNC : Hid (c = 4 ∧ n = 2) := Lib.hid ⟨hcc, hnn⟩
        subst hcc hnn
        obtain ⟨x0, hx0⟩ : ∃ x, l[0]? = some x := ⟨_, List.getElem?_eq_getElem (by rw [HLN.out]; decide)⟩
        obtain ⟨s0, hs0⟩ : ∃ z, z = wB D x0 := ⟨_, rfl⟩
        have hz0 : s0.size = 2 := by rw [hs0]; unfold wB; rw [strL_size]; rfl
        have HM0 : Hid ((l.map (wB D))[0]? = some s0) := Lib.hid (by rw [List.getElem?_map, hx0, hs0]; rfl)
        have HX0 : Hid (wideA (l.getD 0 0) (D : Int) = wideA x0 (D : Int)) := Lib.hid (by rw [getD_of hx0])
        have HW0 : Hid (s0 = strL (twoB (wideA x0 (D : Int)))) := Lib.hid (by rw [hs0]; rfl)
        clear hx0 hs0
        obtain ⟨x1, hx1⟩ : ∃ x, l[1]? = some x := ⟨_, List.getElem?_eq_getElem (by rw [HLN.out]; decide)⟩
        obtain ⟨s1, hs1⟩ : ∃ z, z = wB D x1 := ⟨_, rfl⟩
        have hz1 : s1.size = 2 := by rw [hs1]; unfold wB; rw [strL_size]; rfl
        have HM1 : Hid ((l.map (wB D))[1]? = some s1) := Lib.hid (by rw [List.getElem?_map, hx1, hs1]; rfl)
        have HX1 : Hid (wideA (l.getD 1 0) (D : Int) = wideA x1 (D : Int)) := Lib.hid (by rw [getD_of hx1])
        have HW1 : Hid (s1 = strL (twoB (wideA x1 (D : Int)))) := Lib.hid (by rw [hs1]; rfl)
        clear hx1 hs1
        obtain ⟨gs, hA0, hgs, k0⟩ := HO2.out.at HM0.out
        subst hA0
        have k1 : _ ∧ _ := ⟨HO2.out.at HM1.out, trivial⟩
        obtain ⟨⟨gs1, hA1, _, k1⟩, _⟩ := k1
        obtain rfl : gs = gs1 := by injection hA1 with q; injection q
        clear hA1
        go_upto_region 19 with (fail)
        go_quiet (fail)
        go_wp2
        go_ret2
        refine ⟨?_, HA.out.trans (HB2.out.drewN _)⟩
        rw [HE.out]
        unfold pixA
        rw [if_neg (by decide), if_neg (by decide)]
        rw [if_pos rfl, HX0.out, HX1.out, ← px4_is, ← HW0.out, ← HW1.out]
        try rfl
      · have HNC : Hid (c = 6 ∧ n = 4) := Lib.hid ⟨hcc, hnn⟩
        subst hcc hnn
        obtain ⟨x0, hx0⟩ : ∃ x, l[0]? = some x := ⟨_, List.getElem?_eq_getElem (by rw [HLN.out]; decide)⟩
        obtain ⟨s0, hs0⟩ : ∃ z, z = wB D x0 := ⟨_, rfl⟩
        have hz0 : s0.size = 2 := by rw [hs0]; unfold wB; rw [strL_size]; rfl
        have HM0 : Hid ((l.map (wB D))[0]? = some s0) := Lib.hid (by rw [List.getElem?_map, hx0, hs0]; rfl)
        have HX0 : Hid (wideA (l.getD 0 0) (D : Int) = wideA x0 (D : Int)) := Lib.hid (by rw [getD_of hx0])
        have HW0 : Hid (s0 = strL (twoB (wideA x0 (D : Int)))) := Lib.hid (by rw [hs0]; rfl)
        clear hx0 hs0
        obtain ⟨x1, hx1⟩ : ∃ x, l[1]? = some x := ⟨_, List.getElem?_eq_getElem (by rw [HLN.out]; decide)⟩
        obtain ⟨s1, hs1⟩ : ∃ z, z = wB D x1 := ⟨_, rfl⟩
        have hz1 : s1.size = 2 := by rw [hs1]; unfold wB; rw [strL_size]; rfl
        have HM1 : Hid ((l.map (wB D))[1]? = some s1) := Lib.hid (by rw [List.getElem?_map, hx1, hs1]; rfl)
        have HX1 : Hid (wideA (l.getD 1 0) (D : Int) = wideA x1 (D : Int)) := Lib.hid (by rw [getD_of hx1])
        have HW1 : Hid (s1 = strL (twoB (wideA x1 (D : Int)))) := Lib.hid (by rw [hs1]; rfl)
        clear hx1 hs1
        obtain ⟨x2, hx2⟩ : ∃ x, l[2]? = some x := ⟨_, List.getElem?_eq_getElem (by rw [HLN.out]; decide)⟩
        obtain ⟨s2, hs2⟩ : ∃ z, z = wB D x2 := ⟨_, rfl⟩
        have hz2 : s2.size = 2 := by rw [hs2]; unfold wB; rw [strL_size]; rfl
        have HM2 : Hid ((l.map (wB D))[2]? = some s2) := Lib.hid (by rw [List.getElem?_map, hx2, hs2]; rfl)
        have HX2 : Hid (wideA (l.getD 2 0) (D : Int) = wideA x2 (D : Int)) := Lib.hid (by rw [getD_of hx2])
        have HW2 : Hid (s2 = strL (twoB (wideA x2 (D : Int)))) := Lib.hid (by rw [hs2]; rfl)
        clear hx2 hs2
        obtain ⟨x3, hx3⟩ : ∃ x, l[3]? = some x := ⟨_, List.getElem?_eq_getElem (by rw [HLN.out]; decide)⟩
        obtain ⟨s3, hs3⟩ : ∃ z, z = wB D x3 := ⟨_, rfl⟩
        have hz3 : s3.size = 2 := by rw [hs3]; unfold wB; rw [strL_size]; rfl
        have HM3 : Hid ((l.map (wB D))[3]? = some s3) := Lib.hid (by rw [List.getElem?_map, hx3, hs3]; rfl)
        have HX3 : Hid (wideA (l.getD 3 0) (D : Int) = wideA x3 (D : Int)) := Lib.hid (by rw [getD_of hx3])
        have HW3 : Hid (s3 = strL (twoB (wideA x3 (D : Int)))) := Lib.hid (by rw [hs3]; rfl)
        clear hx3 hs3
        obtain ⟨gs, hA0, hgs, k0⟩ := HO2.out.at HM0.out
        subst hA0
        have k1 : _ ∧ _ := ⟨HO2.out.at HM1.out, trivial⟩
        obtain ⟨⟨gs1, hA1, _, k1⟩, _⟩ := k1
        obtain rfl : gs = gs1 := by injection hA1 with q; injection q
        clear hA1
        have k2 : _ ∧ _ := ⟨HO2.out.at HM2.out, trivial⟩
        obtain ⟨⟨gs2, hA2, _, k2⟩, _⟩ := k2
        obtain rfl : gs = gs2 := by injection hA2 with q; injection q
        clear hA2
        have k3 : _ ∧ _ := ⟨HO2.out.at HM3.out, trivial⟩
        obtain ⟨⟨gs3, hA3, _, k3⟩, _⟩ := k3
        obtain rfl : gs = gs3 := by injection hA3 with q; injection q
        clear hA3
        go_upto_region 21 with (fail)
        go_quiet (fail)
        go_wp2
        go_ret2
        refine ⟨?_, HA.out.trans (HB2.out.drewN _)⟩
        rw [HE.out]
        unfold pixA
        rw [if_neg (by decide), if_neg (by decide), if_neg (by decide)]
        rw [if_pos rfl, HX0.out, HX1.out, HX2.out, HX3.out, ← px4_is, ← HW0.out, ← HW1.out, ← HW2.out, ← HW3.out]
        try rfl
theorem epixel_any (w : World) {a b c d e0 : Int} {pal tr : ByteArray} {has : Bool} {A : Option Addr} {n cp : Nat} {l : List Int} (hZ : Zs w A n l) (hF : ZFit l) (hn : n ≤ 1000) (hp : pal.size ≤ 140737488351232) (ht : tr.size ≤ 140737488351232) :
    Calls Tryd.prog 30 #[.agg #[.int .i64 a, .int .i64 b, .int .i64 d, .int .i64 c, .int .i64 e0, .string pal, .string tr, .bool has], .slice A n cp] w fun r w' => r = .returned (.tuple #[.string (pixelA d c pal tr has l).1, .int .i64 (pixelA d c pal tr has l).2]) ∧ But [] w w' := by
  by_cases hb : samplesI c ≠ (n : Int) ∨ n = 0 ∨ depB d = false
  · exact epixel_bad w hZ hn hb
  · have hd : depB d = true := by cases h : depB d; exact absurd (Or.inr (Or.inr h)) hb; rfl
    obtain ⟨D, rfl, _, _, _⟩ := depB_nat hd
    have h1 : samplesI c = (n : Int) := Classical.not_not.1 fun h => hb (.inl h)
    exact epixel_ok w hZ hF hd h1 (Nat.pos_of_ne_zero fun h => hb (.inr (.inl h))) hp ht
end Go.Proofs.YtfiedoejdikcgaaDoor
