/- Several texts in one: DkF, DkG, DkH (what DiskPlays reach of them). -/
import Derived.Test.YtchpincoddghfaaK01
import Derived.Test.YtchpincoddghfaaK07
import Derived.Test.YtchpincoddghfaaK11
import Derived.Below
import Derived.BigQuiet
import Derived.BigRegion
import Derived.Deep.AppendLies
import Derived.Deep.Cut
import Derived.Deep.CutBlock
import Derived.Deep.CutRange
import Derived.Deep.DeepCutAuto
import Derived.Deep.Draws
import Derived.Deep.Onto
import Derived.Deep.QuietTactic
import Derived.Deep.RegionLaw
import Derived.Deep.RegionWith
import Derived.Handy
import Derived.Laws.BitsAllLaws
import Derived.Laws.BitsLemmas
import Derived.Laws.BytesArg
import Derived.Laws.IdiomStrings
import Derived.Laws.MakeOwn
import Derived.Laws.OwnMore
import Derived.Laws.Rows
import Derived.Lib.Hide
import Derived.Maps.AppendAt
import Derived.OrdersHeld
import Derived.OrdersIn
import Derived.Outline
import Derived.OwnWalk
import Derived.OwnWalkIn
import Derived.RangeFuncCalls
import Derived.RegionTactic
import Derived.TacticsInMore
import Derived.Test.YtchpincoddghfaaChecked
import Derived.WalkKit
set_option maxRecDepth 100000
set_option linter.unusedVariables false
set_option maxRecDepth 100000
set_option linter.unusedVariables false
namespace Go.Proofs.Ytchpincoddghfaa
set_option maxRecDepth 100000
open Go Go.RowKit
set_option maxHeartbeats 1000000 in
theorem ecut16_any (w : World) {b : Nat} {S : List Nat} {σ : D16} (h : RD w b S σ) (hs : σ.steps < 900000000000000) (ha : σ.armed ≤ 9223372036854775807) (n z : Int) :
    Calls Try.prog 16 #[.pointer (some ⟨b, 0, none⟩), .int .i64 n, .int .i64 z] w fun e w' => e = .returned (.int .i64 (cuts16 σ n z).2) ∧ RD w' b S (cuts16 σ n z).1 ∧ But S w w' := by
  have HW := Lib.hid (ewrong16_any w h n)
  have HH := Lib.hid h
  have HM := Lib.hid h.mem
  by_cases h0 : wrong16 σ n = 0
  · obtain ⟨hd, hn0, hn1⟩ := wrong16_ok h0
    obtain ⟨k, rfl⟩ : ∃ k : Nat, n = (k : Int) := ⟨n.toNat, by omega⟩
    have HRD := Lib.hid (eread16_any w h (k : Int))
    have hrd : read16 σ (k : Int) = (get16 σ.l k, 0) := by unfold read16; rw [if_neg (fun e => e h0), Int.toNat_natCast]
    rw [hrd] at HRD
    rw [h0] at HW
    have hgl : (get16 σ.l k).length ≤ 16777216 := by
      cases hh : has16 σ.l k with
      | false => rw [get16_not hh]; exact Nat.zero_le _
      | true =>
        obtain ⟨f, hf, _, hg⟩ := get16_at h.ok.rise hh
        rw [hg]
        exact Nat.le_trans (size16_mem (List.mem_of_getElem? hf)) (Nat.le_trans h.ok.size h.ok.lim)
    obtain ⟨s, hss⟩ : ∃ x, x = strL (get16 σ.l k) := ⟨_, rfl⟩
    have hsl : s.size = (get16 σ.l k).length := by rw [hss, strL_size]
    rw [← hss] at HRD
    by_cases hz : z < 0 ∨ ((get16 σ.l k).length : Int) < z
    · have HR : Hid (cuts16 σ (k : Int) z = (σ, 1)) := Lib.hid (by unfold cuts16; rw [if_neg (fun e => e h0), Int.toNat_natCast, if_pos hz])
      rw [HR.out]
      by_cases hz0 : z < 0
      · clear HR hrd h hd h0 hz hss hsl hgl
        go_enter Try.func16, Try.ntmps16
        go_wp2_with fail
        refine HW.out.mono ?_
        rintro e wz ⟨rfl, rfl⟩
        go_wp2_with fail
        refine HRD.out.mono ?_
        rintro e w0 ⟨rfl, hB0⟩
        have HB0 := Lib.hid hB0
        have HD0 := Lib.hid (HH.out.but hB0 (fun _ _ => by simp))
        clear hB0
        go_wp2_with fail
        go_ret
        exact ⟨rfl, HD0.out, HB0.out.wideD⟩
      · have hz1 : (s.size : Int) < z := by omega
        clear HR hrd h hd h0 hz hss hsl hgl
        go_enter Try.func16, Try.ntmps16
        go_wp2_with fail
        refine HW.out.mono ?_
        rintro e wz ⟨rfl, rfl⟩
        go_wp2_with fail
        refine HRD.out.mono ?_
        rintro e w0 ⟨rfl, hB0⟩
        have HB0 := Lib.hid hB0
        have HD0 := Lib.hid (HH.out.but hB0 (fun _ _ => by simp))
        clear hB0
        go_wp2_with fail
        go_ret
        exact ⟨rfl, HD0.out, HB0.out.wideD⟩
    · obtain ⟨m, rfl⟩ : ∃ m : Nat, z = (m : Int) := ⟨z.toNat, by omega⟩
      have hz1 : ¬ (s.size : Int) < (m : Int) := by omega
      have HST : Hid (∀ v, RD v b S σ → Calls Try.prog 38 #[.pointer (some ⟨b, 0, none⟩)] v fun e w' => e = .returned (.bool (!(step16 σ).dead)) ∧ RD w' b S (step16 σ) ∧ But [b] v w') := Lib.hid fun v hv => estep16_any v hv hd hs ha
      obtain ⟨d, hdd⟩ : ∃ d, d = (step16 σ).dead := ⟨_, rfl⟩
      rw [← hdd] at HST
      cases d with
      | true =>
        have HR : Hid (cuts16 σ (k : Int) (m : Int) = (step16 σ, 50)) := Lib.hid (by unfold cuts16; rw [if_neg (fun e => e h0), Int.toNat_natCast, if_neg hz, if_pos hdd.symm])
        rw [HR.out]
        clear HR hdd h hd h0 hss hsl hz hgl hrd
        go_enter Try.func16, Try.ntmps16
        go_wp2_with fail
        refine HW.out.mono ?_
        rintro e wz ⟨rfl, rfl⟩
        go_wp2_with fail
        refine HRD.out.mono ?_
        rintro e w0 ⟨rfl, hB0⟩
        have HB0 := Lib.hid hB0
        have HD0 := Lib.hid (HH.out.but hB0 (fun _ _ => by simp))
        clear hB0
        go_wp2_with fail
        refine (HST.out _ HD0.out).mono ?_
        rintro e w1 ⟨rfl, hD1, hB1⟩
        have HF := Lib.hid (show RD w1 b S (step16 σ) ∧ But S w w1 from ⟨hD1, HB0.out.wideD.trans (hB1.intoD HM.out)⟩)
        clear hD1 hB1
        go_wp2
        go_ret
        exact ⟨rfl, HF.out⟩
      | false =>
        have hR0 : cuts16 σ (k : Int) (m : Int) = ({ step16 σ with l := cut16 σ.l k m }, 0) := by unfold cuts16; rw [if_neg (fun e => e h0), Int.toNat_natCast, if_neg hz, if_neg (by rw [← hdd]; decide), Int.toNat_natCast]
        have hok := ok16_cut (n := (k : Int)) (z := (m : Int)) h.ok
        rw [hR0] at hok ⊢
        have HA : Hid (∀ v, RD v b S (step16 σ) → Calls Try.prog 37 #[.pointer (some ⟨b, 0, none⟩), .int .i64 (k : Nat)] v fun e w' => e = .returned (.tuple #[.int .i64 (at16 σ.l k : Nat), .bool (has16 σ.l k)]) ∧ But [] v w') := Lib.hid fun v hv => eat16_any v hv k (by omega)
        obtain ⟨i, hi⟩ : ∃ i, i = at16 σ.l k := ⟨_, rfl⟩
        rw [← hi] at HA
        cases hh : has16 σ.l k with
        | false =>
          have HR : Hid (cut16 σ.l k m = σ.l) := Lib.hid (by
            unfold cut16
            have : (σ.l.map fun f => if f.num = k then { f with data := f.data.take m, syn := m } else f) = σ.l.map id := List.map_congr_left fun f hf => by
              rw [if_neg (has16_not hh f hf)]; rfl
            rw [this, List.map_id])
          have HST2 : Hid ({ step16 σ with l := σ.l } = step16 σ) := Lib.hid rfl
          rw [HR.out, HST2.out]
          rw [hh] at HA
          clear hdd h hd h0 hR0 hok HR hh hi HST2 hss hsl hz hgl hrd
          go_enter Try.func16, Try.ntmps16
          go_wp2_with fail
          refine HW.out.mono ?_
          rintro e wz ⟨rfl, rfl⟩
          go_wp2_with fail
          refine HRD.out.mono ?_
          rintro e w0 ⟨rfl, hB0⟩
          have HB0 := Lib.hid hB0
          have HD0 := Lib.hid (HH.out.but hB0 (fun _ _ => by simp))
          clear hB0
          go_wp2_with fail
          refine (HST.out _ HD0.out).mono ?_
          rintro e w1 ⟨rfl, hD1, hB1⟩
          have HF := Lib.hid (show RD w1 b S (step16 σ) ∧ But S w w1 from ⟨hD1, HB0.out.wideD.trans (hB1.intoD HM.out)⟩)
          clear hD1 hB1
          go_wp2_with fail
          refine (HA.out _ HF.out.1).mono ?_
          rintro e w2 ⟨rfl, hB2⟩
          have HF2 := Lib.hid (show RD w2 b S (step16 σ) ∧ But S w w2 from ⟨HF.out.1.but hB2 (fun _ _ => by simp), HF.out.2.trans hB2.wideD⟩)
          clear hB2
          go_wp2
          go_ret
          exact ⟨rfl, HF2.out⟩
        | true =>
          obtain ⟨f, hf, hfn, hg⟩ := get16_at h.ok.rise hh
          rw [← hi] at hf
          rw [hh] at HA
          have hfew := h.ok.few
          have hlt : i < σ.l.length := (List.getElem?_eq_some_iff.1 hf).1
          obtain ⟨τ, hτ⟩ : ∃ τ : D16, τ = { step16 σ with l := σ.l.set i { f with data := f.data.take m } } := ⟨_, rfl⟩
          have hf1 : τ.l[i]? = some { f with data := f.data.take m } := by rw [hτ]; show (σ.l.set i _)[i]? = _; rw [List.getElem?_set_self hlt]
          have e2 : cut16 σ.l k m = τ.l.set i { f with data := f.data.take m, syn := m } := by
            rw [hτ]
            show cut16 σ.l k m = (σ.l.set i _).set i _
            rw [List.set_set]
            exact map_set16 (fun f => { f with data := f.data.take m, syn := m }) h.ok.rise hf hfn
          have HP1 : Hid (∀ v g n c, RW v b S (step16 σ) → Is v b 57 #[.slice (some ⟨g, 0, none⟩) n c, .int .i64 (σ.limit : Nat), .int .i64 ((step16 σ).armed : Nat), .bool (step16 σ).dead, .int .i64 ((step16 σ).steps : Nat)] → RW (v.setCell ⟨g, i * 3 + 1, none⟩ (.string (strL (f.data.take m)))) b S τ ∧ But S v (v.setCell ⟨g, i * 3 + 1, none⟩ (.string (strL (f.data.take m))))) := Lib.hid fun v g n c hv hI =>
            hv.put hI (by rw [hτ]; show (σ.l.set i _).length = σ.l.length; rw [List.length_set]) (by rw [hτ]; exact flCells_data _ _ _ _ hf) (by rw [hτ]) (by rw [hτ]) (by rw [hτ]) (by rw [hτ])
          have HP2 : Hid (∀ v g n c, RW v b S τ → Is v b 57 #[.slice (some ⟨g, 0, none⟩) n c, .int .i64 (τ.limit : Nat), .int .i64 (τ.armed : Nat), .bool τ.dead, .int .i64 (τ.steps : Nat)] → RD (v.setCell ⟨g, i * 3 + 2, none⟩ (.int .i64 (m : Nat))) b S { step16 σ with l := cut16 σ.l k m } ∧ But S v (v.setCell ⟨g, i * 3 + 2, none⟩ (.int .i64 (m : Nat)))) := Lib.hid fun v g n c hv hI => by
            have hp := hv.put (τ := { step16 σ with l := cut16 σ.l k m }) hI (j := i * 3 + 2) (u := .int .i64 (m : Nat)) (by rw [e2]; show (τ.l.set i _).length = τ.l.length; rw [List.length_set]) (by rw [e2]; exact flCells_syn _ _ _ _ hf1) (by rw [hτ]) (by rw [hτ]) (by rw [hτ]) (by rw [hτ])
            exact ⟨hp.1.rd hok, hp.2⟩
          have HV1 : Hid (∀ v, RW v b S (step16 σ) → ∃ g c, Is v b 57 #[.slice (some ⟨g, 0, none⟩) σ.l.length c, .int .i64 (σ.limit : Nat), .int .i64 ((step16 σ).armed : Nat), .bool (step16 σ).dead, .int .i64 ((step16 σ).steps : Nat)] ∧ g < v.heap.size ∧
              ∀ v', But [] v v' → v'.cell? ⟨g, i * 3 + 1, none⟩ = some (.string (strL f.data)) ∧ v'.frozen? ⟨g, i * 3 + 1, none⟩ = false ∧ v'.cell? ⟨g, i * 3 + 2, none⟩ = some (.int .i64 (f.syn : Nat)) ∧ v'.frozen? ⟨g, i * 3 + 2, none⟩ = false ∧ g < v'.heap.size) := Lib.hid fun v hv => hv.view (f := f) hf
          have HV2 : Hid (∀ v, RW v b S τ → ∃ g c, Is v b 57 #[.slice (some ⟨g, 0, none⟩) σ.l.length c, .int .i64 (τ.limit : Nat), .int .i64 (τ.armed : Nat), .bool τ.dead, .int .i64 (τ.steps : Nat)] ∧ g < v.heap.size ∧
              ∀ v', But [] v v' → v'.cell? ⟨g, i * 3 + 1, none⟩ = some (.string (strL (f.data.take m))) ∧ v'.frozen? ⟨g, i * 3 + 1, none⟩ = false ∧ v'.cell? ⟨g, i * 3 + 2, none⟩ = some (.int .i64 (f.syn : Nat)) ∧ v'.frozen? ⟨g, i * 3 + 2, none⟩ = false ∧ g < v'.heap.size) := Lib.hid fun v hv => by
            have hvv := hv.view hf1
            rw [show τ.l.length = σ.l.length by rw [hτ]; show (σ.l.set i _).length = _; rw [List.length_set]] at hvv
            exact hvv
          have kc : ∀ v, (Instr.slice 9 (.string s) none (some (.int .i64 (m : Int))) none).run Try.prog v = .ok (.string (strL (f.data.take m))) v := fun v => by
            rw [hss, hg, run_slice_string_to_if v 9 (strL f.data) .i64 (m : Int) Try.underlying9, if_pos (by rw [strL_size, ← hg]; omega), Int.toNat_natCast, ext_list, strL_list, List.drop_zero]
          obtain ⟨y, hy⟩ : ∃ y, y = strL (f.data.take m) := ⟨_, rfl⟩
          simp only [← hy] at kc
          rw [← hy] at HP1 HV2
          obtain ⟨nn, hnn⟩ : ∃ m, m = σ.l.length := ⟨_, rfl⟩
          rw [← hnn] at HV1 HV2 hlt hfew
          have i0 : (0 : Int) ≤ (i : Int) := by omega
          have i1 : (i : Int) < (nn : Int) := by omega
          clear hdd h hd h0 hR0 hok hh hi hss hsl hz hgl hrd hf hfn hg hf1 e2 hy hnn hτ
          go_enter Try.func16, Try.ntmps16
          go_wp2_with fail
          refine HW.out.mono ?_
          rintro e wz ⟨rfl, rfl⟩
          go_wp2_with fail
          refine HRD.out.mono ?_
          rintro e w0 ⟨rfl, hB0⟩
          have HB0 := Lib.hid hB0
          have HD0 := Lib.hid (HH.out.but hB0 (fun _ _ => by simp))
          clear hB0
          go_wp2_with fail
          refine (HST.out _ HD0.out).mono ?_
          rintro e w1 ⟨rfl, hD1, hB1⟩
          have HF := Lib.hid (show RD w1 b S (step16 σ) ∧ But S w w1 from ⟨hD1, HB0.out.wideD.trans (hB1.intoD HM.out)⟩)
          clear hD1 hB1
          go_wp2_with fail
          refine (HA.out _ HF.out.1).mono ?_
          rintro e w2 ⟨rfl, hB2⟩
          have HF2 := Lib.hid (show RD w2 b S (step16 σ) ∧ But S w w2 from ⟨HF.out.1.but hB2 (fun _ _ => by simp), HF.out.2.trans hB2.wideD⟩)
          clear hB2
          go_upto_region 11 with (fail)
          obtain ⟨g, c, hI, hgl, hx⟩ := HV1.out _ HF2.out.1.rw
          have HI := Lib.hid hI
          have HX := Lib.hid hx
          clear hI hgl hx
          refine wp_region_z (z := 10) (S := fun v => But [] w2 v) (R := fun v v' => But [] v v') (fun w => But.refl [] w) (by kernel_rfl) (But.refl [] w2).drew ?_
          refine rz_k 0 (.pointer (some ⟨b, 0, none⟩)) ?_
          refine rz_k 1 (.pointer (some ⟨b, 0, none⟩)) ?_
          refine rz_k 2 (.pointer (some ⟨b, 0, none⟩)) ?_
          refine rz_q 3 (.slice (some ⟨g, 0, none⟩) nn c) (fun W hS => ?_) ?_
          · have y := (HI.out.but hS (by simp)).cell 0; go_simp
          refine rz_k 4 (.int .i64 (i : Int)) ?_
          refine rz_k 5 (.string s) ?_
          refine rz_k 6 (.int .i64 (m : Int)) ?_
          refine rz_k 7 (.string y) ?_
          refine rz_o 8 (.pointer (some ⟨g, i * 3, none⟩)) ?_
          refine rz_o 9 (.pointer (some ⟨g, i * 3 + 1, none⟩)) ?_
          refine wpZ_last rfl (by kernel_rfl) (by kernel_rfl) fun w3 hR3 hS3 K' hK => ?_
          have y1 := (HX.out w3 hS3).1
          have y2 := (HX.out w3 hS3).2.1
          have y3 := (HX.out w3 hS3).2.2.2.2
          have hF := HP1.out w3 g nn c (HF2.out.1.rw.but hS3) (HI.out.but hS3 (by simp))
          have HF4 := Lib.hid (show RW (w3.setCell ⟨g, i * 3 + 1, none⟩ (.string y)) b S τ ∧ But S w (w3.setCell ⟨g, i * 3 + 1, none⟩ (.string y)) from ⟨hF.1, (HF2.out.2.trans hS3.wideD).trans hF.2⟩)
          clear hF hR3 hS3
          go_simp
          refine hK _ _ ?_
          clear hK y1 y2 y3 kc
          obtain ⟨w4, hw4⟩ : ∃ X, X = w3.setCell ⟨g, i * 3 + 1, none⟩ (.string y) := ⟨_, rfl⟩
          rw [← hw4] at HF4 ⊢
          clear hw4 HI HX
          go_simp
          obtain ⟨g4, c4, hI, hgl, hx⟩ := HV2.out _ HF4.out.1
          have y0 := hI.cell 0
          have hbl := hI.lt
          have y1 := (hx _ (But.refl [] _)).2.2.1
          have y2 := (hx _ (But.refl [] _)).2.2.2.1
          have hF := HP2.out w4 g4 nn c4 HF4.out.1 hI
          have HF5 := Lib.hid (show RD (w4.setCell ⟨g4, i * 3 + 2, none⟩ (.int .i64 (m : Nat))) b S { step16 σ with l := cut16 σ.l k m } ∧ But S w (w4.setCell ⟨g4, i * 3 + 2, none⟩ (.int .i64 (m : Nat))) from ⟨hF.1, HF4.out.2.trans hF.2⟩)
          clear hF hI hx
          go_wp2
          go_ret
          exact ⟨rfl, HF5.out⟩
  · have HR : Hid (cuts16 σ n z = (σ, wrong16 σ n)) := Lib.hid (by unfold cuts16; rw [if_pos h0])
    rw [HR.out]
    obtain ⟨r, hr⟩ : ∃ r, r = wrong16 σ n := ⟨_, rfl⟩
    rw [← hr] at HW h0 ⊢
    have q1 : (r != 0) = true := by simpa using h0
    have q2 : (r = 0) = False := by simpa using h0
    clear hr h h0 HR
    go_enter Try.func16, Try.ntmps16
    go_wp2_with fail
    refine HW.out.mono ?_
    rintro e wz ⟨rfl, rfl⟩
    go_wp2
    go_ret
    exact ⟨rfl, HH.out, But.refl S _⟩
end Go.Proofs.Ytchpincoddghfaa
set_option maxRecDepth 100000
set_option linter.unusedVariables false
namespace Go.Proofs.Ytchpincoddghfaa
set_option maxRecDepth 100000
open Go Go.RowKit
theorem fl_oneCell (M : List F16) : ∀ u ∈ flCells M, u.oneCell' = true := by
  intro u hu
  unfold flCells at hu
  obtain ⟨x, _, hx⟩ := List.mem_flatMap.1 hu
  simp at hx
  rcases hx with rfl | rfl | rfl <;> rfl
/-- Files appended, whatever the shape of both. -/
theorem wpList_append_fl {w0 : World} (w : World) {ops : Array Oper} {rest : List Oper} {o : Oper} {a : Act} {Q : Exit → Act → World → Prop} (hgd : o.guard = none) (sl x : Operand)
    (ho : o.op = .call { callee := .builtin .append, args := #[sl, x], argTypes := #[55, 55] })
    (v : Value) (L : List F16) (hs : a.eval sl = v) (hO : OwnFl w w0.heap.size v L) (hB : But [] w0 w) (A : Option Addr) (m c : Nat) (M : List F16) (hx : a.eval x = .slice A m c) (hM : M.length = m)
    (hnone : A = none → m = 0 ∧ c = 0) (hc : ∀ ad, A = some ad → ∀ (j : Nat) (u : Value), (flCells M)[j]? = some u → w.cell? (ad.add j) = some u) (hbound : L.length + m ≤ 1000000)
    (h : ∀ v' w', Hid (OwnFl w' w0.heap.size v' (L ++ M)) → Hid (But [] w0 w') → wpList Try.prog ops Q rest (a.put o.dst v') w') : wpList Try.prog ops Q (o :: rest) a w := by
  obtain ⟨i0, hi0, hz0, hz1, hz2⟩ := info_parts info_file
  cases A with
  | none =>
    obtain ⟨rfl, rfl⟩ := hnone rfl
    obtain rfl : M = [] := List.eq_nil_of_length_eq_zero hM
    refine wpList_plain hgd fun K hK' => ?_
    have hrun := run_append_owned_none (P := Try.prog) w w0.heap.size 55 o.type 65 i0 3 Try.underlying55 hi0 v L.length (flCells L) hO
    unfold Oper.wp
    simp [execOp, ho, resolve, invoke, builtin, hs, hx, hrun, Result.andThen]
    exact hK' _ _ (h v w (Lib.hid (by rw [List.append_nil]; exact hO)) (Lib.hid hB))
  | some ad =>
    refine wpList_append_own_at w hgd sl x 55 ho w0.heap.size 65 i0 _ 3 32 Try.underlying55 hi0 hz0 hz1 hz2 rfl (by decide) v L.length (flCells L) hs hO ad m c (flCells M) hx (by rw [length_flCells, hM]) (hc ad rfl) (fl_oneCell M) (by unfold maxLen; omega) (by omega) hB.size ?_
    intro v' w' hown hgrow _ hat
    refine h v' w' (Lib.hid ?_) (Lib.hid (hB.grown hgrow (fun k e => .inr ?_)))
    · unfold OwnFl
      rw [List.length_append, flCells_append, hM]
      exact hown
    · exact (World.ownsRow.lt hO k e).1
theorem flCells_take (L : List F16) (i : Nat) : flCells (L.take i) = (flCells L).take (i * 3) := by
  induction L generalizing i with
  | nil => simp [flCells]
  | cons x L ih =>
    cases i with
    | zero => simp [flCells]
    | succ i => rw [List.take_succ_cons, flCells_cons, flCells_cons, ih, show (i + 1) * 3 = i * 3 + 1 + 1 + 1 by omega, List.take_succ_cons, List.take_succ_cons, List.take_succ_cons]
theorem flCells_drop (L : List F16) (i : Nat) : flCells (L.drop i) = (flCells L).drop (i * 3) := by
  induction L generalizing i with
  | nil => simp [flCells]
  | cons x L ih =>
    cases i with
    | zero => simp
    | succ i => rw [List.drop_succ_cons, flCells_cons, ih, show (i + 1) * 3 = i * 3 + 1 + 1 + 1 by omega, List.drop_succ_cons, List.drop_succ_cons, List.drop_succ_cons]
theorem cells_take16 {w : World} {g : Nat} {L : List F16} (i : Nat) (h : ∀ (j : Nat) (u : Value), (flCells L)[j]? = some u → w.cell? ⟨g, j, none⟩ = some u) : ∀ (j : Nat) (u : Value), (flCells (L.take i))[j]? = some u → w.cell? ((⟨g, 0, none⟩ : Addr).add j) = some u := by
  intro j u hu
  rw [flCells_take] at hu
  have hj : (flCells L)[j]? = some u := by
    rw [List.getElem?_take] at hu
    split at hu
    · exact hu
    · cases hu
  rw [Go.WideShapes.add_plain, Nat.zero_add]
  exact h j u hj
theorem cells_drop16 {w : World} {g o : Nat} {L : List F16} (i : Nat) (ho : o = i * 3) (h : ∀ (j : Nat) (u : Value), (flCells L)[j]? = some u → w.cell? ⟨g, j, none⟩ = some u) : ∀ (j : Nat) (u : Value), (flCells (L.drop i))[j]? = some u → w.cell? ((⟨g, o, none⟩ : Addr).add j) = some u := by
  intro j u hu
  rw [flCells_drop, List.getElem?_drop] at hu
  rw [Go.WideShapes.add_plain, ho]
  exact h _ u hu
theorem drop_at16 {l : List F16} {n : Nat} (h : l.Pairwise fun a b => a.num < b.num) (hh : has16 l n = true) : drop16 l n = l.take (at16 l n) ++ l.drop (at16 l n + 1) := by
  obtain ⟨f, hf, hfn, _⟩ := get16_at h hh
  obtain ⟨i, hi⟩ : ∃ i, i = at16 l n := ⟨_, rfl⟩
  rw [← hi] at hf ⊢
  have e : l = l.take i ++ f :: l.drop (i + 1) := by
    rw [← List.getElem?_eq_some_iff.1 hf |>.2, List.getElem_cons_drop, List.take_append_drop]
  have h2 := h
  rw [e, List.pairwise_append] at h2
  have hp := List.pairwise_cons.1 h2.2.1
  unfold drop16
  conv => lhs; rw [e]
  rw [List.filter_append, List.filter_cons_of_neg (by simp [hfn])]
  rw [List.filter_eq_self.2 (fun x hx => by
    have := h2.2.2 x hx f (List.mem_cons_self ..)
    simp only [Bool.not_eq_true', beq_eq_false_iff_ne]; omega)]
  rw [List.filter_eq_self.2 (fun x hx => by
    have := hp.1 x hx
    simp only [Bool.not_eq_true', beq_eq_false_iff_ne]; omega)]
theorem drop_not16 {l : List F16} {n : Nat} (hh : has16 l n = false) : drop16 l n = l := by
  unfold drop16
  exact List.filter_eq_self.2 fun x hx => by simpa using has16_not hh x hx
/-- The disk with another row. -/
theorem RD.rowed {w w' : World} {b : Nat} {S : List Nat} {σ τ : D16} {v : Value} (h : RD w b S σ) (hB : But [] w w') (hO : OwnFl w' w.heap.size v τ.l) (hlim : τ.limit = σ.limit) (ha : τ.armed = σ.armed) (hd : τ.dead = σ.dead) (hs : τ.steps = σ.steps) :
    ∃ S', RW (w'.setCell ⟨b, 0, none⟩ v) b S' τ ∧ But S w (w'.setCell ⟨b, 0, none⟩ v) ∧ ∀ x ∈ S', x ∈ S ∨ w.heap.size ≤ x := by
  obtain ⟨u, hI, _, _⟩ := h.row
  have hI2 := (hI.but hB (by simp)).put 0 v
  have hb : b < w.heap.size := hI.lt
  have hO2 : OwnFl (w'.setCell ⟨b, 0, none⟩ v) w.heap.size v τ.l := hO.but ((But.refl [b] w').setCell (.inl (by simp)) _) fun g e => by
    have := (World.ownsRow.lt hO g e).1
    simp; omega
  have hBS : But S w (w'.setCell ⟨b, 0, none⟩ v) := (hB.wideD (S := S)).setCell (.inl h.mem) _
  refine ⟨b :: (match v.ownBlock with | some g => [g] | none => []), ⟨⟨v, ?_, ?_, ?_⟩, List.mem_cons_self .., ?_⟩, hBS, ?_⟩
  · rw [hlim, ha, hd, hs]; exact hI2
  · exact World.ownsRow.mono hO2 (Nat.zero_le _)
  · intro g e
    have := (World.ownsRow.lt hO g e).1
    rw [e]
    exact ⟨by omega, by simp⟩
  · intro x hx
    rcases List.mem_cons.1 hx with rfl | hx
    · exact Nat.lt_of_lt_of_le hb hBS.size
    · cases e : v.ownBlock with
      | none => rw [e] at hx; cases hx
      | some g =>
        rw [e] at hx
        have hxg : x = g := by simpa using hx
        rw [hxg]
        exact (World.ownsRow.lt hO2 g e).2
  · intro x hx
    rcases List.mem_cons.1 hx with rfl | hx
    · exact .inl h.mem
    · cases e : v.ownBlock with
      | none => rw [e] at hx; cases hx
      | some g =>
        rw [e] at hx
        have hxg : x = g := by simpa using hx
        rw [hxg]
        exact .inr (World.ownsRow.lt hO g e).1
end Go.Proofs.Ytchpincoddghfaa
set_option maxRecDepth 100000
set_option linter.unusedVariables false
namespace Go.Proofs.Ytchpincoddghfaa
set_option maxRecDepth 100000
open Go Go.RowKit
theorem RD.left0 {w w' : World} {b : Nat} {S : List Nat} {σ : D16} (h : RD w' b S σ) (hw : But S w w') : Left RD w b S σ w' := ⟨S, h, hw, fun x hx => .inl hx⟩
set_option maxHeartbeats 1000000 in
theorem edrop16_any (w : World) {b : Nat} {S : List Nat} {σ : D16} (h : RD w b S σ) (hs : σ.steps < 900000000000000) (ha : σ.armed ≤ 9223372036854775807) (n : Int) :
    Calls Try.prog 18 #[.pointer (some ⟨b, 0, none⟩), .int .i64 n] w fun e w' => e = .returned (.int .i64 (drops16 σ n).2) ∧ Left RD w b S (drops16 σ n).1 w' := by
  have HW := Lib.hid (ewrong16_any w h n)
  have HH := Lib.hid h
  have HM := Lib.hid h.mem
  by_cases h0 : wrong16 σ n = 0
  · obtain ⟨hd, hn0, hn1⟩ := wrong16_ok h0
    obtain ⟨k, rfl⟩ : ∃ k : Nat, n = (k : Int) := ⟨n.toNat, by omega⟩
    have HST := Lib.hid (estep16_any w h hd hs ha)
    rw [h0] at HW
    obtain ⟨d, hdd⟩ : ∃ d, d = (step16 σ).dead := ⟨_, rfl⟩
    rw [← hdd] at HST
    cases d with
    | true =>
      have HR : Hid (drops16 σ (k : Int) = (step16 σ, 50)) := Lib.hid (by unfold drops16; rw [if_neg (fun e => e h0), if_pos hdd.symm])
      rw [HR.out]
      clear HR hdd h hd h0
      go_enter Try.func18, Try.ntmps18
      go_wp2_with fail
      refine HW.out.mono ?_
      rintro e wz ⟨rfl, rfl⟩
      go_wp2_with fail
      refine HST.out.mono ?_
      rintro e w1 ⟨rfl, hD1, hB1⟩
      have HF := Lib.hid (show RD w1 b S (step16 σ) ∧ But S w w1 from ⟨hD1, hB1.intoD HM.out⟩)
      clear hD1 hB1
      go_wp2
      go_ret
      exact ⟨rfl, HF.out.1.left0 HF.out.2⟩
    | false =>
      have hR0 : drops16 σ (k : Int) = ({ step16 σ with l := drop16 σ.l k }, 0) := by unfold drops16; rw [if_neg (fun e => e h0), if_neg (by rw [← hdd]; decide), Int.toNat_natCast]
      have hok := ok16_drop (n := (k : Int)) h.ok
      rw [hR0] at hok ⊢
      have HA : Hid (∀ v, RD v b S (step16 σ) → Calls Try.prog 37 #[.pointer (some ⟨b, 0, none⟩), .int .i64 (k : Nat)] v fun e w' => e = .returned (.tuple #[.int .i64 (at16 σ.l k : Nat), .bool (has16 σ.l k)]) ∧ But [] v w') := Lib.hid fun v hv => eat16_any v hv k (by omega)
      obtain ⟨i, hi⟩ : ∃ i, i = at16 σ.l k := ⟨_, rfl⟩
      rw [← hi] at HA
      cases hh : has16 σ.l k with
      | false =>
        have HR : Hid (drop16 σ.l k = σ.l) := Lib.hid (drop_not16 hh)
        have HST2 : Hid ({ step16 σ with l := σ.l } = step16 σ) := Lib.hid rfl
        rw [HR.out, HST2.out]
        rw [hh] at HA
        clear hdd h hd h0 hR0 hok HR hh hi HST2
        go_enter Try.func18, Try.ntmps18
        go_wp2_with fail
        refine HW.out.mono ?_
        rintro e wz ⟨rfl, rfl⟩
        go_wp2_with fail
        refine HST.out.mono ?_
        rintro e w1 ⟨rfl, hD1, hB1⟩
        have HF := Lib.hid (show RD w1 b S (step16 σ) ∧ But S w w1 from ⟨hD1, hB1.intoD HM.out⟩)
        clear hD1 hB1
        go_wp2_with fail
        refine (HA.out _ HF.out.1).mono ?_
        rintro e w2 ⟨rfl, hB2⟩
        have HF2 := Lib.hid (show RD w2 b S (step16 σ) ∧ But S w w2 from ⟨HF.out.1.but hB2 (fun _ _ => by simp), HF.out.2.trans hB2.wideD⟩)
        clear hB2
        go_wp2
        go_ret
        exact ⟨rfl, HF2.out.1.left0 HF2.out.2⟩
      | true =>
        obtain ⟨f, hf, hfn, hg⟩ := get16_at h.ok.rise hh
        have hdr := drop_at16 h.ok.rise hh
        rw [← hi] at hf hdr
        rw [hh] at HA
        have hfew := h.ok.few
        have hlt : i < σ.l.length := (List.getElem?_eq_some_iff.1 hf).1
        obtain ⟨L, hL⟩ : ∃ L, L = σ.l := ⟨_, rfl⟩
        have HV : Hid (∀ v, RD v b S (step16 σ) → ∃ g c, (Is v b 57 #[.slice (some ⟨g, 0, none⟩) L.length c, .int .i64 (σ.limit : Nat), .int .i64 ((step16 σ).armed : Nat), .bool (step16 σ).dead, .int .i64 ((step16 σ).steps : Nat)]) ∧ g < v.heap.size ∧ L.length ≤ c ∧ ∀ (j : Nat) (u : Value), (flCells L)[j]? = some u → v.cell? ⟨g, j, none⟩ = some u) := Lib.hid fun v hv => by
          obtain ⟨u, hI, hO, _⟩ := hv.row
          obtain ⟨A, c, e, hlc, _, hx⟩ := hO.view
          obtain ⟨g, e', hl, _⟩ := hx i f hf
          rw [e, e'] at hI hO
          rw [hL]
          exact ⟨g, c, hI, hl, hlc, hO.cells⟩
        have HRW : Hid (∀ (w2 w' : World) (v : Value), RD w2 b S (step16 σ) → But [] w2 w' → OwnFl w' w2.heap.size v (L.take i ++ L.drop (i + 1)) → But S w w2 → Left RD w b S { step16 σ with l := drop16 σ.l k } (w'.setCell ⟨b, 0, none⟩ v)) := Lib.hid fun w2 w' v hv hB hO hw => by
          obtain ⟨S', h1, h2, h3⟩ := hv.rowed (τ := { step16 σ with l := drop16 σ.l k }) hB (by rw [show ({ step16 σ with l := drop16 σ.l k } : D16).l = drop16 σ.l k from rfl, hdr, ← hL]; exact hO) rfl rfl rfl rfl
          exact ⟨S', h1.rd hok, hw.trans h2, fun x hx => (h3 x hx).imp id (fun h => Nat.le_trans hw.size h)⟩
        rw [← hL] at hlt hfew
        obtain ⟨m, hm⟩ : ∃ m, m = L.length := ⟨_, rfl⟩
        rw [← hm] at HV hlt hfew
        have HLm : Hid (L.length = m) := Lib.hid hm.symm
        have HT1 : Hid ((L.take i).length = i) := Lib.hid (by rw [List.length_take]; omega)
        have HT2 : Hid ((L.drop (i + 1)).length = m - (i + 1)) := Lib.hid (by rw [List.length_drop, hm])
        clear hdd h hd h0 hR0 hok hh hi hf hfn hg hm hL hdr
        go_enter Try.func18, Try.ntmps18
        go_wp2_with fail
        refine HW.out.mono ?_
        rintro e wz ⟨rfl, rfl⟩
        go_wp2_with fail
        refine HST.out.mono ?_
        rintro e w1 ⟨rfl, hD1, hB1⟩
        have HF := Lib.hid (show RD w1 b S (step16 σ) ∧ But S w w1 from ⟨hD1, hB1.intoD HM.out⟩)
        clear hD1 hB1
        go_wp2_with fail
        refine (HA.out _ HF.out.1).mono ?_
        rintro e w2 ⟨rfl, hB2⟩
        have HF2 := Lib.hid (show RD w2 b S (step16 σ) ∧ But S w w2 from ⟨HF.out.1.but hB2 (fun _ _ => by simp), HF.out.2.trans hB2.wideD⟩)
        clear hB2
        obtain ⟨g, c, hI, hgl, hmc, hx⟩ := HV.out _ HF2.out.1
        have HI := Lib.hid hI
        have HX := Lib.hid hx
        have HGL := Lib.hid hgl
        have c0 := hI.cell 0
        have hbl := hI.lt
        clear hI hx
        have s1 : decide ((c : Int) < (i : Int)) = false := by simp; omega
        have s2 : decide (c < i) = false := by simp; omega
        have i0 : (0 : Int) ≤ (i : Int) := by omega
        go_upto_region 10 with (at_builtin; refine wpList_append_fl (w0 := w2) _ rfl _ _ rfl (.slice none 0 0) [] rfl (OwnFl.nil _ _) (But.refl [] _) (some ⟨g, 0, none⟩) i c (L.take i) rfl HT1.out (fun e => by cases e) (fun ad e => by cases e; exact cells_take16 i HX.out) (by show 0 + i ≤ 1000000; omega) ?_; intro v1 w3 HO3 HB3)
        clear c0 hbl s1 s2
        have HO3 := Lib.hid (show OwnFl w3 w2.heap.size v1 (L.take i) from HO3.out)
        have HX3 : Hid (∀ (j : Nat) (u : Value), (flCells L)[j]? = some u → w3.cell? ⟨g, j, none⟩ = some u) := Lib.hid fun j u hu => HB3.out.cell (HX.out j u hu) (by simp)
        have c0 := (HI.out.but HB3.out (by simp)).cell 0
        have hbl := (HI.out.but HB3.out (by simp)).lt
        have f0 := (HI.out.but HB3.out (by simp)).free 0
        obtain ⟨i1, hi1⟩ : ∃ x, x = i + 1 := ⟨_, rfl⟩
        have HI1 := Lib.hid hi1
        have e1 : (i : Int) + 1 = (i1 : Int) := by omega
        have v1w := wrapI_in (show i1 < 1000000000000000 by omega)
        have s1 : decide ((m : Int) < (i1 : Int)) = false := by simp; omega
        have s2 : decide (m < i1) = false := by simp; omega
        have s3 : decide (c < m) = false := by simp; omega
        have j0 : (0 : Int) ≤ (i1 : Int) := by omega
        rw [← hi1] at HT2 HRW
        clear hi1
        have HNil : Hid (c = i1 → flCells (L.drop i1) = []) := Lib.hid fun e => by
          rw [List.drop_eq_nil_of_le (by have := HLm.out; omega)]; rfl
        by_cases hci : c = i1
        · go_wp2_with (at_builtin; (refine wpList_append_fl (w0 := w2) _ rfl _ _ rfl v1 (L.take i) rfl HO3.out HB3.out (some ⟨g, 0, none⟩) (m - i1) 0 (L.drop i1) rfl HT2.out (fun e => by cases e) ?hc8 (by rw [HT1.out]; omega) ?_); (case hc8 => intro ad e j u hu; rw [HNil.out hci] at hu; simp at hu); intro v2 w4 HO4 HB4; obtain ⟨A4, c4, hv4, _⟩ := HO4.out.view; obtain ⟨n4, hn4⟩ : ∃ x, x = (L.take i ++ L.drop i1).length := ⟨_, rfl⟩; rw [← hn4] at hv4; clear hn4; subst hv4; have c0 := (HI.out.but HB4.out (by simp)).cell 0; have hbl := (HI.out.but HB4.out (by simp)).lt; have f0 := (HI.out.but HB4.out (by simp)).free 0)
          have HF9 := Lib.hid (HRW.out w2 w4 _ HF2.out.1 HB4.out HO4.out HF2.out.2)
          go_wp2
          go_ret
          exact ⟨rfl, HF9.out⟩
        · go_wp2_with (at_builtin; (refine wpList_append_fl (w0 := w2) _ rfl _ _ rfl v1 (L.take i) rfl HO3.out HB3.out (some ⟨g, i1 * 3, none⟩) (m - i1) (c - i1) (L.drop i1) rfl HT2.out (fun e => by cases e) ?hc8 (by rw [HT1.out]; omega) ?_); (case hc8 => intro ad e; cases e; exact cells_drop16 i1 rfl HX3.out); intro v2 w4 HO4 HB4; obtain ⟨A4, c4, hv4, _⟩ := HO4.out.view; obtain ⟨n4, hn4⟩ : ∃ x, x = (L.take i ++ L.drop i1).length := ⟨_, rfl⟩; rw [← hn4] at hv4; clear hn4; subst hv4; have c0 := (HI.out.but HB4.out (by simp)).cell 0; have hbl := (HI.out.but HB4.out (by simp)).lt; have f0 := (HI.out.but HB4.out (by simp)).free 0)
          have HF9 := Lib.hid (HRW.out w2 w4 _ HF2.out.1 HB4.out HO4.out HF2.out.2)
          go_wp2
          go_ret
          exact ⟨rfl, HF9.out⟩
  · have HR : Hid (drops16 σ n = (σ, wrong16 σ n)) := Lib.hid (by unfold drops16; rw [if_pos h0])
    rw [HR.out]
    obtain ⟨r, hr⟩ : ∃ r, r = wrong16 σ n := ⟨_, rfl⟩
    rw [← hr] at HW h0 ⊢
    have q1 : (r != 0) = true := by simpa using h0
    have q2 : (r = 0) = False := by simpa using h0
    clear hr h h0 HR
    go_enter Try.func18, Try.ntmps18
    go_wp2_with fail
    refine HW.out.mono ?_
    rintro e wz ⟨rfl, rfl⟩
    go_wp2
    go_ret
    exact ⟨rfl, HH.out.left0 (But.refl S _)⟩
end Go.Proofs.Ytchpincoddghfaa
