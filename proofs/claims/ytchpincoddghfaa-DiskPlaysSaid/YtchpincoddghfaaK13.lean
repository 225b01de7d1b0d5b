/- Several texts in one: DkI, DkK (what DiskPlays reach of them). -/
import Derived.Test.YtchpincoddghfaaK01
import Derived.Test.YtchpincoddghfaaK07
import Derived.Test.YtchpincoddghfaaK11
import Derived.Test.YtchpincoddghfaaK12
import Derived.Below
import Derived.BigQuiet
import Derived.BigRegion
import Derived.Deep.AppendLies
import Derived.Deep.Cut
import Derived.Deep.CutBlock
import Derived.Deep.CutRange
import Derived.Deep.DeepCutAuto
import Derived.Deep.Draws
import Derived.Deep.Onto
import Derived.Deep.QuietTactic
import Derived.Deep.RegionLaw
import Derived.Deep.RegionWith
import Derived.Handy
import Derived.Laws.BitsAllLaws
import Derived.Laws.BitsLemmas
import Derived.Laws.BytesArg
import Derived.Laws.IdiomStrings
import Derived.Laws.MakeOwn
import Derived.Laws.OwnMore
import Derived.Laws.Rows
import Derived.Lib.Hide
import Derived.Maps.AppendAt
import Derived.OrdersHeld
import Derived.OrdersIn
import Derived.Outline
import Derived.OwnWalk
import Derived.OwnWalkIn
import Derived.RangeFuncCalls
import Derived.RegionTactic
import Derived.TacticsInMore
import Derived.Test.YtchpincoddghfaaChecked
import Derived.WalkKit
set_option maxRecDepth 100000
set_option linter.unusedVariables false
set_option maxRecDepth 100000
set_option linter.unusedVariables false
namespace Go.Proofs.Ytchpincoddghfaa
set_option maxRecDepth 100000
open Go Go.RowKit
theorem put_has16 {l : List F16} {n i : Nat} {f : F16} {s : List UInt8} (h : l.Pairwise fun a b => a.num < b.num) (hh : has16 l n = true) (hi : l[i]? = some f) (hn : f.num = n) : put16 l n s = l.set i { f with data := f.data ++ s } := by
  unfold put16
  rw [if_pos hh]
  exact map_set16 (fun f => { f with data := f.data ++ s }) h hi hn
theorem put_new16 {l : List F16} {n i : Nat} {s : List UInt8} (hh : has16 l n = false) (hi : i = at16 l n) : put16 l n s = (l.take i ++ ⟨n, [], 0⟩ :: l.drop i).set i { (⟨n, [], 0⟩ : F16) with data := [] ++ s } ∧ (l.take i ++ ⟨n, [], 0⟩ :: l.drop i)[i]? = some ⟨n, [], 0⟩ := by
  have hl : (l.take i).length = i := by rw [List.length_take]; have := at16_le l n; omega
  constructor
  · unfold put16
    rw [hh, if_neg (by decide), ← hi, List.nil_append, List.set_append_right _ _ (by omega), hl, Nat.sub_self, List.set_cons_zero]
  · rw [List.getElem?_append_right (by omega), hl, Nat.sub_self]
    rfl
set_option maxHeartbeats 2000000 in
theorem eappend16_any (w : World) {b : Nat} {S : List Nat} {σ : D16} (h : RD w b S σ) (hs : σ.steps < 900000000000000) (ha : σ.armed ≤ 9223372036854775807) (n : Int) (s : ByteArray) (hsl : s.size ≤ 140737488355328) :
    Calls Try.prog 12 #[.pointer (some ⟨b, 0, none⟩), .int .i64 n, .string s] w fun e w' => e = .returned (.int .i64 (append16 σ n s.data.toList).2) ∧ Left RD w b S (append16 σ n s.data.toList).1 w' := by
  have HW := Lib.hid (ewrong16_any w h n)
  have HH := Lib.hid h
  have HM := Lib.hid h.mem
  obtain ⟨sl, hsl2⟩ : ∃ x, x = s.data.toList := ⟨_, rfl⟩
  have hlen : sl.length = s.size := by rw [hsl2, Array.length_toList]; rfl
  have hstr : strL sl = s := by rw [hsl2]; exact strL_of s
  rw [← hsl2]
  clear hsl2
  by_cases h0 : wrong16 σ n = 0
  · obtain ⟨hd, hn0, hn1⟩ := wrong16_ok h0
    obtain ⟨k, rfl⟩ : ∃ k : Nat, n = (k : Int) := ⟨n.toNat, by omega⟩
    rw [h0] at HW
    have HSZ : Hid (∀ v, But [] w v → Calls Try.prog 29 #[.pointer (some ⟨b, 0, none⟩)] v fun e w' => e = .returned (.int .i64 (size16 σ.l : Nat)) ∧ But [] v w') := Lib.hid fun v hv => esize16_any v (h.but hv (fun _ _ => by simp))
    have HLM : Hid (∀ v, But [] w v → v.cell? ⟨b, 1, none⟩ = some (.int .i64 (σ.limit : Nat))) := Lib.hid fun v hv => by
      obtain ⟨u, hI, _⟩ := h.row
      exact (hI.but hv (by simp)).cell 1
    have hbl : ∀ v, But [] w v → b < v.heap.size := fun v hv => Nat.lt_of_lt_of_le (h.lt b h.mem) hv.size
    have hzl : size16 σ.l ≤ 16777216 := Nat.le_trans h.ok.size h.ok.lim
    have hll := h.ok.lim
    obtain ⟨z, hz⟩ : ∃ z, z = size16 σ.l := ⟨_, rfl⟩
    obtain ⟨lm, hlm⟩ : ∃ z, z = σ.limit := ⟨_, rfl⟩
    obtain ⟨zs, hzs⟩ : ∃ x, x = z + s.size := ⟨_, rfl⟩
    rw [← hz] at HSZ hzl
    rw [← hlm] at HLM hll
    have e1 : (z : Int) + (s.size : Int) = (zs : Int) := by omega
    have v1 := wrapI_in (show zs < 1000000000000000 by omega)
    obtain ⟨over, hov⟩ : ∃ x : Bool, x = decide ((lm : Int) < (zs : Int)) := ⟨_, rfl⟩
    have q1 : decide ((lm : Int) < (zs : Int)) = over := hov.symm
    have q1n : decide (lm < zs) = over := by rw [hov]; congr 1; exact propext ⟨fun h => by omega, fun h => by omega⟩
    cases over with
    | true =>
      have hov2 := of_decide_eq_true q1
      have HR : Hid (append16 σ (k : Int) sl = (σ, 51)) := Lib.hid (by unfold append16; rw [if_neg (fun e => e h0), if_pos (by rw [hlen, ← hz, ← hlm]; omega)])
      rw [HR.out]
      have q2 := hov2
      clear HR h hd h0 hz hlm hzs hov hlen hstr hov2 hbl
      go_enter Try.func12, Try.ntmps12
      go_wp2_with fail
      refine HW.out.mono ?_
      rintro e wz ⟨rfl, rfl⟩
      go_upto_region 4 with (fail)
      refine wp_region_m (S := fun v => But [] w v) (R := fun v v' => But [] v v') (fun w => But.refl [] w) (by kernel_rfl) ((But.refl [] w).drew) ?_
      refine rdk 0 (.pointer (some ⟨b, 0, none⟩)) ?_
      refine wpM_take (fun w => But.refl [] w) (fun x y z h k => h.trans k) (i := 1) (v := .int .i64 (z : Int)) rfl (by kernel_rfl) (by kernel_rfl) (by kernel_rfl) (fun _ _ _ h => h) (.inl ⟨?_, fun w hS => .inr ⟨_, _, ?_, (HSZ.out w hS).mono ?_⟩⟩) ?_
      · go_simp
      · go_simp
      · rintro e wy ⟨rfl, hB⟩; exact ⟨rfl, hS.trans hB, hB⟩
      refine rdk 2 (.string s) ?_
      refine rdk 3 (.int .i64 (s.size : Int)) ?_
      refine rdk 4 (.int .i64 (zs : Int)) ?_
      refine rdk 5 (.pointer (some ⟨b, 0, none⟩)) ?_
      refine rdk 6 (.pointer (some ⟨b, 0, none⟩)) ?_
      refine rdk 7 (.pointer (some ⟨b, 1, none⟩)) ?_
      refine rdq 8 (.int .i64 (lm : Int)) (fun w' hS => ?_) ?_
      · have y := HLM.out w' hS; go_simp
      refine rdk 9 (.bool true) ?_
      refine ⟨by kernel_rfl, fun w1 hR1 hS1 => ?_⟩
      have HB1 := Lib.hid hS1
      clear hR1 hS1
      go_simp
      go_wp2
      go_ret
      exact ⟨rfl, (HH.out.but HB1.out (fun _ _ => by simp)).left0 HB1.out.wideD⟩
    | false =>
      have hov2 := of_decide_eq_false q1
      have q2 := hov2
      have hR0 : append16 σ (k : Int) sl = ({ step16 σ with l := put16 σ.l k sl }, if (step16 σ).dead then 50 else 0) := by
        unfold append16
        rw [if_neg (fun e => e h0), if_neg (by rw [hlen, ← hz, ← hlm]; omega), Int.toNat_natCast]
      have hok0 := ok16_append (n := (k : Int)) (s := sl) h.ok
      rw [hR0] at hok0 ⊢
      have hok : Ok16 { σ with l := put16 σ.l k sl } := ⟨hok0.rise, hok0.syn, hok0.num, hok0.size, hok0.lim⟩
      obtain ⟨d, hdd⟩ : ∃ d, d = (step16 σ).dead := ⟨_, rfl⟩
      have HST : Hid (∀ v S', RD v b S' { σ with l := put16 σ.l k sl } → Calls Try.prog 38 #[.pointer (some ⟨b, 0, none⟩)] v fun e w' => e = .returned (.bool (!d)) ∧ RD w' b S' { step16 σ with l := put16 σ.l k sl } ∧ But [b] v w') := Lib.hid fun v S' hv => by
        rw [hdd]
        exact estep16_any v hv hd hs ha
      rw [← hdd]
      have HA : Hid (∀ v, But [] w v → Calls Try.prog 37 #[.pointer (some ⟨b, 0, none⟩), .int .i64 (k : Nat)] v fun e w' => e = .returned (.tuple #[.int .i64 (at16 σ.l k : Nat), .bool (has16 σ.l k)]) ∧ But [] v w') := Lib.hid fun v hv => eat16_any v (h.but hv (fun _ _ => by simp)) k (by omega)
      obtain ⟨i, hi⟩ : ∃ i, i = at16 σ.l k := ⟨_, rfl⟩
      rw [← hi] at HA
      have hfew := h.ok.few
      have hile : i ≤ σ.l.length := by rw [hi]; exact at16_le _ _
      cases hh : has16 σ.l k with
      | true =>
        obtain ⟨f, hf, hfn, hg⟩ := get16_at h.ok.rise hh
        rw [← hi] at hf
        rw [hh] at HA
        have hlt : i < σ.l.length := (List.getElem?_eq_some_iff.1 hf).1
        have hput := put_has16 (s := sl) h.ok.rise hh hf hfn
        have hfl : f.data.length ≤ 16777216 := Nat.le_trans (size16_mem (List.mem_of_getElem? hf)) (by rw [← hz]; exact hzl)
        obtain ⟨xo, hxo⟩ : ∃ x, x = strL f.data := ⟨_, rfl⟩
        have hxs : xo.size = f.data.length := by rw [hxo, strL_size]
        have hxx : xo ++ s = strL (f.data ++ sl) := by rw [strL_append, hstr, hxo]
        have hcat : xo.size + s.size ≤ 9223372036854775807 := by omega
        have kcat : (9223372036854775807 < xo.size + s.size) = False := by simp; omega
        obtain ⟨nI, hnI⟩ : ∃ m, m = σ.l.length := ⟨_, rfl⟩
        have HVI : Hid (∀ v S', RW v b S' σ → ∃ g c, Is v b 57 #[.slice (some ⟨g, 0, none⟩) nI c, .int .i64 (σ.limit : Nat), .int .i64 (σ.armed : Nat), .bool σ.dead, .int .i64 (σ.steps : Nat)] ∧ g < v.heap.size ∧
            ∀ v', But [] v v' → v'.cell? ⟨g, i * 3 + 1, none⟩ = some (.string xo) ∧ v'.frozen? ⟨g, i * 3 + 1, none⟩ = false ∧ g < v'.heap.size) := Lib.hid fun v S' hv => by
          obtain ⟨g, c, h1, h2, h3⟩ := hv.view hf
          rw [hnI, hxo]
          exact ⟨g, c, h1, h2, fun v' hv' => ⟨(h3 v' hv').1, (h3 v' hv').2.1, (h3 v' hv').2.2.2.2⟩⟩
        have HPI : Hid (∀ v S' g n c, RW v b S' σ → Is v b 57 #[.slice (some ⟨g, 0, none⟩) n c, .int .i64 (σ.limit : Nat), .int .i64 (σ.armed : Nat), .bool σ.dead, .int .i64 (σ.steps : Nat)] → RD (v.setCell ⟨g, i * 3 + 1, none⟩ (.string (xo ++ s))) b S' { σ with l := put16 σ.l k sl } ∧ But S' v (v.setCell ⟨g, i * 3 + 1, none⟩ (.string (xo ++ s)))) := Lib.hid fun v S' g n c hv hI => by
          have hp := hv.put (τ := { σ with l := put16 σ.l k sl }) hI (j := i * 3 + 1) (u := .string (xo ++ s)) (by show (put16 σ.l k sl).length = σ.l.length; rw [hput, List.length_set]) (by show (flCells σ.l).set _ _ = flCells (put16 σ.l k sl); rw [hput, hxx]; exact flCells_data _ _ _ _ hf) rfl rfl rfl rfl
          exact ⟨hp.1.rd hok, hp.2⟩
        rw [← hnI] at hlt hfew
        have i0 : (0 : Int) ≤ (i : Int) := by omega
        have i1 : (i : Int) < (nI : Int) := by omega
        clear hdd h hd h0 hR0 hok hok0 hh hi hf hfn hg hput hxo hxs hxx hnI hz hlm hzs hov hlen hstr hov2 hbl hfl hile
        go_enter Try.func12, Try.ntmps12
        go_wp2_with fail
        refine HW.out.mono ?_
        rintro e wz ⟨rfl, rfl⟩
        go_upto_region 4 with (fail)
        refine wp_region_m (S := fun v => But [] w v) (R := fun v v' => But [] v v') (fun w => But.refl [] w) (by kernel_rfl) ((But.refl [] w).drew) ?_
        refine rdk 0 (.pointer (some ⟨b, 0, none⟩)) ?_
        refine wpM_take (fun w => But.refl [] w) (fun x y z h k => h.trans k) (i := 1) (v := .int .i64 (z : Int)) rfl (by kernel_rfl) (by kernel_rfl) (by kernel_rfl) (fun _ _ _ h => h) (.inl ⟨?_, fun w hS => .inr ⟨_, _, ?_, (HSZ.out w hS).mono ?_⟩⟩) ?_
        · go_simp
        · go_simp
        · rintro e wy ⟨rfl, hB⟩; exact ⟨rfl, hS.trans hB, hB⟩
        refine rdk 2 (.string s) ?_
        refine rdk 3 (.int .i64 (s.size : Int)) ?_
        refine rdk 4 (.int .i64 (zs : Int)) ?_
        refine rdk 5 (.pointer (some ⟨b, 0, none⟩)) ?_
        refine rdk 6 (.pointer (some ⟨b, 0, none⟩)) ?_
        refine rdk 7 (.pointer (some ⟨b, 1, none⟩)) ?_
        refine rdq 8 (.int .i64 (lm : Int)) (fun w' hS => ?_) ?_
        · have y := HLM.out w' hS; go_simp
        refine rdk 9 (.bool false) ?_
        refine ⟨by kernel_rfl, fun w1 hR1 hS1 => ?_⟩
        have HB1 := Lib.hid hS1
        clear hR1 hS1
        go_simp
        go_wp2_with fail
        refine (HA.out _ HB1.out).mono ?_
        rintro e wX ⟨rfl, hB2⟩
        have HFW : Hid (RW wX b S σ ∧ But S w wX ∧ ∀ x ∈ S, x ∈ S ∨ w.heap.size ≤ x) := Lib.hid ⟨(HH.out.but (HB1.out.trans hB2) (fun _ _ => by simp)).rw, (HB1.out.trans hB2).wideD, fun x hx => .inl hx⟩
        clear hB2 HB1
        go_upto_region 12 with (fail)
        obtain ⟨g, c, hI, hgl, hx⟩ := HVI.out _ _ HFW.out.1
        have HI := Lib.hid hI
        have HX := Lib.hid hx
        clear hI hgl hx
        refine wp_region_z (z := 17) (S := fun v => But [] wX v) (R := fun v v' => But [] v v') (fun w => But.refl [] w) (by kernel_rfl) (But.refl [] wX).drew ?_
        refine rz_k 0 (.pointer (some ⟨b, 0, none⟩)) ?_
        refine rz_k 1 (.pointer (some ⟨b, 0, none⟩)) ?_
        refine rz_k 2 (.pointer (some ⟨b, 0, none⟩)) ?_
        refine rz_q 3 (.slice (some ⟨g, 0, none⟩) nI c) (fun W hS => ?_) ?_
        · have y := (HI.out.but hS (by simp)).cell 0; go_simp
        refine rz_k 4 (.int .i64 (i : Int)) ?_
        refine rz_k 5 (.pointer (some ⟨b, 0, none⟩)) ?_
        refine rz_k 6 (.pointer (some ⟨b, 0, none⟩)) ?_
        refine rz_k 7 (.pointer (some ⟨b, 0, none⟩)) ?_
        refine rz_q 8 (.slice (some ⟨g, 0, none⟩) nI c) (fun W hS => ?_) ?_
        · have y := (HI.out.but hS (by simp)).cell 0; go_simp
        refine rz_k 9 (.int .i64 (i : Int)) ?_
        refine rz_k 10 (.pointer (some ⟨g, i * 3, none⟩)) ?_
        refine rz_k 11 (.pointer (some ⟨g, i * 3 + 1, none⟩)) ?_
        refine rz_q 12 (.string xo) (fun W hS => ?_) ?_
        · have y := (HX.out W hS).1; go_simp
        refine rz_k 13 (.string s) ?_
        refine rz_k 14 (.string (xo ++ s)) ?_
        refine rz_o 15 (.pointer (some ⟨g, i * 3, none⟩)) ?_
        refine rz_o 16 (.pointer (some ⟨g, i * 3 + 1, none⟩)) ?_
        refine wpZ_last rfl (by kernel_rfl) (by kernel_rfl) fun w3 hR3 hS3 K' hK => ?_
        have y1 := (HX.out w3 hS3).1
        have y2 := (HX.out w3 hS3).2.1
        have y3 := (HX.out w3 hS3).2.2
        have hF := HPI.out w3 S g nI c (HFW.out.1.but hS3) (HI.out.but hS3 (by simp))
        have HF4 := Lib.hid (show RD (w3.setCell ⟨g, i * 3 + 1, none⟩ (.string (xo ++ s))) b S { σ with l := put16 σ.l k sl } ∧ But S w (w3.setCell ⟨g, i * 3 + 1, none⟩ (.string (xo ++ s))) from ⟨hF.1, (HFW.out.2.1.trans hS3.wideD).over16 hF.2 HFW.out.2.2⟩)
        have HSX := Lib.hid HFW.out.2.2
        clear hF hR3 hS3
        go_simp
        refine hK _ _ ?_
        clear hK y1 y2 y3
        obtain ⟨w4, hw4⟩ : ∃ X, X = w3.setCell ⟨g, i * 3 + 1, none⟩ (.string (xo ++ s)) := ⟨_, rfl⟩
        rw [← hw4] at HF4 ⊢
        clear hw4 HI HX HFW
        go_simp
        go_wp2_with fail
        refine (HST.out w4 S HF4.out.1).mono ?_
        rintro e w5 ⟨rfl, hD5, hB5⟩
        have HF5 : Hid (Left RD w b S { step16 σ with l := put16 σ.l k sl } w5) := Lib.hid ⟨S, hD5, HF4.out.2.over16 (hB5.intoD HF4.out.1.mem) HSX.out, HSX.out⟩
        clear hD5 hB5
        cases d with
        | true =>
          go_wp2
          go_ret
          exact ⟨rfl, HF5.out⟩
        | false =>
          go_wp2
          go_ret
          exact ⟨rfl, HF5.out⟩
      | false =>
        rw [hh] at HA
        obtain ⟨L, hL⟩ : ∃ L, L = σ.l := ⟨_, rfl⟩
        obtain ⟨N, hN⟩ : ∃ N : F16, N = ⟨k, [], 0⟩ := ⟨_, rfl⟩
        obtain ⟨σI, hσI⟩ : ∃ τ : D16, τ = { σ with l := L.take i ++ N :: L.drop i } := ⟨_, rfl⟩
        have hput := put_new16 (s := sl) hh hi
        rw [← hN, ← hL] at hput
        obtain ⟨xo, hxo⟩ : ∃ x, x = strL [] := ⟨_, rfl⟩
        have hxs : xo.size = 0 := by rw [hxo, strL_size]; rfl
        have hxx : xo ++ s = strL ([] ++ sl) := by rw [strL_append, hstr, hxo]
        have hcat : xo.size + s.size ≤ 9223372036854775807 := by omega
        have kcat : (9223372036854775807 < xo.size + s.size) = False := by simp; omega
        obtain ⟨nI, hnI⟩ : ∃ m, m = L.length + 1 := ⟨_, rfl⟩
        have hlI : (L.take i ++ N :: L.drop i).length = nI := by
          rw [hnI, List.length_append, List.length_cons, List.length_take, List.length_drop]
          rw [← hL] at hile
          omega
        have hf : σI.l[i]? = some N := by rw [hσI]; exact hput.2
        have HVI : Hid (∀ v S', RW v b S' σI → ∃ g c, Is v b 57 #[.slice (some ⟨g, 0, none⟩) nI c, .int .i64 (σ.limit : Nat), .int .i64 (σ.armed : Nat), .bool σ.dead, .int .i64 (σ.steps : Nat)] ∧ g < v.heap.size ∧
            ∀ v', But [] v v' → v'.cell? ⟨g, i * 3 + 1, none⟩ = some (.string xo) ∧ v'.frozen? ⟨g, i * 3 + 1, none⟩ = false ∧ g < v'.heap.size) := Lib.hid fun v S' hv => by
          obtain ⟨g, c, h1, h2, h3⟩ := hv.view hf
          have hl9 : σI.l.length = nI := by rw [hσI]; exact hlI
          rw [hl9] at h1
          rw [hσI] at h1
          refine ⟨g, c, h1, h2, fun v' hv' => ⟨?_, (h3 v' hv').2.1, (h3 v' hv').2.2.2.2⟩⟩
          have := (h3 v' hv').1
          rw [hN] at this
          rw [hxo]; exact this
        have HPI : Hid (∀ v S' g n c, RW v b S' σI → Is v b 57 #[.slice (some ⟨g, 0, none⟩) n c, .int .i64 (σ.limit : Nat), .int .i64 (σ.armed : Nat), .bool σ.dead, .int .i64 (σ.steps : Nat)] → RD (v.setCell ⟨g, i * 3 + 1, none⟩ (.string (xo ++ s))) b S' { σ with l := put16 σ.l k sl } ∧ But S' v (v.setCell ⟨g, i * 3 + 1, none⟩ (.string (xo ++ s)))) := Lib.hid fun v S' g n c hv hI => by
          have e9 : put16 σ.l k sl = σI.l.set i { N with data := [] ++ sl } := by rw [hσI, ← hL, hput.1]
          have hp := hv.put (τ := { σ with l := put16 σ.l k sl }) (g := g) (n := n) (c := c) (by rw [hσI]; exact hI) (j := i * 3 + 1) (u := .string (xo ++ s)) (by show (put16 σ.l k sl).length = σI.l.length; rw [e9, List.length_set]) (by show (flCells σI.l).set _ _ = flCells (put16 σ.l k sl); rw [e9, hxx]; exact flCells_data _ _ _ _ hf) (by rw [hσI]) (by rw [hσI]) (by rw [hσI]) (by rw [hσI])
          exact ⟨hp.1.rd hok, hp.2⟩
        have HRW : Hid (∀ (w2 w' : World) (v : Value), RD w2 b S σ → But [] w2 w' → OwnFl w' w2.heap.size v (L.take i ++ N :: L.drop i) → But S w w2 → ∃ S6, RW (w'.setCell ⟨b, 0, none⟩ v) b S6 σI ∧ But S w (w'.setCell ⟨b, 0, none⟩ v) ∧ ∀ x ∈ S6, x ∈ S ∨ w.heap.size ≤ x) := Lib.hid fun w2 w' v hv hB hO hw => by
          obtain ⟨S', h1, h2, h3⟩ := hv.rowed (τ := σI) hB (by rw [hσI]; exact hO) (by rw [hσI]) (by rw [hσI]) (by rw [hσI]) (by rw [hσI])
          exact ⟨S', h1, hw.trans h2, fun x hx => (h3 x hx).imp id (fun h => Nat.le_trans hw.size h)⟩
        have HV : Hid (∀ v, RD v b S σ → ∃ u, Is v b 57 #[u, .int .i64 (σ.limit : Nat), .int .i64 (σ.armed : Nat), .bool σ.dead, .int .i64 (σ.steps : Nat)] ∧ ((u = .slice none 0 0 ∧ L = []) ∨ ∃ g c, u = .slice (some ⟨g, 0, none⟩) L.length c ∧ g < v.heap.size ∧ L.length ≤ c ∧ ∀ (j : Nat) (x : Value), (flCells L)[j]? = some x → v.cell? ⟨g, j, none⟩ = some x)) := Lib.hid fun v hv => by
          obtain ⟨u, hI, hO, _⟩ := hv.row
          refine ⟨u, hI, ?_⟩
          rw [hL]
          rcases hO.open with ⟨e1, e2⟩ | ⟨g, c, rfl, hgl, _, hc⟩
          · exact .inl ⟨e1, e2⟩
          · exact .inr ⟨g, c, rfl, hgl, hc, hO.cells⟩
        have HNC : Hid (∀ W : World, ∀ ad, some (⟨W.heap.size, 0, none⟩ : Addr) = some ad → ∀ (j : Nat) (u : Value), (flCells [N])[j]? = some u → (W.alloc (.cells #[.int .i64 (k : Nat), .string ByteArray.empty, .int .i64 0] 65)).cell? (ad.add j) = some u) := Lib.hid fun W ad e j u hu => by
          cases e
          rw [hN] at hu
          have hI := Is.fresh W 65 #[.int .i64 (k : Nat), .string ByteArray.empty, .int .i64 0]
          rw [Go.WideShapes.add_plain, Nat.zero_add, hI.cell j]
          have hu2 : [Value.int .i64 (k : Nat), .string ByteArray.empty, .int .i64 0][j]? = some u := hu
          rw [← hu2]
          simp
        rw [← hL] at hfew hile
        obtain ⟨m, hm⟩ : ∃ m, m = L.length := ⟨_, rfl⟩
        rw [← hm] at HV hfew hile hnI
        have HLm : Hid (L.length = m) := Lib.hid hm.symm
        have HT1 : Hid ((L.take i).length = i) := Lib.hid (by rw [List.length_take]; omega)
        have HT2 : Hid ((L.drop i).length = m - i) := Lib.hid (by rw [List.length_drop, hm])
        have i0 : (0 : Int) ≤ (i : Int) := by omega
        have i1 : (i : Int) < (nI : Int) := by omega
        have HI0 : Hid (L = [] → i = 0) := Lib.hid fun e => by rw [hm, e] at hile; simpa using hile
        clear hdd h hd h0 hR0 hok hok0 hh hi hf hput hxo hxs hxx hnI hz hlm hzs hov hlen hstr hov2 hbl hlI hσI hL hN hm
        go_enter Try.func12, Try.ntmps12
        go_wp2_with fail
        refine HW.out.mono ?_
        rintro e wz ⟨rfl, rfl⟩
        go_upto_region 4 with (fail)
        refine wp_region_m (S := fun v => But [] w v) (R := fun v v' => But [] v v') (fun w => But.refl [] w) (by kernel_rfl) ((But.refl [] w).drew) ?_
        refine rdk 0 (.pointer (some ⟨b, 0, none⟩)) ?_
        refine wpM_take (fun w => But.refl [] w) (fun x y z h k => h.trans k) (i := 1) (v := .int .i64 (z : Int)) rfl (by kernel_rfl) (by kernel_rfl) (by kernel_rfl) (fun _ _ _ h => h) (.inl ⟨?_, fun w hS => .inr ⟨_, _, ?_, (HSZ.out w hS).mono ?_⟩⟩) ?_
        · go_simp
        · go_simp
        · rintro e wy ⟨rfl, hB⟩; exact ⟨rfl, hS.trans hB, hB⟩
        refine rdk 2 (.string s) ?_
        refine rdk 3 (.int .i64 (s.size : Int)) ?_
        refine rdk 4 (.int .i64 (zs : Int)) ?_
        refine rdk 5 (.pointer (some ⟨b, 0, none⟩)) ?_
        refine rdk 6 (.pointer (some ⟨b, 0, none⟩)) ?_
        refine rdk 7 (.pointer (some ⟨b, 1, none⟩)) ?_
        refine rdq 8 (.int .i64 (lm : Int)) (fun w' hS => ?_) ?_
        · have y := HLM.out w' hS; go_simp
        refine rdk 9 (.bool false) ?_
        refine ⟨by kernel_rfl, fun w1 hR1 hS1 => ?_⟩
        have HB1 := Lib.hid hS1
        clear hR1 hS1
        go_simp
        go_wp2_with fail
        refine (HA.out _ HB1.out).mono ?_
        rintro e w2 ⟨rfl, hB2⟩
        have HF2 := Lib.hid (show RD w2 b S σ ∧ But S w w2 from ⟨HH.out.but (HB1.out.trans hB2) (fun _ _ => by simp), (HB1.out.trans hB2).wideD⟩)
        clear hB2 HB1
        obtain ⟨u, hI, hu⟩ := HV.out _ HF2.out.1
        have HI := Lib.hid hI
        have c0 := hI.cell 0
        have hbl := hI.lt
        clear hI
        rcases hu with ⟨rfl, hLn⟩ | ⟨g, c, rfl, hgl, hmc, hx⟩
        · obtain rfl : i = 0 := HI0.out hLn
          obtain rfl : L = [] := hLn
          obtain rfl : m = 0 := HLm.out.symm
          have nI0 : ¬ nI = 0 := by omega
          go_upto_region 10 with (at_builtin; refine wpList_append_fl (w0 := w2) _ rfl _ _ rfl (.slice none 0 0) [] rfl (OwnFl.nil _ _) (But.refl [] _) none 0 0 [] rfl HT1.out (fun e => ⟨rfl, rfl⟩) (fun ad e => by cases e) (by show 0 + 0 ≤ 1000000; omega) ?_; intro v1 w3 HO3 HB3)
          have HO3 := Lib.hid (show OwnFl w3 w2.heap.size v1 (([] : List F16).take 0) from HO3.out)
          clear c0 hbl
          go_upto_region 11 with (at_builtin; refine wpList_append_fl (w0 := w2) _ rfl _ _ rfl v1 (([] : List F16).take 0) rfl (HO3.out.but ((But.refl [] _).alloc _) (fun _ _ => by simp)) (HB3.out.alloc _) _ 1 1 [N] rfl rfl (fun e => by cases e) (HNC.out w3) (by rw [HT1.out]; omega) ?_; intro v2 w4 HO4 HB4)
          clear HO3
          have c0 := (HI.out.but HB4.out (by simp)).cell 0
          have hbl := (HI.out.but HB4.out (by simp)).lt
          have f0 := (HI.out.but HB4.out (by simp)).free 0
          go_upto_region 12 with (at_builtin; refine wpList_append_fl (w0 := w2) _ rfl _ _ rfl v2 (([] : List F16).take 0 ++ [N]) rfl HO4.out HB4.out none 0 0 (([] : List F16).drop 0) rfl HT2.out (fun e => ⟨rfl, rfl⟩) (fun ad e => by cases e) (by rw [List.length_append, HT1.out]; show 0 + 1 + 0 ≤ 1000000; omega) ?_; intro v5 w5 HO5 HB5; have HO5 := Lib.hid (show OwnFl w5 w2.heap.size v5 (([] : List F16).take 0 ++ N :: ([] : List F16).drop 0) from (by have hh9 := HO5.out; rw [List.append_assoc] at hh9; exact hh9)); obtain ⟨A5, c5, hv5, _⟩ := HO5.out.view; obtain ⟨n5, hn5⟩ : ∃ x, x = (([] : List F16).take 0 ++ N :: ([] : List F16).drop 0).length := ⟨_, rfl⟩; rw [← hn5] at hv5; clear hn5; subst hv5; have c0 := (HI.out.but HB5.out (by simp)).cell 0; have hbl := (HI.out.but HB5.out (by simp)).lt; have f0 := (HI.out.but HB5.out (by simp)).free 0)
          have HF9 := HRW.out w2 w5 _ HF2.out.1 HB5.out HO5.out HF2.out.2
          obtain ⟨S6, h6a, h6b, h6c⟩ := HF9
          obtain ⟨wX, hwX⟩ : ∃ X, X = w5.setCell ⟨b, 0, none⟩ (.slice A5 n5 c5) := ⟨_, rfl⟩
          rw [← hwX] at h6a h6b
          have HFW := Lib.hid (show RW wX b S6 σI ∧ But S w wX ∧ ∀ x ∈ S6, x ∈ S ∨ w.heap.size ≤ x from ⟨h6a, h6b, h6c⟩)
          clear h6a h6b h6c
          rw [← hwX]
          clear hwX c0 hbl f0 HO4 HB4 HB3 HI
          obtain ⟨g, c, hI, hgl, hx⟩ := HVI.out _ _ HFW.out.1
          have HI := Lib.hid hI
          have HX := Lib.hid hx
          clear hI hgl hx
          refine wp_region_z (z := 17) (S := fun v => But [] wX v) (R := fun v v' => But [] v v') (fun w => But.refl [] w) (by kernel_rfl) (But.refl [] wX).drew ?_
          refine rz_k 0 (.pointer (some ⟨b, 0, none⟩)) ?_
          refine rz_k 1 (.pointer (some ⟨b, 0, none⟩)) ?_
          refine rz_k 2 (.pointer (some ⟨b, 0, none⟩)) ?_
          refine rz_q 3 (.slice (some ⟨g, 0, none⟩) nI c) (fun W hS => ?_) ?_
          · have y := (HI.out.but hS (by simp)).cell 0; go_simp
          refine rz_k 4 (.int .i64 ((0 : Nat) : Int)) ?_
          refine rz_k 5 (.pointer (some ⟨b, 0, none⟩)) ?_
          refine rz_k 6 (.pointer (some ⟨b, 0, none⟩)) ?_
          refine rz_k 7 (.pointer (some ⟨b, 0, none⟩)) ?_
          refine rz_q 8 (.slice (some ⟨g, 0, none⟩) nI c) (fun W hS => ?_) ?_
          · have y := (HI.out.but hS (by simp)).cell 0; go_simp
          refine rz_k 9 (.int .i64 ((0 : Nat) : Int)) ?_
          refine rz_k 10 (.pointer (some ⟨g, 0 * 3, none⟩)) ?_
          refine rz_k 11 (.pointer (some ⟨g, 0 * 3 + 1, none⟩)) ?_
          refine rz_q 12 (.string xo) (fun W hS => ?_) ?_
          · have y := (HX.out W hS).1; go_simp
          refine rz_k 13 (.string s) ?_
          refine rz_k 14 (.string (xo ++ s)) ?_
          refine rz_o 15 (.pointer (some ⟨g, 0 * 3, none⟩)) ?_
          refine rz_o 16 (.pointer (some ⟨g, 0 * 3 + 1, none⟩)) ?_
          refine wpZ_last rfl (by kernel_rfl) (by kernel_rfl) fun w3 hR3 hS3 K' hK => ?_
          have y1 := (HX.out w3 hS3).1
          have y2 := (HX.out w3 hS3).2.1
          have y3 := (HX.out w3 hS3).2.2
          have hF := HPI.out w3 S6 g nI c (HFW.out.1.but hS3) (HI.out.but hS3 (by simp))
          have HF4 := Lib.hid (show RD (w3.setCell ⟨g, 0 * 3 + 1, none⟩ (.string (xo ++ s))) b S6 { σ with l := put16 σ.l k sl } ∧ But S w (w3.setCell ⟨g, 0 * 3 + 1, none⟩ (.string (xo ++ s))) from ⟨hF.1, (HFW.out.2.1.trans hS3.wideD).over16 hF.2 HFW.out.2.2⟩)
          have HSX := Lib.hid HFW.out.2.2
          clear hF hR3 hS3
          go_simp
          refine hK _ _ ?_
          clear hK y1 y2 y3
          obtain ⟨w4, hw4⟩ : ∃ X, X = w3.setCell ⟨g, 0 * 3 + 1, none⟩ (.string (xo ++ s)) := ⟨_, rfl⟩
          rw [← hw4] at HF4 ⊢
          clear hw4 HI HX HFW
          go_simp
          go_wp2_with fail
          refine (HST.out w4 S6 HF4.out.1).mono ?_
          rintro e w5 ⟨rfl, hD5, hB5⟩
          have HF5 : Hid (Left RD w b S { step16 σ with l := put16 σ.l k sl } w5) := Lib.hid ⟨S6, hD5, HF4.out.2.over16 (hB5.intoD HF4.out.1.mem) HSX.out, HSX.out⟩
          clear hD5 hB5
          cases d with
          | true =>
            go_wp2
            go_ret
            exact ⟨rfl, HF5.out⟩
          | false =>
            go_wp2
            go_ret
            exact ⟨rfl, HF5.out⟩
        · have HX := Lib.hid hx
          have HXN : Hid (∀ w4, But [] w2 w4 → ∀ (j : Nat) (x : Value), (flCells L)[j]? = some x → w4.cell? ⟨g, j, none⟩ = some x) := Lib.hid fun w4 hw4 j x hu => hw4.cell (HX.out j x hu) (by simp)
          have s1 : decide ((c : Int) < (i : Int)) = false := by simp; omega
          have s2 : decide (c < i) = false := by simp; omega
          have s3 : decide ((m : Int) < (i : Int)) = false := by simp; omega
          have s4 : decide (m < i) = false := by simp; omega
          have s5 : decide (c < m) = false := by simp; omega
          have HNil : Hid (c = i → flCells (L.drop i) = []) := Lib.hid fun e => by
            rw [List.drop_eq_nil_of_le (by have := HLm.out; omega)]; rfl
          clear hx
          go_upto_region 10 with (at_builtin; refine wpList_append_fl (w0 := w2) _ rfl _ _ rfl (.slice none 0 0) [] rfl (OwnFl.nil _ _) (But.refl [] _) (some ⟨g, 0, none⟩) i c (L.take i) rfl HT1.out (fun e => by cases e) (fun ad e => by cases e; exact cells_take16 i HX.out) (by show 0 + i ≤ 1000000; omega) ?_; intro v1 w3 HO3 HB3)
          have HO3 := Lib.hid (show OwnFl w3 w2.heap.size v1 (L.take i) from HO3.out)
          clear c0 hbl
          go_upto_region 11 with (at_builtin; refine wpList_append_fl (w0 := w2) _ rfl _ _ rfl v1 (L.take i) rfl (HO3.out.but ((But.refl [] _).alloc _) (fun _ _ => by simp)) (HB3.out.alloc _) _ 1 1 [N] rfl rfl (fun e => by cases e) (HNC.out w3) (by rw [HT1.out]; omega) ?_; intro v2 w4 HO4 HB4)
          clear HO3
          have c0 := (HI.out.but HB4.out (by simp)).cell 0
          have hbl := (HI.out.but HB4.out (by simp)).lt
          have f0 := (HI.out.but HB4.out (by simp)).free 0
          by_cases hci : c = i
          · go_upto_region 12 with (at_builtin; refine wpList_append_fl (w0 := w2) _ rfl _ _ rfl v2 (L.take i ++ [N]) rfl HO4.out HB4.out (some ⟨g, 0, none⟩) (m - i) 0 (L.drop i) rfl HT2.out (fun e => by cases e) (by intro ad e j u hu; rw [HNil.out hci] at hu; simp at hu) (by rw [List.length_append, HT1.out]; show i + 1 + (m - i) ≤ 1000000; omega) ?_; intro v5 w5 HO5 HB5; have HO5 := Lib.hid (show OwnFl w5 w2.heap.size v5 (L.take i ++ N :: L.drop i) from (by have hh9 := HO5.out; rw [List.append_assoc] at hh9; exact hh9)); obtain ⟨A5, c5, hv5, _⟩ := HO5.out.view; obtain ⟨n5, hn5⟩ : ∃ x, x = (L.take i ++ N :: L.drop i).length := ⟨_, rfl⟩; rw [← hn5] at hv5; clear hn5; subst hv5; have c0 := (HI.out.but HB5.out (by simp)).cell 0; have hbl := (HI.out.but HB5.out (by simp)).lt; have f0 := (HI.out.but HB5.out (by simp)).free 0)
            have HF9 := HRW.out w2 w5 _ HF2.out.1 HB5.out HO5.out HF2.out.2
            obtain ⟨S6, h6a, h6b, h6c⟩ := HF9
            obtain ⟨wX, hwX⟩ : ∃ X, X = w5.setCell ⟨b, 0, none⟩ (.slice A5 n5 c5) := ⟨_, rfl⟩
            rw [← hwX] at h6a h6b
            have HFW := Lib.hid (show RW wX b S6 σI ∧ But S w wX ∧ ∀ x ∈ S6, x ∈ S ∨ w.heap.size ≤ x from ⟨h6a, h6b, h6c⟩)
            clear h6a h6b h6c
            rw [← hwX]
            clear hwX c0 hbl f0 HO4 HB4 HB3 HI
            obtain ⟨g, c, hI, hgl, hx⟩ := HVI.out _ _ HFW.out.1
            have HI := Lib.hid hI
            have HX := Lib.hid hx
            clear hI hgl hx
            refine wp_region_z (z := 17) (S := fun v => But [] wX v) (R := fun v v' => But [] v v') (fun w => But.refl [] w) (by kernel_rfl) (But.refl [] wX).drew ?_
            refine rz_k 0 (.pointer (some ⟨b, 0, none⟩)) ?_
            refine rz_k 1 (.pointer (some ⟨b, 0, none⟩)) ?_
            refine rz_k 2 (.pointer (some ⟨b, 0, none⟩)) ?_
            refine rz_q 3 (.slice (some ⟨g, 0, none⟩) nI c) (fun W hS => ?_) ?_
            · have y := (HI.out.but hS (by simp)).cell 0; go_simp
            refine rz_k 4 (.int .i64 (i : Int)) ?_
            refine rz_k 5 (.pointer (some ⟨b, 0, none⟩)) ?_
            refine rz_k 6 (.pointer (some ⟨b, 0, none⟩)) ?_
            refine rz_k 7 (.pointer (some ⟨b, 0, none⟩)) ?_
            refine rz_q 8 (.slice (some ⟨g, 0, none⟩) nI c) (fun W hS => ?_) ?_
            · have y := (HI.out.but hS (by simp)).cell 0; go_simp
            refine rz_k 9 (.int .i64 (i : Int)) ?_
            refine rz_k 10 (.pointer (some ⟨g, i * 3, none⟩)) ?_
            refine rz_k 11 (.pointer (some ⟨g, i * 3 + 1, none⟩)) ?_
            refine rz_q 12 (.string xo) (fun W hS => ?_) ?_
            · have y := (HX.out W hS).1; go_simp
            refine rz_k 13 (.string s) ?_
            refine rz_k 14 (.string (xo ++ s)) ?_
            refine rz_o 15 (.pointer (some ⟨g, i * 3, none⟩)) ?_
            refine rz_o 16 (.pointer (some ⟨g, i * 3 + 1, none⟩)) ?_
            refine wpZ_last rfl (by kernel_rfl) (by kernel_rfl) fun w3 hR3 hS3 K' hK => ?_
            have y1 := (HX.out w3 hS3).1
            have y2 := (HX.out w3 hS3).2.1
            have y3 := (HX.out w3 hS3).2.2
            have hF := HPI.out w3 S6 g nI c (HFW.out.1.but hS3) (HI.out.but hS3 (by simp))
            have HF4 := Lib.hid (show RD (w3.setCell ⟨g, i * 3 + 1, none⟩ (.string (xo ++ s))) b S6 { σ with l := put16 σ.l k sl } ∧ But S w (w3.setCell ⟨g, i * 3 + 1, none⟩ (.string (xo ++ s))) from ⟨hF.1, (HFW.out.2.1.trans hS3.wideD).over16 hF.2 HFW.out.2.2⟩)
            have HSX := Lib.hid HFW.out.2.2
            clear hF hR3 hS3
            go_simp
            refine hK _ _ ?_
            clear hK y1 y2 y3
            obtain ⟨w4, hw4⟩ : ∃ X, X = w3.setCell ⟨g, i * 3 + 1, none⟩ (.string (xo ++ s)) := ⟨_, rfl⟩
            rw [← hw4] at HF4 ⊢
            clear hw4 HI HX HFW
            go_simp
            go_wp2_with fail
            refine (HST.out w4 S6 HF4.out.1).mono ?_
            rintro e w5 ⟨rfl, hD5, hB5⟩
            have HF5 : Hid (Left RD w b S { step16 σ with l := put16 σ.l k sl } w5) := Lib.hid ⟨S6, hD5, HF4.out.2.over16 (hB5.intoD HF4.out.1.mem) HSX.out, HSX.out⟩
            clear hD5 hB5
            cases d with
            | true =>
              go_wp2
              go_ret
              exact ⟨rfl, HF5.out⟩
            | false =>
              go_wp2
              go_ret
              exact ⟨rfl, HF5.out⟩
          · go_upto_region 12 with (at_builtin; refine wpList_append_fl (w0 := w2) _ rfl _ _ rfl v2 (L.take i ++ [N]) rfl HO4.out HB4.out (some ⟨g, i * 3, none⟩) (m - i) (c - i) (L.drop i) rfl HT2.out (fun e => by cases e) (by intro ad e; cases e; exact cells_drop16 i rfl (HXN.out _ HB4.out)) (by rw [List.length_append, HT1.out]; show i + 1 + (m - i) ≤ 1000000; omega) ?_; intro v5 w5 HO5 HB5; have HO5 := Lib.hid (show OwnFl w5 w2.heap.size v5 (L.take i ++ N :: L.drop i) from (by have hh9 := HO5.out; rw [List.append_assoc] at hh9; exact hh9)); obtain ⟨A5, c5, hv5, _⟩ := HO5.out.view; obtain ⟨n5, hn5⟩ : ∃ x, x = (L.take i ++ N :: L.drop i).length := ⟨_, rfl⟩; rw [← hn5] at hv5; clear hn5; subst hv5; have c0 := (HI.out.but HB5.out (by simp)).cell 0; have hbl := (HI.out.but HB5.out (by simp)).lt; have f0 := (HI.out.but HB5.out (by simp)).free 0)
            have HF9 := HRW.out w2 w5 _ HF2.out.1 HB5.out HO5.out HF2.out.2
            obtain ⟨S6, h6a, h6b, h6c⟩ := HF9
            obtain ⟨wX, hwX⟩ : ∃ X, X = w5.setCell ⟨b, 0, none⟩ (.slice A5 n5 c5) := ⟨_, rfl⟩
            rw [← hwX] at h6a h6b
            have HFW := Lib.hid (show RW wX b S6 σI ∧ But S w wX ∧ ∀ x ∈ S6, x ∈ S ∨ w.heap.size ≤ x from ⟨h6a, h6b, h6c⟩)
            clear h6a h6b h6c
            rw [← hwX]
            clear hwX c0 hbl f0 HO4 HB4 HB3 HI
            obtain ⟨g, c, hI, hgl, hx⟩ := HVI.out _ _ HFW.out.1
            have HI := Lib.hid hI
            have HX := Lib.hid hx
            clear hI hgl hx
            refine wp_region_z (z := 17) (S := fun v => But [] wX v) (R := fun v v' => But [] v v') (fun w => But.refl [] w) (by kernel_rfl) (But.refl [] wX).drew ?_
            refine rz_k 0 (.pointer (some ⟨b, 0, none⟩)) ?_
            refine rz_k 1 (.pointer (some ⟨b, 0, none⟩)) ?_
            refine rz_k 2 (.pointer (some ⟨b, 0, none⟩)) ?_
            refine rz_q 3 (.slice (some ⟨g, 0, none⟩) nI c) (fun W hS => ?_) ?_
            · have y := (HI.out.but hS (by simp)).cell 0; go_simp
            refine rz_k 4 (.int .i64 (i : Int)) ?_
            refine rz_k 5 (.pointer (some ⟨b, 0, none⟩)) ?_
            refine rz_k 6 (.pointer (some ⟨b, 0, none⟩)) ?_
            refine rz_k 7 (.pointer (some ⟨b, 0, none⟩)) ?_
            refine rz_q 8 (.slice (some ⟨g, 0, none⟩) nI c) (fun W hS => ?_) ?_
            · have y := (HI.out.but hS (by simp)).cell 0; go_simp
            refine rz_k 9 (.int .i64 (i : Int)) ?_
            refine rz_k 10 (.pointer (some ⟨g, i * 3, none⟩)) ?_
            refine rz_k 11 (.pointer (some ⟨g, i * 3 + 1, none⟩)) ?_
            refine rz_q 12 (.string xo) (fun W hS => ?_) ?_
            · have y := (HX.out W hS).1; go_simp
            refine rz_k 13 (.string s) ?_
            refine rz_k 14 (.string (xo ++ s)) ?_
            refine rz_o 15 (.pointer (some ⟨g, i * 3, none⟩)) ?_
            refine rz_o 16 (.pointer (some ⟨g, i * 3 + 1, none⟩)) ?_
            refine wpZ_last rfl (by kernel_rfl) (by kernel_rfl) fun w3 hR3 hS3 K' hK => ?_
            have y1 := (HX.out w3 hS3).1
            have y2 := (HX.out w3 hS3).2.1
            have y3 := (HX.out w3 hS3).2.2
            have hF := HPI.out w3 S6 g nI c (HFW.out.1.but hS3) (HI.out.but hS3 (by simp))
            have HF4 := Lib.hid (show RD (w3.setCell ⟨g, i * 3 + 1, none⟩ (.string (xo ++ s))) b S6 { σ with l := put16 σ.l k sl } ∧ But S w (w3.setCell ⟨g, i * 3 + 1, none⟩ (.string (xo ++ s))) from ⟨hF.1, (HFW.out.2.1.trans hS3.wideD).over16 hF.2 HFW.out.2.2⟩)
            have HSX := Lib.hid HFW.out.2.2
            clear hF hR3 hS3
            go_simp
            refine hK _ _ ?_
            clear hK y1 y2 y3
            obtain ⟨w4, hw4⟩ : ∃ X, X = w3.setCell ⟨g, i * 3 + 1, none⟩ (.string (xo ++ s)) := ⟨_, rfl⟩
            rw [← hw4] at HF4 ⊢
            clear hw4 HI HX HFW
            go_simp
            go_wp2_with fail
            refine (HST.out w4 S6 HF4.out.1).mono ?_
            rintro e w5 ⟨rfl, hD5, hB5⟩
            have HF5 : Hid (Left RD w b S { step16 σ with l := put16 σ.l k sl } w5) := Lib.hid ⟨S6, hD5, HF4.out.2.over16 (hB5.intoD HF4.out.1.mem) HSX.out, HSX.out⟩
            clear hD5 hB5
            cases d with
            | true =>
              go_wp2
              go_ret
              exact ⟨rfl, HF5.out⟩
            | false =>
              go_wp2
              go_ret
              exact ⟨rfl, HF5.out⟩
  · have HR : Hid (append16 σ n sl = (σ, wrong16 σ n)) := Lib.hid (by unfold append16; rw [if_pos h0])
    rw [HR.out]
    obtain ⟨r, hr⟩ : ∃ r, r = wrong16 σ n := ⟨_, rfl⟩
    rw [← hr] at HW h0 ⊢
    have q1 : (r != 0) = true := by simpa using h0
    have q2 : (r = 0) = False := by simpa using h0
    clear hr h h0 HR
    go_enter Try.func12, Try.ntmps12
    go_wp2_with fail
    refine HW.out.mono ?_
    rintro e wz ⟨rfl, rfl⟩
    go_wp2
    go_ret
    exact ⟨rfl, HH.out.left0 (But.refl S _)⟩
end Go.Proofs.Ytchpincoddghfaa
set_option maxRecDepth 100000
set_option linter.unusedVariables false
namespace Go.Proofs.Ytchpincoddghfaa
set_option maxRecDepth 100000
open Go Go.RowKit
def nums16 (l : List F16) (k : Nat) : List Nat := (l.take k).map (·.num)
theorem nums16_next {l : List F16} {k : Nat} {f : F16} (h : l[k]? = some f) : nums16 l (k + 1) = nums16 l k ++ [f.num] := by
  unfold nums16
  rw [List.take_add_one, h, List.map_append]
  rfl
theorem nums16_len {l : List F16} {k : Nat} (h : k ≤ l.length) : (nums16 l k).length = k := by unfold nums16; rw [List.length_map, List.length_take]; omega
set_option maxHeartbeats 1000000 in
theorem efiles16_any (w : World) {b : Nat} {S : List Nat} {σ : D16} (h : RD w b S σ) :
    Calls Try.prog 27 #[.pointer (some ⟨b, 0, none⟩)] w fun e w' => ∃ v, e = .returned v ∧ OwnN w' w.heap.size v (σ.l.map (·.num)) ∧ But [] w w' := by
  obtain ⟨v, hI, hO, hg⟩ := h.row
  have hfew := h.ok.few
  obtain ⟨L, hL⟩ : ∃ L, L = σ.l := ⟨_, rfl⟩
  rw [← hL] at hO hfew ⊢
  obtain ⟨n, hn⟩ : ∃ n, n = L.length := ⟨_, rfl⟩
  have HC : Hid (∀ v', But [] w v' → ∃ A c, v = .slice A n c ∧ v'.cell? ⟨b, 0, none⟩ = some v ∧ b < v'.heap.size ∧ ∀ (i : Nat) (f : F16), L[i]? = some f → ∃ g, A = some ⟨g, 0, none⟩ ∧ g < v'.heap.size ∧ v'.cell? ⟨g, i * 3, none⟩ = some (.int .i64 (f.num : Nat))) := Lib.hid fun v' hv => by
    obtain ⟨A, c, e, _, _, hx⟩ := (hO.but hv (fun _ _ => by simp)).view
    have hi := hI.but hv (by simp)
    refine ⟨A, c, by rw [e, hn], hi.cell 0, hi.lt, fun i f hf => ?_⟩
    obtain ⟨g, e, hl, h1, _⟩ := hx i f hf
    exact ⟨g, e, hl, h1⟩
  have HE : Hid (nums16 L n = L.map (·.num)) := Lib.hid (by unfold nums16; rw [hn, List.take_length])
  obtain ⟨R, hR⟩ : ∃ R, R = L.map (·.num) := ⟨_, rfl⟩
  rw [← hR] at HE ⊢
  have HNL : Hid (∀ k, k ≤ n → (nums16 L k).length = k) := Lib.hid fun k hk => nums16_len (by omega)
  rw [← hn] at hfew
  have HN := Lib.hid hn
  clear hI hO hg h hL hn hR
  obtain ⟨A, c, rfl, c0, hb, _⟩ := HC.out _ (But.refl [] _)
  go_enter Try.func27, Try.ntmps27
  go_wp2
  clear c0 hb
  go_loopw [3, 4] (fun ov iv wr => ∃ k : Nat, k ≤ n ∧ iv = .int .i64 k ∧ Hid (OwnN wr w.heap.size ov (nums16 L k)) ∧ Hid (But [] w wr)) (fun _ iv _ => n - (intOf iv).toNat)
  case atStart => exact ⟨0, Nat.zero_le _, rfl, Lib.hid (OwnN.nil _ _), Lib.hid (But.refl [] _)⟩
  case round =>
    obtain ⟨k, hk, rfl, HO, HB⟩ := hrel
    obtain ⟨A', c', e', c0, hb, hx⟩ := HC.out _ HB.out
    injection e' with e1 e2 e3
    subst e1 e3
    by_cases hlt : k < n
    · obtain ⟨f, hf⟩ : ∃ f, L[k]? = some f := ⟨_, List.getElem?_eq_getElem (by rw [← HN.out]; exact hlt)⟩
      obtain ⟨g, rfl, hgl, k1⟩ := hx k f hf
      obtain ⟨z, hz⟩ : ∃ z, z = f.num := ⟨_, rfl⟩
      rw [← hz] at k1
      have HNx : Hid (nums16 L (k + 1) = nums16 L k ++ [z]) := Lib.hid (by rw [hz]; exact nums16_next hf)
      obtain ⟨M, hM⟩ : ∃ M, M = nums16 L k := ⟨_, rfl⟩
      have HML : Hid (M.length = k) := Lib.hid (by rw [hM]; exact HNL.out k hk)
      rw [← hM] at HO HNx
      obtain ⟨A0, cp0, rfl, _⟩ := HO.out.shape
      have i0 : (0 : Int) ≤ (k : Int) := by omega
      have i1 : (k : Int) < (n : Int) := by omega
      have HMB : Hid (M.length < 1000000000) := Lib.hid (by rw [HML.out]; omega)
      clear hf hz hx hM
      go_wp2_with (at_builtin; refine wpList_append_n (w0 := w) _ rfl _ _ rfl _ M rfl (HO.out.but ((But.refl [] _).alloc _)) (HB.out.alloc _) z rfl (Is.fresh _ _ _) HMB.out ?_; intro A9 c9 w9 HO9 HB9)
      have HO8 : Hid (OwnN w9 w.heap.size (.slice A9 (M.length + 1) c9) (nums16 L (k + 1))) := Lib.hid (by rw [HNx.out]; exact HO9.out)
      clear HO9
      go_roundw
      case rel => exact ⟨k + 1, by omega, by go_num, HO8, HB9⟩
      case measure => simp [intOf] <;> omega
    · obtain rfl : n = k := by omega
      have i1 : ¬ (n : Int) < (n : Int) := by omega
      go_wp2
      go_ret
      exact ⟨_, rfl, by rw [← HE.out]; exact HO.out, HB.out⟩
end Go.Proofs.Ytchpincoddghfaa
