/- Several texts in one: DkL, DkU, DkV (what DiskPlays reach of them). -/
import Derived.Test.YtchpincoddghfaaK01
import Derived.Test.YtchpincoddghfaaK02
import Derived.Test.YtchpincoddghfaaK07
import Derived.Test.YtchpincoddghfaaK11
import Derived.Below
import Derived.BigQuiet
import Derived.BigRegion
import Derived.Deep.AppendLies
import Derived.Deep.Cut
import Derived.Deep.CutBlock
import Derived.Deep.CutRange
import Derived.Deep.DeepCutAuto
import Derived.Deep.Draws
import Derived.Deep.Onto
import Derived.Deep.QuietTactic
import Derived.Deep.RegionLaw
import Derived.Deep.RegionWith
import Derived.Handy
import Derived.Laws.BitsAllLaws
import Derived.Laws.BitsLemmas
import Derived.Laws.BytesArg
import Derived.Laws.IdiomStrings
import Derived.Laws.MakeOwn
import Derived.Laws.OwnMore
import Derived.Laws.Rows
import Derived.Lib.Hide
import Derived.Maps.AppendAt
import Derived.OrdersHeld
import Derived.OrdersIn
import Derived.Outline
import Derived.OwnWalk
import Derived.OwnWalkIn
import Derived.RangeFuncCalls
import Derived.RegionTactic
import Derived.TacticsInMore
import Derived.Test.YtchpincoddghfaaChecked
import Derived.WalkKit
set_option maxRecDepth 100000
set_option linter.unusedVariables false
set_option maxRecDepth 100000
set_option linter.unusedVariables false
namespace Go.Proofs.Ytchpincoddghfaa
set_option maxRecDepth 100000
open Go Go.RowKit
theorem RW.flags {w : World} {b : Nat} {S : List Nat} {σ : D16} {l : List F16} (h : RW w b S (with16 σ l)) : RW ((w.setCell ⟨b, 3, none⟩ (.bool false)).setCell ⟨b, 2, none⟩ (.int .i64 0)) b S ⟨l, σ.limit, 0, false, σ.steps⟩ ∧ But S w ((w.setCell ⟨b, 3, none⟩ (.bool false)).setCell ⟨b, 2, none⟩ (.int .i64 0)) := by
  obtain ⟨v, hI, hO, hg⟩ := h.row
  have hB : But [b] w ((w.setCell ⟨b, 3, none⟩ (.bool false)).setCell ⟨b, 2, none⟩ (.int .i64 0)) := ((But.refl [b] w).setCell (p := ⟨b, 3, none⟩) (.inl (by simp)) _).setCell (p := ⟨b, 2, none⟩) (.inl (by simp)) _
  exact ⟨⟨⟨v, (hI.put 3 _).put 2 _, hO.but hB (fun g e => by simpa using (hg g e).1), hg⟩, h.mem, fun x hx => Nat.lt_of_lt_of_le (h.lt x hx) hB.size⟩, hB.intoD h.mem⟩
set_option maxHeartbeats 2000000 in
theorem ecrash16_any (w : World) {b : Nat} {S : List Nat} {σ : D16} (h : RD w b S σ) {A : Option Addr} {nk ck : Nat} {all : List Int} (hZ : Zs w A nk all) (hF : ZFit all) (hKS : 0 < nk → ∀ g o, A = some ⟨g, o, none⟩ → g ∉ S) :
    Calls Try.prog 22 #[.pointer (some ⟨b, 0, none⟩), .slice A nk ck] w fun e w' => e = .returned (.tuple #[]) ∧ RD w' b S (crashs16 σ all) ∧ But S w w' := by
  have hok := ok16_crash (ks := all) h.ok
  have HRD := Lib.hid h.rw
  obtain ⟨L, hL⟩ : ∃ L, L = σ.l := ⟨_, rfl⟩
  have hfew := h.ok.few
  have HSy : Hid (∀ f ∈ L, f.syn ≤ f.data.length ∧ f.data.length ≤ 16777216) := Lib.hid fun f hf => ⟨h.ok.syn f (by rw [← hL]; exact hf), Nat.le_trans (size16_mem (by rw [← hL]; exact hf)) (Nat.le_trans h.ok.size h.ok.lim)⟩
  rw [← hL] at hfew
  obtain ⟨m, hm⟩ : ∃ m, m = L.length := ⟨_, rfl⟩
  have HML := Lib.hid hm
  rw [← hm] at hfew
  have HZ : Hid (∀ v, But S w v → Zs v A nk all) := Lib.hid fun v hv => hZ.butS hv hKS
  have HZL : Hid (all.length = nk) := Lib.hid hZ.1
  have HFit : Hid (ZFit all) := Lib.hid hF
  have HW0 : Hid (with16 σ L = σ) := Lib.hid (by unfold with16; rw [hL])
  have HEnd : Hid (∀ (v : World) (pre : List F16), RW v b S (with16 σ pre) → crash16 L all = pre → RD ((v.setCell ⟨b, 3, none⟩ (.bool false)).setCell ⟨b, 2, none⟩ (.int .i64 0)) b S (crashs16 σ all) ∧ But S v ((v.setCell ⟨b, 3, none⟩ (.bool false)).setCell ⟨b, 2, none⟩ (.int .i64 0))) := Lib.hid fun v pre hv hc => by
    have e : (⟨pre, σ.limit, 0, false, σ.steps⟩ : D16) = crashs16 σ all := by unfold crashs16; rw [← hc, hL]
    exact ⟨by rw [← e]; rw [← e] at hok; exact hv.flags.1.rd hok, hv.flags.2⟩
  have HCell : Hid (∀ (v : World) (pre : List F16), RW v b S (with16 σ pre) → ∃ u, v.cell? ⟨b, 0, none⟩ = some u ∧ v.cell? ⟨b, 2, none⟩ = some (.int .i64 (σ.armed : Nat)) ∧ v.cell? ⟨b, 3, none⟩ = some (.bool σ.dead) ∧ v.frozen? ⟨b, 2, none⟩ = false ∧ v.frozen? ⟨b, 3, none⟩ = false ∧ b < v.heap.size ∧ ∃ A c, u = .slice A pre.length c) := Lib.hid fun v pre hv => by
    obtain ⟨u, hI, hO, _⟩ := hv.row
    obtain ⟨A, c, e, _⟩ := hO.view
    exact ⟨u, hI.cell 0, hI.cell 2, hI.cell 3, hI.free 2, hI.free 3, hI.lt, A, c, e⟩
  clear h hL hm hZ hF hok
  go_enter Try.func22, Try.ntmps22
  go_wp2
  go_loopw [4, 5] (fun jv iv wr => ∃ (i k : Nat) (pre : List F16), i ≤ m ∧ k ≤ i ∧ jv = .int .i64 k ∧ iv = .int .i64 i ∧ Hid (pre.length = i) ∧ Hid (crash16 L all = pre ++ crash16 (L.drop i) (all.drop k)) ∧ Hid (RW wr b S (with16 σ (pre ++ L.drop i)) ∧ But S w wr)) (fun _ iv _ => m - (intOf iv).toNat)
  case atStart => exact ⟨0, 0, [], Nat.zero_le _, Nat.le_refl _, rfl, rfl, Lib.hid rfl, Lib.hid rfl, Lib.hid ⟨by rw [List.drop_zero, List.nil_append, HW0.out]; exact HRD.out, But.refl S _⟩⟩
  case round =>
    obtain ⟨i, k, pre, hi, hk, rfl, rfl, HPL, HCr, HRW⟩ := hrel
    by_cases hlt : i < m
    · obtain ⟨f, l, hdr⟩ : ∃ f l, L.drop i = f :: l := ⟨L[i]'(by rw [← HML.out]; exact hlt), L.drop (i + 1), (List.getElem_cons_drop (by rw [← HML.out]; exact hlt)).symm⟩
      have hmem : f ∈ L := List.mem_of_mem_drop (by rw [hdr]; exact List.mem_cons_self ..)
      have hsyn := HSy.out f hmem
      have HLL : Hid (l.length + (i + 1) = m) := Lib.hid (by
        have := congrArg List.length hdr
        rw [List.length_drop, List.length_cons, ← HML.out] at this
        omega)
      have HDR := Lib.hid hdr
      have HDN : Hid ([lose16 f ((all.drop k).headD 0)] ++ L.drop (i + 1) = lose16 f ((all.drop k).headD 0) :: l ∧ [f] ++ L.drop (i + 1) = f :: l) := Lib.hid (by
        have e : L.drop (i + 1) = l := by rw [← List.drop_drop, hdr]; rfl
        rw [e]; exact ⟨rfl, rfl⟩)
      rw [hdr] at HRW
      obtain ⟨x, hxx⟩ : ∃ x, x = strL f.data := ⟨_, rfl⟩
      have hxs : x.size = f.data.length := by rw [hxx, strL_size]
      obtain ⟨sy, hsy⟩ : ∃ x, x = f.syn := ⟨_, rfl⟩
      obtain ⟨d, hdd⟩ : ∃ z, z = x.size - sy := ⟨_, rfl⟩
      obtain ⟨g, c, hI, hgl, hx, hs1, hs2⟩ := RW.file HPL.out HRW.out.1
      have HI := Lib.hid hI
      have HX := Lib.hid hx
      have HS1 := Lib.hid hs1
      have HS2 := Lib.hid hs2
      rw [show pre.length + l.length + 1 = m by rw [HPL.out]; have := HLL.out; omega] at HI
      clear hI hgl hx hs1 hs2
      have HX := Lib.hid (fun (v' : World) (hv' : But [] wr v') => show v'.cell? ⟨g, i * 3 + 1, none⟩ = some (.string x) ∧ v'.frozen? ⟨g, i * 3 + 1, none⟩ = false ∧ v'.cell? ⟨g, i * 3 + 2, none⟩ = some (.int .i64 (sy : Nat)) ∧ v'.frozen? ⟨g, i * 3 + 2, none⟩ = false ∧ g < v'.heap.size from by rw [hxx, hsy]; exact HX.out v' hv')
      have c0 := HI.out.cell 0
      have hbl := HI.out.lt
      have i0 : (0 : Int) ≤ (i : Int) := by omega
      have i1 : (i : Int) < (m : Int) := by omega
      have a1 : (x.size : Int) - (sy : Int) = (d : Int) := by omega
      have w1 := wrapI_in (show d < 1000000000000000 by omega)
      have w1k : IntKind.i64.wrap ((k : Int) + 1) = (k : Int) + 1 := by rw [IntKind.wrap_i64]; omega
      have HXX := Lib.hid hxx
      have HXS := Lib.hid hxs
      have HSYN := Lib.hid hsyn
      have HSE := Lib.hid hsy
      have HDD := Lib.hid hdd
      clear hxx hxs hsyn hsy hdd hdr hmem
      go_upto_region 4 with (fail)
      clear c0 hbl
      refine wp_region_m (S := fun v => But [] wr v) (R := fun v v' => But [] v v') (fun w => But.refl [] w) (by kernel_rfl) ((But.refl [] wr).drew) ?_
      refine rdk 0 (.pointer (some ⟨b, 0, none⟩)) ?_
      refine rdk 1 (.pointer (some ⟨b, 0, none⟩)) ?_
      refine rdk 2 (.pointer (some ⟨b, 0, none⟩)) ?_
      refine rdq 3 (.slice (some ⟨g, 0, none⟩) m c) (fun W hS => ?_) ?_
      · have y := (HI.out.but hS (by simp)).cell 0; go_simp
      refine rdk 4 (.int .i64 (i : Int)) ?_
      refine rdk 5 (.pointer (some ⟨g, i * 3, none⟩)) ?_
      refine rdk 6 (.pointer (some ⟨g, i * 3 + 1, none⟩)) ?_
      refine rdq 7 (.string x) (fun W hS => ?_) ?_
      · have y := (HX.out W hS).1; go_simp
      refine rdk 8 (.int .i64 (x.size : Int)) ?_
      refine rdk 9 (.pointer (some ⟨b, 0, none⟩)) ?_
      refine rdk 10 (.pointer (some ⟨b, 0, none⟩)) ?_
      refine rdk 11 (.pointer (some ⟨b, 0, none⟩)) ?_
      refine rdq 12 (.slice (some ⟨g, 0, none⟩) m c) (fun W hS => ?_) ?_
      · have y := (HI.out.but hS (by simp)).cell 0; go_simp
      refine rdk 13 (.int .i64 (i : Int)) ?_
      refine rdk 14 (.pointer (some ⟨g, i * 3, none⟩)) ?_
      refine rdk 15 (.pointer (some ⟨g, i * 3 + 2, none⟩)) ?_
      refine rdq 16 (.int .i64 (sy : Int)) (fun W hS => ?_) ?_
      · have y := (HX.out W hS).2.2.1; go_simp
      refine rdk 17 (.int .i64 (d : Int)) ?_
      refine rdk 18 (.int .i64 (d : Int)) ?_
      refine ⟨by kernel_rfl, fun w8 hR8 hS8 => ?_⟩
      have HB8 := Lib.hid hS8
      clear hR8 hS8
      go_simp
      have HRW8 := Lib.hid (show RW w8 b S (with16 σ (pre ++ f :: l)) ∧ But S w w8 from ⟨HRW.out.1.but HB8.out, HRW.out.2.trans HB8.out.wideD⟩)
      clear HI HX HS1 HS2 HRW
      by_cases hd0 : d = 0
      · have HK2 := Lib.hid (crash_keep HPL.out HDR.out HCr.out (by have h1 := HSYN.out; have h2 := HSE.out; have h3 := HDD.out; have h4 := HXS.out; omega))
        subst hd0
        go_wp2
        go_roundw
        case rel => exact ⟨i + 1, k, pre ++ [f], by omega, by omega, rfl, by go_num, Lib.hid HK2.out.2, Lib.hid HK2.out.1, Lib.hid (by rw [List.append_assoc, HDN.out.2]; exact HRW8.out)⟩
        case measure => simp [intOf] <;> omega
      · have hL2 := crash_lose HPL.out HDR.out HCr.out (by have h1 := HSYN.out; have h2 := HSE.out; have h3 := HDD.out; have h4 := HXS.out; omega)
        rw [List.tail_drop] at hL2
        have HL2 := Lib.hid hL2
        have hkv : ∃ z, z = (all.drop k).headD 0 := ⟨_, rfl⟩
        obtain ⟨kv, hkv⟩ := hkv
        rw [← hkv] at HL2 HDN
        have q0 : ¬ (d : Int) = 0 := by omega
        have q0b : ((d : Int) == 0) = false := by simp; omega
        have hfit : -9223372036854775808 ≤ kv ∧ kv ≤ 9223372036854775807 := by
          rw [hkv]
          cases e : all.drop k with
          | nil => exact ⟨by decide, by decide⟩
          | cons a r => exact HFit.out a (List.mem_of_mem_drop (by rw [e]; exact List.mem_cons_self ..))
        clear hL2
        have hxx := HXX.out
        have hxs := HXS.out
        have hsyn := HSYN.out
        have hsy := HSE.out
        have hdd0 := HDD.out
        have hdd : d = f.data.length - f.syn := by rw [hdd0, hxs, hsy]
        obtain ⟨q, hq⟩ : ∃ q : Nat, (q : Int) = (if kv < 0 then -(kv + 1) else kv) := ⟨(if kv < 0 then -(kv + 1) else kv).toNat, by split <;> omega⟩
        obtain ⟨d1, hd1⟩ : ∃ z, z = d + 1 := ⟨_, rfl⟩
        obtain ⟨r, hr⟩ : ∃ z, z = q % d1 := ⟨_, rfl⟩
        obtain ⟨t, ht⟩ : ∃ z, z = sy + r := ⟨_, rfl⟩
        have hrl : r < d1 := by rw [hr]; exact Nat.mod_lt _ (by omega)
        have htl : t ≤ f.data.length := by omega
        obtain ⟨y, hy⟩ : ∃ z, z = strL (f.data.take t) := ⟨_, rfl⟩
        have HY := Lib.hid hy
        have hys : y.size = (f.data.take t).length := by rw [hy, strL_size]
        have e1 : (d : Int) + 1 = (d1 : Int) := by omega
        have e2 : (q : Int).tmod (d1 : Int) = (r : Int) := by rw [Int.tmod_eq_emod_of_nonneg (by omega), hr]; omega
        have e2b : (q : Int) % (d1 : Int) = (r : Int) := by rw [hr]; omega
        have e3 : (sy : Int) + (r : Int) = (t : Int) := by omega
        have u1 := wrapI_in (show d1 < 1000000000000000 by omega)
        have u2 := wrapI_in (show r < 1000000000000000 by omega)
        have u3 := wrapI_in (show t < 1000000000000000 by omega)
        have d1n : ¬ (d1 : Int) = 0 := by omega
        have d1m : ¬ d1 = 0 := by omega
        have d1z : ((d1 : Int) == 0) = false := by simp; omega
        have ks9 : ∀ v, (Instr.slice 9 (.string x) none (some (.int .i64 (t : Int))) none).run Try.prog v = .ok (.string y) v := fun v => by
          rw [hxx, hy, run_slice_string_to_if v 9 (strL f.data) .i64 (t : Int) Try.underlying9, if_pos (by rw [strL_size]; omega), Int.toNat_natCast, ext_list, strL_list, List.drop_zero]
        have HLose : Hid (lose16 f kv = { ({ f with data := f.data.take t } : F16) with syn := y.size }) := Lib.hid (by
          have hkk : keep16 kv (f.data.length - f.syn) = r := by
            unfold keep16
            rw [← hq, Int.toNat_natCast, hr, hd1, ← hdd]
          unfold lose16
          rw [hkk, ← hsy, ← ht, hys])
        have HQ := Lib.hid hq
        have HRQ := Lib.hid hr
        have HTQ := Lib.hid ht
        clear hxx hxs hsyn hsy hdd0 hdd hq hd1 hr ht hrl htl hy hys
        obtain ⟨g, c, hI, hgl, hx, hs1, hs2⟩ := RW.file HPL.out HRW8.out.1
        have HI := Lib.hid hI
        have HX := Lib.hid (fun (v' : World) (hv' : But [] w8 v') => show v'.cell? ⟨g, i * 3 + 1, none⟩ = some (.string x) ∧ v'.frozen? ⟨g, i * 3 + 1, none⟩ = false ∧ v'.cell? ⟨g, i * 3 + 2, none⟩ = some (.int .i64 (sy : Nat)) ∧ v'.frozen? ⟨g, i * 3 + 2, none⟩ = false ∧ g < v'.heap.size from by rw [HXX.out, HSE.out]; exact hx v' hv')
        have HS1 := Lib.hid hs1
        have HS2 := Lib.hid hs2
        rw [show pre.length + l.length + 1 = m by rw [HPL.out]; have := HLL.out; omega] at HI
        clear hI hgl hx hs1 hs2
        by_cases hkn : k < nk
        · have k2 : (k : Int) < (nk : Int) := by omega
          have k0 : (0 : Int) ≤ (k : Int) := by omega
          have hzz := HZ.out w8 HRW8.out.2
          obtain ⟨ga, oa, eA, hga, hca⟩ := hzz.2 (by omega)
          have hkk := hca k (by rw [hzz.1]; exact hkn)
          have hkv2 : kv = all[k]'(by rw [hzz.1]; exact hkn) := by
            rw [hkv, List.drop_eq_getElem_cons (by rw [hzz.1]; exact hkn)]; rfl
          rw [← hkv2] at hkk
          subst eA
          clear hkv hkv2 hzz hca
          by_cases hneg : kv < 0
          · have n1 : IntKind.i64.wrap (kv + 1) = kv + 1 := by rw [IntKind.wrap_i64]; omega
            have n2 : IntKind.i64.wrap (-(kv + 1)) = (q : Int) := by rw [HQ.out, if_pos hneg, IntKind.wrap_i64]; omega
            have n3 : -(kv + 1) = (q : Int) := by rw [HQ.out, if_pos hneg]
            go_upto_region 12 with (fail)
            refine wp_region_z (z := 29) (S := fun v => But [] w8 v) (R := fun v v' => But [] v v') (fun w => But.refl [] w) (by kernel_rfl) (But.refl [] w8).drew ?_
            refine rz_k 0 (.pointer (some ⟨b, 0, none⟩)) ?_
            refine rz_k 1 (.pointer (some ⟨b, 0, none⟩)) ?_
            refine rz_k 2 (.pointer (some ⟨b, 0, none⟩)) ?_
            refine rz_q 3 (.slice (some ⟨g, 0, none⟩) m c) (fun W hS => ?_) ?_
            · have y := (HI.out.but hS (by simp)).cell 0; go_simp
            refine rz_k 4 (.int .i64 (i : Int)) ?_
            refine rz_k 5 (.pointer (some ⟨b, 0, none⟩)) ?_
            refine rz_k 6 (.pointer (some ⟨b, 0, none⟩)) ?_
            refine rz_k 7 (.pointer (some ⟨b, 0, none⟩)) ?_
            refine rz_q 8 (.slice (some ⟨g, 0, none⟩) m c) (fun W hS => ?_) ?_
            · have y := (HI.out.but hS (by simp)).cell 0; go_simp
            refine rz_k 9 (.int .i64 (i : Int)) ?_
            refine rz_k 10 (.pointer (some ⟨g, i * 3, none⟩)) ?_
            refine rz_k 11 (.pointer (some ⟨g, i * 3 + 1, none⟩)) ?_
            refine rz_q 12 (.string x) (fun W hS => ?_) ?_
            · have y := (HX.out W hS).1; go_simp
            refine rz_k 13 (.pointer (some ⟨b, 0, none⟩)) ?_
            refine rz_k 14 (.pointer (some ⟨b, 0, none⟩)) ?_
            refine rz_k 15 (.pointer (some ⟨b, 0, none⟩)) ?_
            refine rz_q 16 (.slice (some ⟨g, 0, none⟩) m c) (fun W hS => ?_) ?_
            · have y := (HI.out.but hS (by simp)).cell 0; go_simp
            refine rz_k 17 (.int .i64 (i : Int)) ?_
            refine rz_k 18 (.pointer (some ⟨g, i * 3, none⟩)) ?_
            refine rz_k 19 (.pointer (some ⟨g, i * 3 + 2, none⟩)) ?_
            refine rz_q 20 (.int .i64 (sy : Int)) (fun W hS => ?_) ?_
            · have y := (HX.out W hS).2.2.1; go_simp
            refine rz_k 21 (.int .i64 (q : Int)) ?_
            refine rz_k 22 (.int .i64 (d : Int)) ?_
            refine rz_k 23 (.int .i64 (d1 : Int)) ?_
            refine rz_k 24 (.int .i64 (r : Int)) ?_
            refine rz_k 25 (.int .i64 (t : Int)) ?_
            refine rz_k 26 (.string y) ?_
            refine rz_o 27 (.pointer (some ⟨g, i * 3, none⟩)) ?_
            refine rz_o 28 (.pointer (some ⟨g, i * 3 + 1, none⟩)) ?_
            refine wpZ_last rfl (by kernel_rfl) (by kernel_rfl) fun w3 hR3 hS3 K' hK => ?_
            have y1 := (HX.out w3 hS3).1
            have y2 := (HX.out w3 hS3).2.1
            have y3 := (HX.out w3 hS3).2.2.2.2
            have hF := HS1.out w3 (f.data.take t) hS3
            have HF4 := Lib.hid (show RW (w3.setCell ⟨g, i * 3 + 1, none⟩ (.string y)) b S (with16 σ (pre ++ { f with data := f.data.take t } :: l)) ∧ But S w (w3.setCell ⟨g, i * 3 + 1, none⟩ (.string y)) from ⟨by rw [HY.out]; exact hF.1, by rw [HY.out]; exact (HRW8.out.2.trans hS3.wideD).trans hF.2⟩)
            clear hF hR3 hS3
            go_simp
            refine hK _ _ ?_
            clear hK y1 y2 y3 HI HX HS1 HS2
            obtain ⟨w4, hw4⟩ : ∃ X, X = w3.setCell ⟨g, i * 3 + 1, none⟩ (.string y) := ⟨_, rfl⟩
            rw [← hw4] at HF4 ⊢
            clear hw4
            go_simp
            obtain ⟨g, c, hI, hgl, hx, hs1, hs2⟩ := RW.file HPL.out HF4.out.1
            have HI := Lib.hid hI
            have HX := Lib.hid hx
            have HS1 := Lib.hid hs1
            have HS2 := Lib.hid hs2
            rw [show pre.length + l.length + 1 = m by rw [HPL.out]; have := HLL.out; omega] at HI
            clear hI hgl hx hs1 hs2
            have HX := Lib.hid (fun (v' : World) (hv' : But [] w4 v') => show v'.cell? ⟨g, i * 3 + 1, none⟩ = some (.string y) ∧ v'.frozen? ⟨g, i * 3 + 1, none⟩ = false ∧ v'.cell? ⟨g, i * 3 + 2, none⟩ = some (.int .i64 (sy : Nat)) ∧ v'.frozen? ⟨g, i * 3 + 2, none⟩ = false ∧ g < v'.heap.size from by rw [HY.out, HSE.out]; exact HX.out v' hv')
            go_upto_region 13 with (fail)
            refine wp_region_z (z := 16) (S := fun v => But [] w4 v) (R := fun v v' => But [] v v') (fun w => But.refl [] w) (by kernel_rfl) (But.refl [] w4).drew ?_
            refine rz_k 0 (.pointer (some ⟨b, 0, none⟩)) ?_
            refine rz_k 1 (.pointer (some ⟨b, 0, none⟩)) ?_
            refine rz_k 2 (.pointer (some ⟨b, 0, none⟩)) ?_
            refine rz_q 3 (.slice (some ⟨g, 0, none⟩) m c) (fun W hS => ?_) ?_
            · have y := (HI.out.but hS (by simp)).cell 0; go_simp
            refine rz_k 4 (.int .i64 (i : Int)) ?_
            refine rz_k 5 (.pointer (some ⟨b, 0, none⟩)) ?_
            refine rz_k 6 (.pointer (some ⟨b, 0, none⟩)) ?_
            refine rz_k 7 (.pointer (some ⟨b, 0, none⟩)) ?_
            refine rz_q 8 (.slice (some ⟨g, 0, none⟩) m c) (fun W hS => ?_) ?_
            · have y := (HI.out.but hS (by simp)).cell 0; go_simp
            refine rz_k 9 (.int .i64 (i : Int)) ?_
            refine rz_k 10 (.pointer (some ⟨g, i * 3, none⟩)) ?_
            refine rz_k 11 (.pointer (some ⟨g, i * 3 + 1, none⟩)) ?_
            refine rz_q 12 (.string y) (fun W hS => ?_) ?_
            · have y := (HX.out W hS).1; go_simp
            refine rz_k 13 (.int .i64 (y.size : Int)) ?_
            refine rz_o 14 (.pointer (some ⟨g, i * 3, none⟩)) ?_
            refine rz_o 15 (.pointer (some ⟨g, i * 3 + 2, none⟩)) ?_
            refine wpZ_last rfl (by kernel_rfl) (by kernel_rfl) fun w5 hR5 hS5 K' hK => ?_
            have y1 := (HX.out w5 hS5).2.2.1
            have y2 := (HX.out w5 hS5).2.2.2.1
            have y3 := (HX.out w5 hS5).2.2.2.2
            have hF := HS2.out w5 y.size hS5
            have HF6 := Lib.hid (show RW (w5.setCell ⟨g, i * 3 + 2, none⟩ (.int .i64 (y.size : Nat))) b S (with16 σ (pre ++ lose16 f kv :: l)) ∧ But S w (w5.setCell ⟨g, i * 3 + 2, none⟩ (.int .i64 (y.size : Nat))) from ⟨by rw [HLose.out]; exact hF.1, (HF4.out.2.trans hS5.wideD).trans hF.2⟩)
            clear hF hR5 hS5
            go_simp
            refine hK _ _ ?_
            clear hK y1 y2 y3 HI HX HS1 HS2 HF4
            obtain ⟨w6, hw6⟩ : ∃ X, X = w5.setCell ⟨g, i * 3 + 2, none⟩ (.int .i64 (y.size : Nat)) := ⟨_, rfl⟩
            rw [← hw6] at HF6 ⊢
            clear hw6
            go_simp
            go_wp2
            go_roundw
            case rel => exact ⟨i + 1, k + 1, pre ++ [lose16 f kv], by omega, by omega, by go_num, by go_num, Lib.hid HL2.out.2, Lib.hid HL2.out.1, Lib.hid (by rw [List.append_assoc, HDN.out.1]; exact HF6.out)⟩
            case measure => simp [intOf] <;> omega
          · have n3 : kv = (q : Int) := by rw [HQ.out, if_neg hneg]
            have n4 : ¬ (q : Int) < 0 := by omega
            rw [n3] at hkk
            go_upto_region 12 with (fail)
            refine wp_region_z (z := 29) (S := fun v => But [] w8 v) (R := fun v v' => But [] v v') (fun w => But.refl [] w) (by kernel_rfl) (But.refl [] w8).drew ?_
            refine rz_k 0 (.pointer (some ⟨b, 0, none⟩)) ?_
            refine rz_k 1 (.pointer (some ⟨b, 0, none⟩)) ?_
            refine rz_k 2 (.pointer (some ⟨b, 0, none⟩)) ?_
            refine rz_q 3 (.slice (some ⟨g, 0, none⟩) m c) (fun W hS => ?_) ?_
            · have y := (HI.out.but hS (by simp)).cell 0; go_simp
            refine rz_k 4 (.int .i64 (i : Int)) ?_
            refine rz_k 5 (.pointer (some ⟨b, 0, none⟩)) ?_
            refine rz_k 6 (.pointer (some ⟨b, 0, none⟩)) ?_
            refine rz_k 7 (.pointer (some ⟨b, 0, none⟩)) ?_
            refine rz_q 8 (.slice (some ⟨g, 0, none⟩) m c) (fun W hS => ?_) ?_
            · have y := (HI.out.but hS (by simp)).cell 0; go_simp
            refine rz_k 9 (.int .i64 (i : Int)) ?_
            refine rz_k 10 (.pointer (some ⟨g, i * 3, none⟩)) ?_
            refine rz_k 11 (.pointer (some ⟨g, i * 3 + 1, none⟩)) ?_
            refine rz_q 12 (.string x) (fun W hS => ?_) ?_
            · have y := (HX.out W hS).1; go_simp
            refine rz_k 13 (.pointer (some ⟨b, 0, none⟩)) ?_
            refine rz_k 14 (.pointer (some ⟨b, 0, none⟩)) ?_
            refine rz_k 15 (.pointer (some ⟨b, 0, none⟩)) ?_
            refine rz_q 16 (.slice (some ⟨g, 0, none⟩) m c) (fun W hS => ?_) ?_
            · have y := (HI.out.but hS (by simp)).cell 0; go_simp
            refine rz_k 17 (.int .i64 (i : Int)) ?_
            refine rz_k 18 (.pointer (some ⟨g, i * 3, none⟩)) ?_
            refine rz_k 19 (.pointer (some ⟨g, i * 3 + 2, none⟩)) ?_
            refine rz_q 20 (.int .i64 (sy : Int)) (fun W hS => ?_) ?_
            · have y := (HX.out W hS).2.2.1; go_simp
            refine rz_k 21 (.int .i64 (q : Int)) ?_
            refine rz_k 22 (.int .i64 (d : Int)) ?_
            refine rz_k 23 (.int .i64 (d1 : Int)) ?_
            refine rz_k 24 (.int .i64 (r : Int)) ?_
            refine rz_k 25 (.int .i64 (t : Int)) ?_
            refine rz_k 26 (.string y) ?_
            refine rz_o 27 (.pointer (some ⟨g, i * 3, none⟩)) ?_
            refine rz_o 28 (.pointer (some ⟨g, i * 3 + 1, none⟩)) ?_
            refine wpZ_last rfl (by kernel_rfl) (by kernel_rfl) fun w3 hR3 hS3 K' hK => ?_
            have y1 := (HX.out w3 hS3).1
            have y2 := (HX.out w3 hS3).2.1
            have y3 := (HX.out w3 hS3).2.2.2.2
            have hF := HS1.out w3 (f.data.take t) hS3
            have HF4 := Lib.hid (show RW (w3.setCell ⟨g, i * 3 + 1, none⟩ (.string y)) b S (with16 σ (pre ++ { f with data := f.data.take t } :: l)) ∧ But S w (w3.setCell ⟨g, i * 3 + 1, none⟩ (.string y)) from ⟨by rw [HY.out]; exact hF.1, by rw [HY.out]; exact (HRW8.out.2.trans hS3.wideD).trans hF.2⟩)
            clear hF hR3 hS3
            go_simp
            refine hK _ _ ?_
            clear hK y1 y2 y3 HI HX HS1 HS2
            obtain ⟨w4, hw4⟩ : ∃ X, X = w3.setCell ⟨g, i * 3 + 1, none⟩ (.string y) := ⟨_, rfl⟩
            rw [← hw4] at HF4 ⊢
            clear hw4
            go_simp
            obtain ⟨g, c, hI, hgl, hx, hs1, hs2⟩ := RW.file HPL.out HF4.out.1
            have HI := Lib.hid hI
            have HX := Lib.hid hx
            have HS1 := Lib.hid hs1
            have HS2 := Lib.hid hs2
            rw [show pre.length + l.length + 1 = m by rw [HPL.out]; have := HLL.out; omega] at HI
            clear hI hgl hx hs1 hs2
            have HX := Lib.hid (fun (v' : World) (hv' : But [] w4 v') => show v'.cell? ⟨g, i * 3 + 1, none⟩ = some (.string y) ∧ v'.frozen? ⟨g, i * 3 + 1, none⟩ = false ∧ v'.cell? ⟨g, i * 3 + 2, none⟩ = some (.int .i64 (sy : Nat)) ∧ v'.frozen? ⟨g, i * 3 + 2, none⟩ = false ∧ g < v'.heap.size from by rw [HY.out, HSE.out]; exact HX.out v' hv')
            go_upto_region 13 with (fail)
            refine wp_region_z (z := 16) (S := fun v => But [] w4 v) (R := fun v v' => But [] v v') (fun w => But.refl [] w) (by kernel_rfl) (But.refl [] w4).drew ?_
            refine rz_k 0 (.pointer (some ⟨b, 0, none⟩)) ?_
            refine rz_k 1 (.pointer (some ⟨b, 0, none⟩)) ?_
            refine rz_k 2 (.pointer (some ⟨b, 0, none⟩)) ?_
            refine rz_q 3 (.slice (some ⟨g, 0, none⟩) m c) (fun W hS => ?_) ?_
            · have y := (HI.out.but hS (by simp)).cell 0; go_simp
            refine rz_k 4 (.int .i64 (i : Int)) ?_
            refine rz_k 5 (.pointer (some ⟨b, 0, none⟩)) ?_
            refine rz_k 6 (.pointer (some ⟨b, 0, none⟩)) ?_
            refine rz_k 7 (.pointer (some ⟨b, 0, none⟩)) ?_
            refine rz_q 8 (.slice (some ⟨g, 0, none⟩) m c) (fun W hS => ?_) ?_
            · have y := (HI.out.but hS (by simp)).cell 0; go_simp
            refine rz_k 9 (.int .i64 (i : Int)) ?_
            refine rz_k 10 (.pointer (some ⟨g, i * 3, none⟩)) ?_
            refine rz_k 11 (.pointer (some ⟨g, i * 3 + 1, none⟩)) ?_
            refine rz_q 12 (.string y) (fun W hS => ?_) ?_
            · have y := (HX.out W hS).1; go_simp
            refine rz_k 13 (.int .i64 (y.size : Int)) ?_
            refine rz_o 14 (.pointer (some ⟨g, i * 3, none⟩)) ?_
            refine rz_o 15 (.pointer (some ⟨g, i * 3 + 2, none⟩)) ?_
            refine wpZ_last rfl (by kernel_rfl) (by kernel_rfl) fun w5 hR5 hS5 K' hK => ?_
            have y1 := (HX.out w5 hS5).2.2.1
            have y2 := (HX.out w5 hS5).2.2.2.1
            have y3 := (HX.out w5 hS5).2.2.2.2
            have hF := HS2.out w5 y.size hS5
            have HF6 := Lib.hid (show RW (w5.setCell ⟨g, i * 3 + 2, none⟩ (.int .i64 (y.size : Nat))) b S (with16 σ (pre ++ lose16 f kv :: l)) ∧ But S w (w5.setCell ⟨g, i * 3 + 2, none⟩ (.int .i64 (y.size : Nat))) from ⟨by rw [HLose.out]; exact hF.1, (HF4.out.2.trans hS5.wideD).trans hF.2⟩)
            clear hF hR5 hS5
            go_simp
            refine hK _ _ ?_
            clear hK y1 y2 y3 HI HX HS1 HS2 HF4
            obtain ⟨w6, hw6⟩ : ∃ X, X = w5.setCell ⟨g, i * 3 + 2, none⟩ (.int .i64 (y.size : Nat)) := ⟨_, rfl⟩
            rw [← hw6] at HF6 ⊢
            clear hw6
            go_simp
            go_wp2
            go_roundw
            case rel => exact ⟨i + 1, k + 1, pre ++ [lose16 f kv], by omega, by omega, by go_num, by go_num, Lib.hid HL2.out.2, Lib.hid HL2.out.1, Lib.hid (by rw [List.append_assoc, HDN.out.1]; exact HF6.out)⟩
            case measure => simp [intOf] <;> omega
        · have k2 : ¬ (k : Int) < (nk : Int) := by omega
          have hkv0 : kv = 0 := by rw [hkv, List.drop_eq_nil_of_le (by rw [HZL.out]; omega)]; rfl
          have hq0 : q = 0 := by have := HQ.out; rw [hkv0, if_neg (by decide)] at this; omega
          have hr0 : r = 0 := by rw [HRQ.out, hq0, Nat.zero_mod]
          have ht0 : t = sy := by rw [HTQ.out, hr0]; rfl
          clear hkv hkv0
          subst hr0 hq0
          subst ht0
          go_upto_region 12 with (fail)
          refine wp_region_z (z := 29) (S := fun v => But [] w8 v) (R := fun v v' => But [] v v') (fun w => But.refl [] w) (by kernel_rfl) (But.refl [] w8).drew ?_
          refine rz_k 0 (.pointer (some ⟨b, 0, none⟩)) ?_
          refine rz_k 1 (.pointer (some ⟨b, 0, none⟩)) ?_
          refine rz_k 2 (.pointer (some ⟨b, 0, none⟩)) ?_
          refine rz_q 3 (.slice (some ⟨g, 0, none⟩) m c) (fun W hS => ?_) ?_
          · have y := (HI.out.but hS (by simp)).cell 0; go_simp
          refine rz_k 4 (.int .i64 (i : Int)) ?_
          refine rz_k 5 (.pointer (some ⟨b, 0, none⟩)) ?_
          refine rz_k 6 (.pointer (some ⟨b, 0, none⟩)) ?_
          refine rz_k 7 (.pointer (some ⟨b, 0, none⟩)) ?_
          refine rz_q 8 (.slice (some ⟨g, 0, none⟩) m c) (fun W hS => ?_) ?_
          · have y := (HI.out.but hS (by simp)).cell 0; go_simp
          refine rz_k 9 (.int .i64 (i : Int)) ?_
          refine rz_k 10 (.pointer (some ⟨g, i * 3, none⟩)) ?_
          refine rz_k 11 (.pointer (some ⟨g, i * 3 + 1, none⟩)) ?_
          refine rz_q 12 (.string x) (fun W hS => ?_) ?_
          · have y := (HX.out W hS).1; go_simp
          refine rz_k 13 (.pointer (some ⟨b, 0, none⟩)) ?_
          refine rz_k 14 (.pointer (some ⟨b, 0, none⟩)) ?_
          refine rz_k 15 (.pointer (some ⟨b, 0, none⟩)) ?_
          refine rz_q 16 (.slice (some ⟨g, 0, none⟩) m c) (fun W hS => ?_) ?_
          · have y := (HI.out.but hS (by simp)).cell 0; go_simp
          refine rz_k 17 (.int .i64 (i : Int)) ?_
          refine rz_k 18 (.pointer (some ⟨g, i * 3, none⟩)) ?_
          refine rz_k 19 (.pointer (some ⟨g, i * 3 + 2, none⟩)) ?_
          refine rz_q 20 (.int .i64 (t : Int)) (fun W hS => ?_) ?_
          · have y := (HX.out W hS).2.2.1; go_simp
          refine rz_k 21 (.int .i64 0) ?_
          refine rz_k 22 (.int .i64 (d : Int)) ?_
          refine rz_k 23 (.int .i64 (d1 : Int)) ?_
          refine rz_k 24 (.int .i64 0) ?_
          refine rz_k 25 (.int .i64 (t : Int)) ?_
          refine rz_k 26 (.string y) ?_
          refine rz_o 27 (.pointer (some ⟨g, i * 3, none⟩)) ?_
          refine rz_o 28 (.pointer (some ⟨g, i * 3 + 1, none⟩)) ?_
          refine wpZ_last rfl (by kernel_rfl) (by kernel_rfl) fun w3 hR3 hS3 K' hK => ?_
          have y1 := (HX.out w3 hS3).1
          have y2 := (HX.out w3 hS3).2.1
          have y3 := (HX.out w3 hS3).2.2.2.2
          have hF := HS1.out w3 (f.data.take t) hS3
          have HF4 := Lib.hid (show RW (w3.setCell ⟨g, i * 3 + 1, none⟩ (.string y)) b S (with16 σ (pre ++ { f with data := f.data.take t } :: l)) ∧ But S w (w3.setCell ⟨g, i * 3 + 1, none⟩ (.string y)) from ⟨by rw [HY.out]; exact hF.1, by rw [HY.out]; exact (HRW8.out.2.trans hS3.wideD).trans hF.2⟩)
          clear hF hR3 hS3
          go_simp
          refine hK _ _ ?_
          clear hK y1 y2 y3 HI HX HS1 HS2
          obtain ⟨w4, hw4⟩ : ∃ X, X = w3.setCell ⟨g, i * 3 + 1, none⟩ (.string y) := ⟨_, rfl⟩
          rw [← hw4] at HF4 ⊢
          clear hw4
          go_simp
          obtain ⟨g, c, hI, hgl, hx, hs1, hs2⟩ := RW.file HPL.out HF4.out.1
          have HI := Lib.hid hI
          have HX := Lib.hid hx
          have HS1 := Lib.hid hs1
          have HS2 := Lib.hid hs2
          rw [show pre.length + l.length + 1 = m by rw [HPL.out]; have := HLL.out; omega] at HI
          clear hI hgl hx hs1 hs2
          have HX := Lib.hid (fun (v' : World) (hv' : But [] w4 v') => show v'.cell? ⟨g, i * 3 + 1, none⟩ = some (.string y) ∧ v'.frozen? ⟨g, i * 3 + 1, none⟩ = false ∧ v'.cell? ⟨g, i * 3 + 2, none⟩ = some (.int .i64 (t : Nat)) ∧ v'.frozen? ⟨g, i * 3 + 2, none⟩ = false ∧ g < v'.heap.size from ⟨by rw [HY.out]; exact (HX.out v' hv').1, (HX.out v' hv').2.1, by rw [HSE.out]; exact (HX.out v' hv').2.2.1, (HX.out v' hv').2.2.2.1, (HX.out v' hv').2.2.2.2⟩)
          go_upto_region 13 with (fail)
          refine wp_region_z (z := 16) (S := fun v => But [] w4 v) (R := fun v v' => But [] v v') (fun w => But.refl [] w) (by kernel_rfl) (But.refl [] w4).drew ?_
          refine rz_k 0 (.pointer (some ⟨b, 0, none⟩)) ?_
          refine rz_k 1 (.pointer (some ⟨b, 0, none⟩)) ?_
          refine rz_k 2 (.pointer (some ⟨b, 0, none⟩)) ?_
          refine rz_q 3 (.slice (some ⟨g, 0, none⟩) m c) (fun W hS => ?_) ?_
          · have y := (HI.out.but hS (by simp)).cell 0; go_simp
          refine rz_k 4 (.int .i64 (i : Int)) ?_
          refine rz_k 5 (.pointer (some ⟨b, 0, none⟩)) ?_
          refine rz_k 6 (.pointer (some ⟨b, 0, none⟩)) ?_
          refine rz_k 7 (.pointer (some ⟨b, 0, none⟩)) ?_
          refine rz_q 8 (.slice (some ⟨g, 0, none⟩) m c) (fun W hS => ?_) ?_
          · have y := (HI.out.but hS (by simp)).cell 0; go_simp
          refine rz_k 9 (.int .i64 (i : Int)) ?_
          refine rz_k 10 (.pointer (some ⟨g, i * 3, none⟩)) ?_
          refine rz_k 11 (.pointer (some ⟨g, i * 3 + 1, none⟩)) ?_
          refine rz_q 12 (.string y) (fun W hS => ?_) ?_
          · have y := (HX.out W hS).1; go_simp
          refine rz_k 13 (.int .i64 (y.size : Int)) ?_
          refine rz_o 14 (.pointer (some ⟨g, i * 3, none⟩)) ?_
          refine rz_o 15 (.pointer (some ⟨g, i * 3 + 2, none⟩)) ?_
          refine wpZ_last rfl (by kernel_rfl) (by kernel_rfl) fun w5 hR5 hS5 K' hK => ?_
          have y1 := (HX.out w5 hS5).2.2.1
          have y2 := (HX.out w5 hS5).2.2.2.1
          have y3 := (HX.out w5 hS5).2.2.2.2
          have hF := HS2.out w5 y.size hS5
          have HF6 := Lib.hid (show RW (w5.setCell ⟨g, i * 3 + 2, none⟩ (.int .i64 (y.size : Nat))) b S (with16 σ (pre ++ lose16 f kv :: l)) ∧ But S w (w5.setCell ⟨g, i * 3 + 2, none⟩ (.int .i64 (y.size : Nat))) from ⟨by rw [HLose.out]; exact hF.1, (HF4.out.2.trans hS5.wideD).trans hF.2⟩)
          clear hF hR5 hS5
          go_simp
          refine hK _ _ ?_
          clear hK y1 y2 y3 HI HX HS1 HS2 HF4
          obtain ⟨w6, hw6⟩ : ∃ X, X = w5.setCell ⟨g, i * 3 + 2, none⟩ (.int .i64 (y.size : Nat)) := ⟨_, rfl⟩
          rw [← hw6] at HF6 ⊢
          clear hw6
          go_simp
          go_wp2
          go_roundw
          case rel => exact ⟨i + 1, k + 1, pre ++ [lose16 f kv], by omega, by omega, by go_num, by go_num, Lib.hid HL2.out.2, Lib.hid HL2.out.1, Lib.hid (by rw [List.append_assoc, HDN.out.1]; exact HF6.out)⟩
          case measure => simp [intOf] <;> omega
    · obtain rfl : m = i := by omega
      have HNil : Hid (L.drop m = []) := Lib.hid (List.drop_eq_nil_of_le (by rw [← HML.out]; exact Nat.le_refl _))
      rw [HNil.out, List.append_nil] at HRW
      have HCr2 : Hid (crash16 L all = pre) := Lib.hid (by rw [HCr.out, HNil.out]; show pre ++ [] = pre; rw [List.append_nil])
      obtain ⟨u, c0, c2, c3, f2, f3, hbl, A2, cp2, hu⟩ := HCell.out wr pre HRW.out.1
      rw [HPL.out] at hu
      subst hu
      have hE := HEnd.out wr pre HRW.out.1 HCr2.out
      have HF := Lib.hid (show RD ((wr.setCell ⟨b, 3, none⟩ (.bool false)).setCell ⟨b, 2, none⟩ (.int .i64 0)) b S (crashs16 σ all) ∧ But S w ((wr.setCell ⟨b, 3, none⟩ (.bool false)).setCell ⟨b, 2, none⟩ (.int .i64 0)) from ⟨hE.1, HRW.out.2.trans hE.2⟩)
      have i1 : ¬ (m : Int) < (m : Int) := by omega
      clear hE
      go_wp2
      go_returns
      exact ⟨rfl, HF.out⟩
end Go.Proofs.Ytchpincoddghfaa
set_option maxRecDepth 100000
set_option linter.unusedVariables false
namespace Go.Proofs.Ytchpincoddghfaa
set_option maxRecDepth 100000
open Go Go.RowKit
section
variable {PD : World → Nat → List Nat → D16 → Prop}
end
/-- The bytes that fill lays. -/
def fillB (b : Int) (i : Nat) : UInt8 := UInt8.ofNat (IntKind.u8.wrap (b + (i : Int))).toNat
theorem fillB_is (b : Int) (i : Nat) : IntKind.u8.wrap (IntKind.i64.wrap (b + (i : Int))) = ((fillB b i).toNat : Int) ∧ IntKind.u8.wrap (b + (i : Int)) = ((fillB b i).toNat : Int) := by
  have h1 : IntKind.u8.wrap (b + (i : Int)) = ((fillB b i).toNat : Int) := by
    unfold fillB
    rw [UInt8.toNat_ofNat', IntKind.wrap_u8]
    omega
  refine ⟨?_, h1⟩
  rw [← h1, IntKind.wrap_u8, IntKind.wrap_u8, IntKind.wrap_i64]
  omega
def fillU (b : Int) (n k : Nat) : List UInt8 := (List.range k).map (fillB b) ++ List.replicate (n - k) 0
theorem fillU_length {b : Int} {n k : Nat} (h : k ≤ n) : (fillU b n k).length = n := by unfold fillU; rw [List.length_append, List.length_map, List.length_range, List.length_replicate]; omega
theorem fillU_next {b : Int} {n k : Nat} (h : k < n) : (fillU b n k).set k (fillB b k) = fillU b n (k + 1) := by
  unfold fillU
  rw [List.set_append_right _ _ (by rw [List.length_map, List.length_range]; exact Nat.le_refl _), List.length_map, List.length_range, Nat.sub_self, List.range_succ, List.map_append, List.append_assoc]
  congr 1
  rw [show n - k = (n - (k + 1)) + 1 by omega, List.replicate_succ, List.set_cons_zero]
  rfl
/-- How many bytes fill lays. -/
def fillN (n : Int) : Nat := min n.toNat 300
def fillT (n b : Int) : ByteArray := strL (fillU b (fillN n) (fillN n))
theorem fillT_size (n b : Int) : (fillT n b).size ≤ 300 := by
  unfold fillT
  rw [strL_size, fillU_length (Nat.le_refl _)]
  exact Nat.min_le_right _ _
set_option maxHeartbeats 1000000 in
theorem fill16_any (w : World) (n b : Int) :
    Calls Try.prog 11 #[.int .i64 n, .int .i64 b] w fun e w' => e = .returned (.string (fillT n b)) ∧ But [] w w' := by
  obtain ⟨m0, hm0⟩ : ∃ m : Nat, (m : Int) = (if n < 0 then 0 else n) := ⟨(if n < 0 then 0 else n).toNat, by split <;> omega⟩
  obtain ⟨m, hm⟩ : ∃ m, m = fillN n := ⟨_, rfl⟩
  have hm3 : m ≤ 300 := by rw [hm]; exact Nat.min_le_right _ _
  have km : ∀ v, (Builtin.max_ #[3, 3] 3 #[.int .i64 n, .int .i64 0]).run Try.prog v = .ok (.int .i64 (m0 : Int)) v := fun v => by
    rw [hm0]
    simp [Builtin.max_, Builtin.max2]
  have kn : ∀ v, (Builtin.min_ #[3, 3] 3 #[.int .i64 (m0 : Int), .int .i64 300]).run Try.prog v = .ok (.int .i64 (m : Int)) v := fun v => by
    have e : (if (300 : Int) < (m0 : Int) then 300 else (m0 : Int)) = (m : Int) := by
      rw [hm]; unfold fillN
      split at hm0 <;> split <;> omega
    rw [← e]
    simp [Builtin.min_, Builtin.min2]
  have HT : Hid (fillT n b = strL (fillU b m m)) := Lib.hid (by unfold fillT; rw [hm])
  rw [HT.out]
  have kmk := run_noughts w (n := m) (by omega)
  obtain ⟨w1, hw1⟩ : ∃ X, X = noughtsF w m := ⟨_, rfl⟩
  obtain ⟨g, hg⟩ : ∃ X, X = w.heap.size := ⟨_, rfl⟩
  have HR : Hid (RowF w1 g (fillU b m 0)) := Lib.hid (by rw [hw1, hg]; exact noughtsF_row w m)
  have HB : Hid (But [g] w w1) := Lib.hid (by rw [hw1]; have := noughtsF_but w m; exact ⟨this.os, this.tape, this.output, this.size, fun k hk _ => this.block k hk (by simp)⟩)
  have HGW : Hid (∀ w', But [g] w w' → But [] w w') := Lib.hid fun w' h => ⟨h.os, h.tape, h.output, h.size, fun k hk _ => h.block k hk (by rw [hg]; simp; omega)⟩
  rw [← hw1, ← hg] at kmk
  clear hm hm0 hw1 hg HT
  go_enter Try.func11, Try.ntmps11
  go_wp2_with fail
  go_loopw [6] (fun iv wr => ∃ k : Nat, k ≤ m ∧ iv = .int .i64 k ∧ Hid (RowF wr g (fillU b m k)) ∧ Hid (But [g] w wr)) (fun iv _ => m - (intOf iv).toNat)
  case atStart => exact ⟨0, Nat.zero_le _, rfl, HR, HB⟩
  case round =>
    obtain ⟨k, hk, rfl, HRk, HBk⟩ := hrel
    by_cases hlt : k < m
    · obtain ⟨x, hx⟩ : ∃ x : Nat, x = (fillB b k).toNat := ⟨_, rfl⟩
      have hxl : x < 256 := by rw [hx]; exact (fillB b k).toNat_lt
      have f1 := fillB_is b k
      rw [← hx] at f1
      have f1a := f1.1
      have f1b := f1.2
      have f1c : wrap64 (b + (k : Int)) % 256 = (x : Int) := by
        have := f1.1
        rw [IntKind.wrap_u8] at this
        rw [show wrap64 (b + (k : Int)) = IntKind.i64.wrap (b + (k : Int)) by rw [IntKind.wrap_i64]; unfold wrap64; omega]
        exact this
      have hl : k < (fillU b m k).length := by rw [fillU_length hk]; exact hlt
      have c0 := HRk.out.cell hl
      have c1 := HRk.out.free hl
      have hgl := HRk.out.lt
      have HP : Hid (RowF (wr.setCell ⟨g, k, none⟩ (.int .u8 (x : Nat))) g (fillU b m (k + 1))) := Lib.hid (by
        have := HRk.out.put k (fillB b k) hl
        rw [fillU_next hlt, ← hx] at this
        exact this)
      have HBp := Lib.hid (HBk.out.setCell (p := ⟨g, k, none⟩) (.inl (by simp)) (.int .u8 (x : Nat)))
      have i0 : (0 : Int) ≤ (k : Int) := by omega
      have i1 : (k : Int) < (m : Int) := by omega
      obtain ⟨cc, hcc⟩ : ∃ z : Nat, z = ((fillU b m k).getD k 0).toNat := ⟨_, rfl⟩
      rw [← hcc] at c0
      clear hx f1 hl hcc
      go_wp2
      go_roundw
      case rel => exact ⟨k + 1, by omega, by go_num, HP, HBp⟩
      case measure => simp [intOf] <;> omega
    · obtain rfl : m = k := by omega
      have i1 : ¬ (m : Int) < (m : Int) := by omega
      have kt := HRk.out.text m
      rw [fillU_length (Nat.le_refl m)] at kt
      obtain ⟨R, hR⟩ : ∃ R, R = strL (fillU b m m) := ⟨_, rfl⟩
      rw [← hR] at kt
      have HRR := Lib.hid hR
      clear hR
      go_wp2
      go_ret
      exact ⟨by rw [HRR.out]; rfl, HGW.out _ HBk.out⟩
end Go.Proofs.Ytchpincoddghfaa
set_option maxRecDepth 100000
set_option linter.unusedVariables false
namespace Go.Proofs.Ytchpincoddghfaa
set_option maxRecDepth 100000
open Go Go.RowKit
/-- What a call makes of a disk, and what it answers. -/
def next16 (σ : D16) (x : O16) : D16 × Int :=
  if x.ask = 0 then append16 σ x.file (fillT x.n x.byte).data.toList else if x.ask = 1 then syncs16 σ x.file else if x.ask = 2 then cuts16 σ x.file x.n else if x.ask = 3 then drops16 σ x.file else
  if x.ask = 5 then (arm16 σ x.n, 0) else if x.ask = 6 then (crashs16 σ x.ks, 0) else (σ, 0)
theorem next16_le {σ : D16} {x : O16} (hn : x.n ≤ 9223372036854775807) (ha : σ.armed ≤ 9223372036854775807) : (next16 σ x).1.steps ≤ σ.steps + 1 ∧ (next16 σ x).1.armed ≤ 9223372036854775807 := by
  have h1 : (step16 σ).steps = σ.steps + 1 := rfl
  have h2 : (step16 σ).armed ≤ 9223372036854775807 := by show σ.armed - 1 ≤ _; omega
  unfold next16
  split
  · unfold append16
    split
    · exact ⟨Nat.le_succ _, ha⟩
    split
    · exact ⟨Nat.le_succ _, ha⟩
    · exact ⟨Nat.le_refl _, h2⟩
  split
  · unfold syncs16
    split
    · exact ⟨Nat.le_succ _, ha⟩
    split
    · exact ⟨Nat.le_refl _, h2⟩
    · exact ⟨Nat.le_refl _, h2⟩
  split
  · unfold cuts16
    split
    · exact ⟨Nat.le_succ _, ha⟩
    split
    · exact ⟨Nat.le_succ _, ha⟩
    split
    · exact ⟨Nat.le_refl _, h2⟩
    · exact ⟨Nat.le_refl _, h2⟩
  split
  · unfold drops16
    split
    · exact ⟨Nat.le_succ _, ha⟩
    split
    · exact ⟨Nat.le_refl _, h2⟩
    · exact ⟨Nat.le_refl _, h2⟩
  split
  · exact ⟨Nat.le_succ _, by show x.n.toNat ≤ _; omega⟩
  split
  · exact ⟨Nat.le_succ _, Nat.zero_le _⟩
  · exact ⟨Nat.le_succ _, ha⟩
section
variable {PD : World → Nat → List Nat → D16 → Prop}
theorem In3.in2 {w wi : World} {b1 b2 bx : Nat} {σ1 σ2 : D16} {cs : Array Value} (h : In3 PD w wi b1 b2 σ1 σ2 bx cs) : In2 PD w wi b1 b2 σ1 σ2 := by
  obtain ⟨S1, S2, h1, h2, h3, h4, h5, h6, _⟩ := h; exact ⟨S1, S2, h1, h2, h3, h4, h5, h6⟩
theorem In3.box {w wi : World} {b1 b2 bx : Nat} {σ1 σ2 : D16} {cs : Array Value} (h : In3 PD w wi b1 b2 σ1 σ2 bx cs) : Is wi bx 33 cs := by
  obtain ⟨_, _, _, _, _, _, _, _, h, _⟩ := h; exact h
theorem In2.in3 (C : DkC PD) {w wi : World} {b1 b2 : Nat} {σ1 σ2 : D16} (h : In2 PD w wi b1 b2 σ1 σ2) (cs : Array Value) : In3 PD w (wi.alloc (.cells cs 33)) b1 b2 σ1 σ2 wi.heap.size cs := by
  obtain ⟨S1, S2, h1, h2, h3, h4, h5, h6⟩ := h
  have hB : But [] wi (wi.alloc (.cells cs 33)) := (But.refl [] wi).alloc _
  exact ⟨S1, S2, C.but h1 hB (fun _ _ => by simp), h2.but hB (fun _ _ => by simp), h3.trans hB, h4, h5, h6, Is.fresh _ _ _, fun hx => Nat.lt_irrefl _ (C.lt h1 _ hx), fun hx => Nat.lt_irrefl _ (h2.lt _ hx)⟩
/-- A call of the first disk. -/
theorem in3_p (C : DkC PD) {w wi : World} {b1 b2 bx : Nat} {σ1 σ2 τ : D16} {cs : Array Value} {v : Value} {f : Nat} {args : Array Value} (h : In3 PD w wi b1 b2 σ1 σ2 bx cs) (k : ∀ S, PD wi b1 S σ1 → (∀ x ∈ S, w.heap.size ≤ x) → Calls Try.prog f args wi fun e w' => e = .returned v ∧ Left PD wi b1 S τ w') : Calls Try.prog f args wi fun e w' => e = .returned v ∧ In3 PD w w' b1 b2 τ σ2 bx cs := by
  obtain ⟨S1, S2, h1, h2, h3, h4, h5, h6, h7, h8, h9⟩ := h
  refine (k S1 h1 h4).mono ?_
  rintro e w' ⟨rfl, S', k1, k2, k3⟩
  refine ⟨rfl, S', S2, k1, h2.but k2 (fun x hx hy => h6 x hy hx), h3.over16 k2 (fun x hx => .inr (h4 x hx)), fun x hx => ?_, h5, fun x hx hy => ?_, h7.but k2 h8, fun hx => ?_, h9⟩
  · rcases k3 x hx with h | h
    · exact h4 x h
    · exact Nat.le_trans h3.size h
  · rcases k3 x hx with h | h
    · exact h6 x h hy
    · have := h2.lt x hy; omega
  · rcases k3 bx hx with h | h
    · exact h8 h
    · have := h7.lt; omega
/-- A call of the second one. -/
theorem in3_r (C : DkC PD) {w wi : World} {b1 b2 bx : Nat} {σ1 σ2 τ : D16} {cs : Array Value} {v : Value} {f : Nat} {args : Array Value} (h : In3 PD w wi b1 b2 σ1 σ2 bx cs) (k : ∀ S, RD wi b2 S σ2 → (∀ x ∈ S, w.heap.size ≤ x) → Calls Try.prog f args wi fun e w' => e = .returned v ∧ Left RD wi b2 S τ w') : Calls Try.prog f args wi fun e w' => e = .returned v ∧ In3 PD w w' b1 b2 σ1 τ bx cs := by
  obtain ⟨S1, S2, h1, h2, h3, h4, h5, h6, h7, h8, h9⟩ := h
  refine (k S2 h2 h5).mono ?_
  rintro e w' ⟨rfl, S', k1, k2, k3⟩
  refine ⟨rfl, S1, S', C.but h1 k2 h6, k1, h3.over16 k2 (fun x hx => .inr (h5 x hx)), h4, fun x hx => ?_, fun x hx hy => ?_, h7.but k2 h9, h8, fun hx => ?_⟩
  · rcases k3 x hx with h | h
    · exact h5 x h
    · exact Nat.le_trans h3.size h
  · rcases k3 x hy with h | h
    · exact h6 x hx h
    · have := C.lt h1 x hx; omega
  · rcases k3 bx hx with h | h
    · exact h9 h
    · have := h7.lt; omega
end
end Go.Proofs.Ytchpincoddghfaa
