/- Several texts in one: DpK, DkY (what DiskDies, DiskLasts, DiskNil, DiskPlays reach of them). -/
import Derived.Test.YtchpincoddghfaaK01
import Derived.Test.YtchpincoddghfaaK02
import Derived.Test.YtchpincoddghfaaK03
import Derived.Test.YtchpincoddghfaaK04
import Derived.Below
import Derived.BigQuiet
import Derived.BigRegion
import Derived.Deep.AppendLies
import Derived.Deep.Cut
import Derived.Deep.CutBlock
import Derived.Deep.CutRange
import Derived.Deep.DeepCutAuto
import Derived.Deep.Draws
import Derived.Deep.Onto
import Derived.Deep.QuietTactic
import Derived.Deep.RegionLaw
import Derived.Deep.RegionWith
import Derived.Handy
import Derived.Laws.BitsAllLaws
import Derived.Laws.BitsLemmas
import Derived.Laws.BytesArg
import Derived.Laws.IdiomStrings
import Derived.Laws.MakeOwn
import Derived.Laws.OwnMore
import Derived.Laws.Rows
import Derived.Lib.AppendStr
import Derived.Lib.Hide
import Derived.MapViews
import Derived.Maps.AppendAt
import Derived.Maps.Ext
import Derived.Maps.OwnOps
import Derived.Maps.OwnSet
import Derived.OrdersHeld
import Derived.OrdersIn
import Derived.Outline
import Derived.OwnWalk
import Derived.OwnWalkIn
import Derived.RangeFuncCalls
import Derived.RegionTactic
import Derived.Shelf.SlIterI.Nil
import Derived.Shelf.SortM.Plain
import Derived.Shelf.SortM.SortNone
import Derived.TacticsInMore
import Derived.Test.YtchpincoddghfaaChecked
import Derived.WalkKit
import Derived.WideKeyArgs2
set_option maxRecDepth 100000
set_option linter.unusedVariables false
set_option maxRecDepth 100000
set_option linter.unusedVariables false
namespace Go.Proofs.Ytchpincoddghfaa
set_option maxRecDepth 100000
open Go Go.RowKit Go.Maps
theorem cut_mid16 {pre l : List F16} {f : F16} {z : Nat} (hr : (pre ++ f :: l).Pairwise fun a b => a.num < b.num) : cut16 (pre ++ f :: l) f.num z = pre ++ ⟨f.num, f.data.take z, z⟩ :: l := by
  rw [List.pairwise_append] at hr
  have h1 := List.pairwise_cons.1 hr.2.1
  unfold cut16
  rw [List.map_append, List.map_cons, if_pos rfl]
  congr 1
  · conv => rhs; rw [← List.map_id pre]
    refine List.map_congr_left fun g hg => ?_
    have := hr.2.2 g hg f (List.mem_cons_self ..)
    rw [if_neg (by omega)]; rfl
  · congr 1
    conv => rhs; rw [← List.map_id l]
    refine List.map_congr_left fun g hg => ?_
    have := h1.1 g hg
    rw [if_neg (by omega)]; rfl
theorem Nums.butS16 {w w' : World} {A : Option Addr} {n : Nat} {L : List Nat} {S : List Nat} (h : Nums w A n L) (hw : But S w w') (hS : 0 < n → ∀ g o, A = some ⟨g, o, none⟩ → g ∉ S) : Nums w' A n L :=
  ⟨h.1, fun hn => by
    obtain ⟨g, o, e, hg, hc⟩ := h.2 hn
    exact ⟨g, o, e, Nat.lt_of_lt_of_le hg hw.size, fun i hi => hw.cell (hc i hi) (hS hn g o e)⟩⟩
/-- A file of the disk, for the walk. -/
theorem PD.there {w : World} {b : Nat} {S : List Nat} {σ : D16} (h : PD w b S σ) {f : F16} (hf : f ∈ σ.l) : ∃ m A c, w.cell? ⟨b, 1, none⟩ = some (.map (some m)) ∧ b < w.heap.size ∧ (Instr.lookup 52 (.map (some m)) (.int .i64 (f.num : Nat)) false).run Try.prog w = .ok (.agg #[.slice A f.data.length c, .int .i64 (f.syn : Nat)]) w := by
  obtain ⟨m, sl, hI, hF⟩ := h.file hf
  have hl := hF.look h.ok.rise (n := f.num) (h.ok.num f hf)
  obtain ⟨v, s, hlk, hown, _, hfile, _⟩ := hF.got h.ok.rise f.num
  obtain ⟨rfl, rfl, hget⟩ := hfile f hf rfl
  rw [hget] at hown
  obtain ⟨A, c, hv, _⟩ := own_sliceF hown
  rw [hlk, hv] at hl
  exact ⟨m, A, c, hI.cell 1, hI.lt, hl⟩
set_option maxHeartbeats 2000000 in
theorem pcrash16_any (w : World) {b : Nat} {S : List Nat} {σ : D16} (h : PD w b S σ) {A : Option Addr} {nk ck : Nat} {all : List Int} (hZ : Zs w A nk all) (hF : ZFit all) (hkc : nk ≤ ck) (hKS : 0 < nk → ∀ g o, A = some ⟨g, o, none⟩ → g ∉ S) :
    Calls Try.prog 21 #[.pointer (some ⟨b, 0, none⟩), .slice A nk ck] w fun e w' => e = .returned (.tuple #[]) ∧ PD w' b S (crashs16 σ all) ∧ But S w w' := by
  have hok := ok16_crash (ks := all) h.ok
  have HFI := Lib.hid (pfiles16_any w h)
  obtain ⟨L, hL⟩ : ∃ L, L = σ.l := ⟨_, rfl⟩
  have hfew := h.ok.few
  have HSy : Hid (∀ f ∈ L, f.syn ≤ f.data.length ∧ f.data.length ≤ 16777216 ∧ f.num ≤ 65535) := Lib.hid fun f hf => ⟨h.ok.syn f (by rw [← hL]; exact hf), Nat.le_trans (size16_mem (by rw [← hL]; exact hf)) (Nat.le_trans h.ok.size h.ok.lim), h.ok.num f (by rw [← hL]; exact hf)⟩
  rw [← hL] at hfew HFI
  obtain ⟨m, hm⟩ : ∃ m, m = L.length := ⟨_, rfl⟩
  have HML := Lib.hid hm
  rw [← hm] at hfew
  have hlt : ∀ x ∈ S, x < w.heap.size := h.lt
  have HBS : Hid (b ∈ S) := Lib.hid h.mem
  have HZ0 : Hid (Zs w A nk all ∧ ZFit all ∧ (0 < nk → ∀ g o, A = some ⟨g, o, none⟩ → g ∉ S)) := Lib.hid ⟨hZ, hF, hKS⟩
  have HW1 : Hid (∀ w1, But [] w w1 → PD w1 b S (with16 σ L) ∧ But S w w1) := Lib.hid fun w1 hB => ⟨by
    have e : with16 σ L = σ := by unfold with16; rw [hL]
    rw [e]; exact h.but hB (fun _ _ => by simp), hB.more (fun _ e => by cases e)⟩
  have HEnd : Hid (∀ (v : World) (pre : List F16), PD v b S (with16 σ pre) → crash16 L all = pre → v.frozen? ⟨b, 5, none⟩ = false ∧ v.frozen? ⟨b, 4, none⟩ = false ∧ b < v.heap.size ∧ v.cell? ⟨b, 5, none⟩ = some (.bool σ.dead) ∧ v.cell? ⟨b, 4, none⟩ = some (.int .i64 (σ.armed : Nat)) ∧ PD ((v.setCell ⟨b, 5, none⟩ (.bool false)).setCell ⟨b, 4, none⟩ (.int .i64 0)) b S (crashs16 σ all) ∧ But [b] v ((v.setCell ⟨b, 5, none⟩ (.bool false)).setCell ⟨b, 4, none⟩ (.int .i64 0))) := Lib.hid fun v pre hv hc => by
    obtain ⟨mb, sl, hI, _⟩ := hv.row
    have hB : But [b] v ((v.setCell ⟨b, 5, none⟩ (.bool false)).setCell ⟨b, 4, none⟩ (.int .i64 0)) := ((But.refl [b] v).setCell (p := ⟨b, 5, none⟩) (.inl (by simp)) _).setCell (p := ⟨b, 4, none⟩) (.inl (by simp)) _
    refine ⟨hI.free 5, hI.free 4, hI.lt, hI.cell 5, hI.cell 4, hv.with ?_ rfl hB (fun mb hi => ?_), hB⟩
    · show crash16 σ.l all = pre
      rw [← hL]; exact hc
    · have e : size16 (crashs16 σ all).l = size16 pre := by
        show size16 (crash16 σ.l all) = _
        rw [← hL, hc]
      rw [e]
      exact (hi.put 5 _).put 4 _
  clear h hm hZ hF hok hL hKS
  go_enter Try.func21, Try.ntmps21
  go_wp2_with fail
  refine HFI.out.mono ?_
  rintro e w1 ⟨v, rfl, hO, hB1⟩
  obtain ⟨A0, c0, rfl, hc0⟩ := hO.shape
  have hlen : (L.map (·.num)).length = m := by rw [List.length_map]; exact HML.out.symm
  have HNu : Hid (∀ v, But S w1 v → Nums v A0 m (L.map (·.num))) := Lib.hid fun v hv => by
    have := hO.nums
    rw [hlen] at this
    refine this.butS16 hv fun _ g o e => ?_
    have h1 := hO.lt g (by rw [e]; rfl)
    intro hg
    have := hlt g hg
    omega
  rw [hlen] at hc0 ⊢
  have HP1 := Lib.hid (HW1.out w1 hB1)
  have HB1 := Lib.hid hB1
  clear hO hB1 hlen
  go_upto_region 2 with (fail)
  go_loopw [1, 14] (fun kv iv wr => ∃ (i : Nat) (pre : List F16) (ks : List Int) (A' : Option Addr) (n' c' : Nat), i ≤ m ∧ iv = .int .i64 i ∧ kv = .slice A' n' c' ∧ n' ≤ c' ∧ Hid (pre.length = i) ∧ Hid (crash16 L all = pre ++ crash16 (L.drop i) ks) ∧ Hid (PD wr b S (with16 σ (pre ++ L.drop i)) ∧ But S w1 wr) ∧ Hid (Zs w A' n' ks ∧ ZFit ks ∧ (0 < n' → ∀ g o, A' = some ⟨g, o, none⟩ → g ∉ S))) (fun _ iv _ => m - (intOf iv).toNat)
  case atStart => exact ⟨0, [], all, A, nk, ck, Nat.zero_le _, rfl, rfl, hkc, Lib.hid rfl, Lib.hid rfl, Lib.hid ⟨by rw [List.drop_zero, List.nil_append]; exact HP1.out.1, But.refl S _⟩, HZ0⟩
  case round =>
    obtain ⟨i, pre, ks, A', n', c', hi, rfl, rfl, hn', HPL, HCr, HRW, HZk⟩ := hrel
    by_cases hlt2 : i < m
    · obtain ⟨f, l, hdr⟩ : ∃ f l, L.drop i = f :: l := ⟨L[i]'(by rw [← HML.out]; exact hlt2), L.drop (i + 1), (List.getElem_cons_drop (by rw [← HML.out]; exact hlt2)).symm⟩
      have hmem : f ∈ L := List.mem_of_mem_drop (by rw [hdr]; exact List.mem_cons_self ..)
      obtain ⟨hs1, hs2, hs3⟩ := HSy.out f hmem
      obtain ⟨g0, o0, x0, rfl, hg0, hx0, k0⟩ := (HNu.out _ HRW.out.2).at hlt2
      have hx1 : x0 = f.num := by
        have hLi : L[i]? = some f := by
          have := congrArg (fun l => l[0]?) hdr
          simpa using this
        rw [List.getElem?_map, hLi] at hx0
        exact (Option.some.inj hx0).symm
      rw [hx1] at k0
      have HDN : Hid ([lose16 f (ks.headD 0)] ++ L.drop (i + 1) = lose16 f (ks.headD 0) :: l ∧ [f] ++ L.drop (i + 1) = f :: l) := Lib.hid (by
        have e : L.drop (i + 1) = l := by rw [← List.drop_drop, hdr]; rfl
        rw [e]; exact ⟨rfl, rfl⟩)
      have HDR := Lib.hid hdr
      rw [hdr] at HRW
      have hfm : f ∈ (with16 σ (pre ++ f :: l)).l := List.mem_append_right _ (List.mem_cons_self ..)
      obtain ⟨mm, Af, cf, k1, hb, hl⟩ := HRW.out.1.there hfm
      obtain ⟨x, hxx⟩ : ∃ x, x = f.num := ⟨_, rfl⟩
      obtain ⟨n, hnn⟩ : ∃ x, x = f.data.length := ⟨_, rfl⟩
      obtain ⟨sy, hsy⟩ : ∃ x, x = f.syn := ⟨_, rfl⟩
      obtain ⟨d, hdd⟩ : ∃ z, z = n - sy := ⟨_, rfl⟩
      rw [← hxx] at k0 hl hs3
      rw [← hnn, ← hsy] at hl hs1
      rw [← hnn] at hs2
      have i0 : (0 : Int) ≤ (i : Int) := by omega
      have i1 : (i : Int) < (m : Int) := by omega
      have a1 : (n : Int) - (sy : Int) = (d : Int) := by omega
      have u1 := wrapI_in (show d < 1000000000000000 by omega)
      have HX := Lib.hid (And.intro hxx (And.intro hnn (And.intro hsy hdd)))
      clear hx0 hx1 hdr hmem hxx hnn hsy hdd hfm
      by_cases hd0 : d = 0
      · have HK2 := Lib.hid (crash_keep HPL.out HDR.out HCr.out (by obtain ⟨h1, h2, h3, h4⟩ := HX.out; omega))
        subst hd0
        go_wp2
        go_roundw
        case rel => exact ⟨i + 1, pre ++ [f], ks, A', n', c', by omega, by go_num, rfl, hn', Lib.hid HK2.out.2, Lib.hid HK2.out.1, Lib.hid ⟨by rw [List.append_assoc, HDN.out.2]; exact HRW.out.1.but ((But.refl [] _).alloc _) (fun _ _ => by simp), HRW.out.2.alloc _⟩, HZk⟩
        case measure => simp [intOf] <;> omega
      · have hL2 := crash_lose HPL.out HDR.out HCr.out (by obtain ⟨h1, h2, h3, h4⟩ := HX.out; omega)
        have HL2 := Lib.hid hL2
        obtain ⟨kz, hkz⟩ : ∃ z, z = ks.headD 0 := ⟨_, rfl⟩
        rw [← hkz] at HL2 HDN
        have q0 : ((d : Int) = 0) = False := by simpa using hd0
        have q0b : ((d : Int) == 0) = false := by simpa using hd0
        obtain ⟨hzk, hfk, hsk⟩ := HZk.out
        have hfit : -9223372036854775808 ≤ kz ∧ kz ≤ 9223372036854775807 := by
          rw [hkz]
          cases e : ks with
          | nil => exact ⟨by decide, by decide⟩
          | cons a r => exact hfk a (by rw [e]; exact List.mem_cons_self ..)
        obtain ⟨q, hq⟩ : ∃ q : Nat, (q : Int) = (if kz < 0 then -(kz + 1) else kz) := ⟨(if kz < 0 then -(kz + 1) else kz).toNat, by split <;> omega⟩
        obtain ⟨d1, hd1⟩ : ∃ z, z = d + 1 := ⟨_, rfl⟩
        obtain ⟨r, hr⟩ : ∃ z, z = q % d1 := ⟨_, rfl⟩
        obtain ⟨t, ht⟩ : ∃ z, z = sy + r := ⟨_, rfl⟩
        have hrl : r < d1 := by rw [hr]; exact Nat.mod_lt _ (by omega)
        have e1 : (d : Int) + 1 = (d1 : Int) := by omega
        have e2 : (q : Int).tmod (d1 : Int) = (r : Int) := by rw [Int.tmod_eq_emod_of_nonneg (by omega), hr]; omega
        have e2b : (q : Int) % (d1 : Int) = (r : Int) := by rw [hr]; omega
        have e3 : (sy : Int) + (r : Int) = (t : Int) := by omega
        have v1 := wrapI_in (show d1 < 1000000000000000 by omega)
        have v2 := wrapI_in (show r < 1000000000000000 by omega)
        have v3 := wrapI_in (show t < 1000000000000000 by omega)
        have d1n : ((d1 : Int) = 0) = False := by simp; omega
        have d1z : ((d1 : Int) == 0) = false := by simp; omega
        have d1m : (d1 = 0) = False := by simp; omega
        have HKeep : Hid (∀ w', But [] wr w' → Calls Try.prog 41 #[.pointer (some ⟨b, 0, none⟩), .int .i64 (x : Nat), .int .i64 (t : Nat)] w' fun e w'' => e = .returned (.tuple #[]) ∧ PD w'' b S (with16 σ (pre ++ lose16 f kz :: l)) ∧ But S w1 w'') := Lib.hid fun w' hB => by
          obtain ⟨h1, h2, h3, h4⟩ := HX.out
          have hfm : f ∈ (with16 σ (pre ++ f :: l)).l := List.mem_append_right _ (List.mem_cons_self ..)
          have htl : t ≤ f.data.length := by omega
          have hP := HRW.out.1.but hB (fun _ _ => by simp)
          rw [h1]
          refine (pkeep16_any w' hP hfm htl).mono fun e w'' hh => ⟨hh.1, ?_, (HRW.out.2.trans (hB.more (fun _ e => by cases e))).trans hh.2.2⟩
          have e5 : cut16 (with16 σ (pre ++ f :: l)).l f.num t = pre ++ lose16 f kz :: l := by
            show cut16 (pre ++ f :: l) f.num t = _
            rw [cut_mid16 hP.ok.rise]
            have hkk : keep16 kz (f.data.length - f.syn) = r := by
              unfold keep16
              rw [← hq, Int.toNat_natCast, hr, hd1, h4, h2, h3]
            unfold lose16
            rw [hkk, ← h3, ← ht, List.length_take, Nat.min_eq_left htl]
          rw [e5] at hh
          exact hh.2.1
        have HRB : Hid (But S w1 wr) := Lib.hid HRW.out.2
        clear hL2
        by_cases hn0 : n' = 0
        · subst hn0
          have hks : ks = [] := List.eq_nil_of_length_eq_zero hzk.1
          subst hks
          have hkz0 : kz = 0 := hkz
          have hq0 : q = 0 := by rw [hkz0] at hq; simpa using hq
          have hr0 : r = 0 := by rw [hr, hq0]; simp
          have ht0 : sy = t := by omega
          have HZt := Lib.hid (And.intro hzk (And.intro hfk hsk))
          subst ht0
          clear hzk hfk hsk hkz hfit hq hd1 hr ht hrl hkz0 hq0 e2 e2b e3 v2 hr0 HRW HX HDR HCr
          go_upto_region 12 with (fail)
          have c6 := Lib.hid ((Is.fresh wr 60 #[.slice Af n cf, .int .i64 (sy : Nat)]).cell 1)
          go_region_with (refine (HKeep.out _ ((But.refl [] wr).alloc _).drew).mono ?_; rintro e w9 ⟨rfl, hP9, hB9⟩; have HP9 := Lib.hid hP9; have HB9 := Lib.hid hB9; clear hP9 hB9)
          have HRel := Lib.hid (show PD w9 b S (with16 σ ((pre ++ [lose16 f kz]) ++ L.drop (i + 1))) ∧ But S w1 w9 from ⟨by rw [List.append_assoc, HDN.out.1]; exact HP9.out, HB9.out⟩)
          clear HP9 HB9 HKeep
          go_wp2
          go_roundw
          case rel => exact ⟨i + 1, pre ++ [lose16 f kz], [], A', 0, c', by omega, by go_num, rfl, hn', Lib.hid HL2.out.2, Lib.hid HL2.out.1, HRel, HZt⟩
          case measure => simp [intOf] <;> omega
        · obtain ⟨ga, oa, rfl, hga0, hca⟩ := hzk.2 (by omega)
          have hkz0 : wr.cell? ⟨ga, oa, none⟩ = some (.int .i64 kz) := by
            have hzz := hzk.butS ((HB1.out.more (fun _ e => by cases e)).trans HRB.out) hsk
            obtain ⟨g9, o9, e9, _, hc9⟩ := hzz.2 (by omega)
            injection e9 with e9
            injection e9 with e91 e92 e93
            subst e91 e92
            have hl0 : 0 < ks.length := by rw [hzk.1]; omega
            have := hc9 0 hl0
            rw [hkz]
            cases ks with
            | nil => simp at hl0
            | cons a r => simpa only [Nat.add_zero, List.headD_cons, List.getElem_cons_zero] using this
          have hga : ga < wr.heap.size := World.block_lt_of_cell? wr _ hkz0
          have hln : ks.tail.length = n' - 1 := by rw [List.length_tail, hzk.1]
          have HZt : Hid (Zs w (if c' = 1 then some ⟨ga, oa, none⟩ else some ⟨ga, oa + 1, none⟩) (n' - 1) ks.tail ∧ ZFit ks.tail ∧ (0 < n' - 1 → ∀ g o, (if c' = 1 then some ⟨ga, oa, none⟩ else some ⟨ga, oa + 1, none⟩ : Option Addr) = some ⟨g, o, none⟩ → g ∉ S)) := Lib.hid (by
            refine ⟨⟨hln, fun h0 => ?_⟩, fun y hy => hfk y (List.mem_of_mem_tail hy), fun h0 g o e => ?_⟩
            · rw [if_neg (by omega)]
              refine ⟨ga, oa + 1, rfl, hga0, fun j hj => ?_⟩
              have := hca (j + 1) (by rw [hzk.1]; rw [hln] at hj; omega)
              rw [List.getElem_tail, show oa + 1 + j = oa + (j + 1) by omega]
              exact this
            · rw [if_neg (by omega)] at e
              injection e with e
              injection e with e1 e2 e3
              subst e1
              exact hsk (by omega) ga oa rfl)
          have n0 : (0 : Int) < (n' : Int) := by omega
          have n1 : (1 : Int) ≤ (n' : Int) := by omega
          have n2 : n' ≠ 0 := hn0
          have n3 : decide (0 < n') = true := by simp; omega
          have n4 : 0 < n' := by omega
          clear hzk hfk hsk hca hln hga0 hd1 hr ht hrl HRW HX HDR HCr HZk hkz
          obtain ⟨A2, hA2⟩ : ∃ x : Option Addr, x = (if c' = 1 then some ⟨ga, oa, none⟩ else some ⟨ga, oa + 1, none⟩) := ⟨_, rfl⟩
          rw [← hA2] at HZt
          by_cases hneg : kz < 0
          · have m1 : IntKind.i64.wrap (kz + 1) = kz + 1 := by rw [IntKind.wrap_i64]; omega
            have m3 : -(kz + 1) = (q : Int) := by rw [hq, if_pos hneg]
            have m2 : IntKind.i64.wrap (q : Int) = (q : Int) := by rw [IntKind.wrap_i64]; omega
            clear hq
            go_upto_region 9 with (fail)
            go_region
            rw [← hA2]
            clear hA2 k0 k1 hl hkz0
            have c6 := Lib.hid ((Is.fresh wr 60 #[.slice Af n cf, .int .i64 (sy : Nat)]).cell 1)
            go_upto_region 12 with (fail)
            go_region_with (refine (HKeep.out _ ((But.refl [] wr).alloc _).drew.drew).mono ?_; rintro e w9 ⟨rfl, hP9, hB9⟩; have HP9 := Lib.hid hP9; have HB9 := Lib.hid hB9; clear hP9 hB9)
            have HRel := Lib.hid (show PD w9 b S (with16 σ ((pre ++ [lose16 f kz]) ++ L.drop (i + 1))) ∧ But S w1 w9 from ⟨by rw [List.append_assoc, HDN.out.1]; exact HP9.out, HB9.out⟩)
            clear HP9 HB9 HKeep
            go_wp2
            go_roundw
            case rel => exact ⟨i + 1, pre ++ [lose16 f kz], ks.tail, _, _, _, by omega, by go_num, rfl, by omega, Lib.hid HL2.out.2, Lib.hid HL2.out.1, HRel, HZt⟩
            case measure => simp [intOf] <;> omega
          · obtain rfl : kz = (q : Int) := by rw [hq, if_neg hneg]
            have hneg2 : decide ((q : Int) < 0) = false := by simp
            clear hq hneg
            go_upto_region 9 with (fail)
            go_region
            rw [← hA2]
            clear hA2 k0 k1 hl hkz0
            have c6 := Lib.hid ((Is.fresh wr 60 #[.slice Af n cf, .int .i64 (sy : Nat)]).cell 1)
            go_upto_region 12 with (fail)
            go_region_with (refine (HKeep.out _ ((But.refl [] wr).alloc _).drew.drew).mono ?_; rintro e w9 ⟨rfl, hP9, hB9⟩; have HP9 := Lib.hid hP9; have HB9 := Lib.hid hB9; clear hP9 hB9)
            have HRel := Lib.hid (show PD w9 b S (with16 σ ((pre ++ [lose16 f (q : Int)]) ++ L.drop (i + 1))) ∧ But S w1 w9 from ⟨by rw [List.append_assoc, HDN.out.1]; exact HP9.out, HB9.out⟩)
            clear HP9 HB9 HKeep
            go_wp2
            go_roundw
            case rel => exact ⟨i + 1, pre ++ [lose16 f (q : Int)], ks.tail, _, _, _, by omega, by go_num, rfl, by omega, Lib.hid HL2.out.2, Lib.hid HL2.out.1, HRel, HZt⟩
            case measure => simp [intOf] <;> omega
    · obtain rfl : m = i := by omega
      have i1 : ¬ (m : Int) < (m : Int) := by omega
      have hdr : L.drop m = [] := List.drop_eq_nil_of_le (by rw [← HML.out]; exact Nat.le_refl _)
      rw [hdr] at HRW HCr
      rw [List.append_nil] at HRW
      obtain ⟨f5, f4, hb, c5, c4, hP, hBB⟩ := HEnd.out wr pre HRW.out.1 (by rw [HCr.out]; simp [crash16])
      have HFin := Lib.hid (And.intro hP (((HB1.out.more (fun _ e => by cases e)).trans HRW.out.2).trans (hBB.more fun x hx => by rw [List.mem_singleton.1 hx]; exact HBS.out)))
      clear hP hBB hdr HRW
      go_wp2
      go_returns
      exact ⟨rfl, HFin.out.1, HFin.out.2⟩
end Go.Proofs.Ytchpincoddghfaa
set_option maxRecDepth 100000
set_option linter.unusedVariables false
namespace Go.Proofs.Ytchpincoddghfaa
set_option maxRecDepth 100000
open Go Go.RowKit
theorem C16 : DkC PD where
  ok h := h.ok
  but h := h.but
  lt h := h.lt
  new_ok w n h1 h2 := (pnew16_ok w h1 h2).mono fun e w' ⟨b, he, hP, hB, hb⟩ => ⟨b, [b], he, hP, hB, fun x hx => by rw [List.mem_singleton.1 hx]; exact hb⟩
  new_bad w n h := (pnew16_bad w h).mono fun e w' ⟨he, hw⟩ => ⟨he, hw ▸ But.refl [] w⟩
  append w _ _ _ n s h hs ha hl := pappend16_any w h hs ha n s hl
  sync w _ _ _ n h hs ha := psync16_any w h hs ha n
  cut w _ _ _ n z h hs ha := pcut16_any w h hs ha n z
  drop w _ _ _ n h hs ha := pdrop16_any w h hs ha n
  read w _ _ _ n h := (pread16_any w h n).mono fun e w' ⟨he, hw⟩ => ⟨he, hw ▸ h.left (But.refl [] w)⟩
  files w b S σ h := (pfiles16_any w h).mono fun e w' ⟨v, he, hO, hB⟩ => by
    obtain ⟨A, c, rfl, _⟩ := hO.shape
    have hn := hO.nums
    have hlt := hO.lt
    rw [List.length_map] at he hn hlt
    refine ⟨A, c, S, he, hn, fun g o e => ?_, h.but hB (fun _ _ => by simp), hB.more (fun _ e => by cases e), fun x hx => .inl hx⟩
    have h1 := hlt g (by rw [e]; rfl)
    exact ⟨h1, fun hg => by have := h.lt g hg; omega⟩
  size w _ _ _ h := (psize16_any w h).mono fun e w' ⟨he, hw⟩ => ⟨he, hw ▸ h.left (But.refl [] w)⟩
  dead w _ _ _ h := (pdead16_any w h).mono fun e w' ⟨he, hw⟩ => ⟨he, hw ▸ h.left (But.refl [] w)⟩
  steps w _ _ _ h := (psteps16_any w h).mono fun e w' ⟨he, hw⟩ => ⟨he, hw ▸ h.left (But.refl [] w)⟩
  arm w _ _ _ k h := (parm16_any w h k).mono fun e w' ⟨he, hP, hB⟩ => ⟨he, h.left1 hP hB⟩
  crash w _ S _ _ _ _ _ h hZ hF hc hS := (pcrash16_any w h hZ hF hc hS).mono fun e w' ⟨he, hP, hB⟩ => ⟨he, S, hP, hB, fun x hx => .inl hx⟩
  append_nil := pappend16_nil
  sync_nil := psync16_nil
  cut_nil := pcut16_nil
  drop_nil := pdrop16_nil
  read_nil := pread16_nil
  files_nil := pfiles16_nil
  size_nil := psize16_nil
  dead_nil := pdead16_nil
  steps_nil := psteps16_nil
  arm_nil := parm16_nil
  crash_nil := pcrash16_nil
end Go.Proofs.Ytchpincoddghfaa
