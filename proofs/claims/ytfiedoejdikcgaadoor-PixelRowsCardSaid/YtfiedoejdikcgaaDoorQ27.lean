/- Several texts in one: PkD, PxR (what PixelRows, PixelSame reach of them). -/
import Derived.Test.YtfiedoejdikcgaaDoorQ01
import Derived.Test.YtfiedoejdikcgaaDoorQ02
import Derived.Test.YtfiedoejdikcgaaDoorQ03
import Derived.Test.YtfiedoejdikcgaaDoorQ05
import Derived.Test.YtfiedoejdikcgaaDoorQ06
import Derived.Test.YtfiedoejdikcgaaDoorQ07
import Derived.Test.YtfiedoejdikcgaaDoorQ08
import Derived.Test.YtfiedoejdikcgaaDoorQ09
import Derived.Test.YtfiedoejdikcgaaDoorQ12
import Derived.Test.YtfiedoejdikcgaaDoorQ17
import Derived.Test.YtfiedoejdikcgaaDoorQ19
import Derived.Test.YtfiedoejdikcgaaDoorQ23
import Derived.Test.YtfiedoejdikcgaaDoorQ24
import Derived.Test.YtfiedoejdikcgaaDoorQ26
import Derived.Below
import Derived.BigQuiet
import Derived.BigRegion
import Derived.Deep.AppendLies
import Derived.Deep.CutBlock
import Derived.Deep.CutRange
import Derived.Deep.DeepCutAuto
import Derived.Deep.Draws
import Derived.Deep.QuietTactic
import Derived.Deep.RegionLaw
import Derived.Deep.RegionWith
import Derived.Deep.Slices
import Derived.Handy
import Derived.Laws.BitsAllLaws
import Derived.Laws.BitsLemmas
import Derived.Laws.BytesArg
import Derived.Laws.Externs
import Derived.Laws.IdiomStrings
import Derived.Laws.MakeOwn
import Derived.Laws.OwnMore
import Derived.Laws.Rows
import Derived.Laws.StructEq
import Derived.Lib.AppendStr
import Derived.Lib.BufferWrite
import Derived.Lib.Hide
import Derived.Lib.UnsafeStr
import Derived.LoopIn
import Derived.LoopNIn
import Derived.Maps.AppendAt
import Derived.OpenShut
import Derived.OrdersHeld
import Derived.OrdersIn
import Derived.Outline
import Derived.OwnWalk
import Derived.OwnWalkIn
import Derived.ProofKit
import Derived.RangeFuncBound
import Derived.RangeFuncCalls
import Derived.RangeFuncLeaves
import Derived.RangeFuncNested
import Derived.RegionTactic
import Derived.Shelf.Abstract
import Derived.Shelf.LaysM
import Derived.Shelf.RegionOpen
import Derived.Shelf.Small.Wraps
import Derived.Shelf.Strconv.Clone
import Derived.Shelf.Strings.Builder1
import Derived.Shelf.Strings.BuilderF
import Derived.Shelf.Strings.Prefix
import Derived.Sort.CutIn
import Derived.TacticsInMore
import Derived.Test.YtfiedoejdikcgaaDoorChecked
import Derived.WalkKit
set_option maxRecDepth 100000
set_option linter.unusedVariables false
set_option maxRecDepth 100000
set_option linter.unusedVariables false
namespace Go.Proofs.YtfiedoejdikcgaaDoor
set_option maxRecDepth 100000
open Go Go.RowKit
theorem pack_total {a b d c l : Int} {W H D C : Nat} {V : List Nat} {kd : Nat → Int} (pal tr : List UInt8) (has : Bool) (h0 : rightH a b d c l = 0) (R : RightP a b d c l W H D C) :
    (packI ⟨W, H, D, C, pal, tr, has⟩ V kd (jobsL W H ((baseL l).filter (someP W H))) 0 []).length ≤ 60000000 := by
  rw [packI_length, ← sizeA_J pal tr has h0 R]
  unfold sizeA
  have h1 := sizeL_le (a := a) (b := b) (d := d) (c := c) (l := l) (L := passA a b d c l) (fun p hp => by have := passA_small hp; omega)
  have h2 := passA_len a b d c l
  have h3 : (passA a b d c l).length * 8389632 ≤ 7 * 8389632 := Nat.mul_le_mul_right _ h2
  omega
set_option maxHeartbeats 1000000 in
theorem epack12_any (w : World) {W H D C : Nat} {l : Int} {A1 A2 : Option Addr} {nV cV nK cK : Nat} {V : List Nat} {K : List Int} (palL trL : List UInt8) (hasB : Bool) (h0 : rightH (W : Int) H D C l = 0) (R : RightP (W : Int) H D C l W H D C)
    (hN : Nums w A1 nV V) (hnv : nV = samplesN C * (W * H)) (nvc : nV ≤ cV) (vl : ∀ q, V.getD q 0 < 65536) (hK : Zs w A2 nK K) (nk1 : 1 ≤ nK) (nkl : nK ≤ 1000) (kf4 : ∀ z, z ∈ K → z ≤ 4) :
    Calls Tryd.prog 17 #[.agg #[.int .i64 W, .int .i64 H, .int .i64 D, .int .i64 C, .int .i64 l], .slice A1 nV cV, .slice A2 nK cK] w fun e w' => e = .returned (.string (strL (packI ⟨W, H, D, C, palL, trL, hasB⟩ V (kindsK K) (jobsL W H ((baseL l).filter (someP W H))) 0 []))) ∧ But [] w w' := by
  have hWE := R.wa
  obtain ⟨SS, hSS⟩ : ∃ SS : ShP, SS = ⟨W, H, D, C, palL, trL, hasB⟩ := ⟨_, rfl⟩
  obtain ⟨L0, hL0⟩ : ∃ L0, L0 = (baseL l).filter (someP W H) := ⟨_, rfl⟩
  obtain ⟨TT, hTT⟩ : ∃ TT, TT = packI SS V (kindsK K) (jobsL W H L0) 0 [] := ⟨_, rfl⟩
  have httl : TT.length ≤ 60000000 := by rw [hTT, hSS, hL0]; exact pack_total palL trL hasB h0 R
  rw [← hSS, ← hL0, ← hTT]
  obtain ⟨S, hS⟩ : ∃ S, S = samplesN C := ⟨_, rfl⟩
  have s1 : 1 ≤ S := by rw [hS]; exact R.s1
  have s4 : S ≤ 4 := by rw [hS]; exact R.s4
  have w2 := R.w2
  have h2 := R.h2
  have d16 := R.d16
  have hcs : samplesI (C : Int) = (S : Int) := by rw [hS]; exact R.sam
  have HSM : Hid (∀ v, Calls Tryd.prog 16 #[.int .i64 C] v fun e w' => e = .returned (.int .i64 (S : Nat)) ∧ v = w') := Lib.hid fun v => by rw [← hcs]; exact esamples_any v C
  obtain ⟨np, hnp⟩ : ∃ np, np = L0.length := ⟨_, rfl⟩
  obtain ⟨P, hP⟩ : ∃ P, P = L0.map (p6 W H) := ⟨_, rfl⟩
  have hnp7 : np ≤ 7 := by
    have h := passA_len (W : Int) H D C l
    rw [passA_base h0 R, ← hL0, List.length_map] at h
    omega
  have HPS : Hid (∀ v, Calls Tryd.prog 25 #[.agg #[.int .i64 W, .int .i64 H, .int .i64 D, .int .i64 C, .int .i64 l]] v fun e w' => ∃ A cap, e = .returned (.slice A np cap) ∧ Pss w' A np P ∧ np ≤ cap ∧ But [] v w') := Lib.hid fun v => by
    have h := epasses_any v (W : Int) H D C l
    rw [passA_base h0 R, ← hL0, ← hP, show P.length = np by rw [hP, List.length_map, hnp]] at h
    exact h
  have HPA : Hid (∀ (i : Nat) (q : P6), P[i]? = some q → ∃ p, L0[i]? = some p ∧ q = p6 W H p ∧ p ∈ baseL l ∧ someP W H p = true) := Lib.hid fun i q hq => by
    rw [hP, List.getElem?_map] at hq
    cases hp : L0[i]? with
    | none => rw [hp] at hq; cases hq
    | some p =>
      rw [hp] at hq
      have hm : p ∈ L0 := List.mem_of_getElem? hp
      rw [hL0] at hm
      exact ⟨p, rfl, (Option.some.inj hq).symm, (List.mem_filter.1 hm).1, (List.mem_filter.1 hm).2⟩
  have HHEAD : Hid (∀ i j, (jobsL W H (L0.drop i)).head? = some j → j.first = true) := Lib.hid fun i => jobs_head _ fun p hp => by
    have h := List.mem_of_mem_drop hp
    rw [hL0] at h
    exact (List.mem_filter.1 h).2
  obtain ⟨bp, hbp⟩ : ∃ bp, bp = max 1 (D * S / 8) := ⟨_, rfl⟩
  have hDS : D * S ≤ 64 := by show _ ≤ 16 * 4; exact Nat.mul_le_mul d16 s4
  have hbp1 : 1 ≤ bp := by omega
  have hbp8 : bp ≤ 8 := by omega
  have HBY : Hid (∀ v, Calls Tryd.prog 28 #[.agg #[.int .i64 W, .int .i64 H, .int .i64 D, .int .i64 C, .int .i64 l]] v fun e w' => e = .returned (.int .i64 (bp : Nat)) ∧ But [] v w') := Lib.hid fun v => by rw [hbp]; exact ebytes_any v hcs d16 s4
  have HBN : Hid (bppN SS = bp) := Lib.hid (by rw [hSS, hbp, hS]; rfl)
  have HRL : Hid (∀ n, n ≤ 1024 → rowLen SS n ≤ 8192) := Lib.hid fun n hn => by rw [hSS]; exact rowLen_le R _ _ _ hn
  have HTT : Hid (TT = packI SS V (kindsK K) (jobsL W H (L0.drop 0)) 0 []) := Lib.hid (by rw [List.drop_zero, hTT])
  have HSSF : Hid (samplesN SS.c = S ∧ SS.w = W ∧ SS.d = D ∧ depB (D : Int) = true ∧ nV = S * (W * H) ∧ (W ≤ 1024 ∧ H ≤ 1024 ∧ W * H ≤ 4096)) := Lib.hid (by rw [hSS]; exact ⟨hS.symm, rfl, rfl, R.dep, by rw [hnv, hS], R.w2, R.h2, R.area⟩)
  have HNP := Lib.hid hnp
  have HTL := Lib.hid httl
  obtain ⟨b3, hb3⟩ : ∃ g, g = w.heap.size := ⟨_, rfl⟩
  obtain ⟨w1, hw1⟩ : ∃ X, X = w.alloc (.cells #[.int .i64 W, .int .i64 H, .int .i64 D, .int .i64 C, .int .i64 l] 29) := ⟨_, rfl⟩
  have hI1 : Is w1 b3 29 #[.int .i64 W, .int .i64 H, .int .i64 D, .int .i64 C, .int .i64 l] := by rw [hw1, hb3]; exact Is.fresh _ _ _
  have hB1 : But [] w w1 := by rw [hw1]; exact (But.refl [] w).alloc _
  have HI1 := Lib.hid hI1
  have HB1 := Lib.hid hB1
  have HN1 := Lib.hid (hN.but hB1)
  have HK1 := Lib.hid (hK.but hB1)
  have c0 := hI1.cell 0
  have c1 := hI1.cell 1
  have c2 := hI1.cell 2
  have c3 := hI1.cell 3
  have c4 := hI1.cell 4
  have hg3 := hI1.lt
  have HVL := Lib.hid vl
  have HKF := Lib.hid kf4
  clear hI1 hB1 hN hK hTT hSS hL0 hS hcs hnp hP hbp hDS httl R h0 hnv hWE vl kf4
  go_enter Tryd.func17, Tryd.ntmps17
  go_upto_region 1 with (fail)
  rw [← hw1, ← hb3]
  clear hw1 hb3
  go_wp2_with fail
  refine (HSM.out _).mono ?_
  rintro e w2 ⟨rfl, rfl⟩
  go_wp2_with fail
  refine (HPS.out _).mono ?_
  rintro e w9 ⟨A9, cap9, rfl, hP9, hcap9, hB9⟩
  have HP9 := Lib.hid hP9
  have HI9 := Lib.hid (HI1.out.but hB9 (by simp))
  have HN9 := Lib.hid (HN1.out.but hB9)
  have HK9 := Lib.hid (HK1.out.but hB9)
  have HB9 := Lib.hid (HB1.out.trans hB9)
  clear hP9 hB9 c0 c1 c2 c3 c4 hg3
  go_wp2_with fail
  go_loopw [7, 10, 11] (fun ov kv iv wx => ∃ (i k : Nat) (DN : List UInt8) (OA : Option Addr) (ol oc : Nat), i ≤ np ∧ iv = .int .i64 i ∧ kv = .int .i64 k ∧ ov = .slice OA ol oc ∧ Hid (TT = DN ++ packI SS V (kindsK K) (jobsL W H (L0.drop i)) k []) ∧ Hid (k ≤ DN.length) ∧ Hid (ol = DN.length) ∧ Hid (OwnF wx w9.heap.size (.slice OA ol oc) DN) ∧ Hid (But [] w9 wx)) (fun _ _ iv _ => np - (intOf iv).toNat)
  case atStart => exact ⟨0, 0, [], none, 0, 0, Nat.zero_le _, rfl, rfl, rfl, HTT, Lib.hid (Nat.le_refl _), Lib.hid rfl, Lib.hid (OwnF.nil _ _), Lib.hid (But.refl _ _)⟩
  case round =>
    clear HTT
    obtain ⟨i, k, DN, OA, ol, oc, hi, rfl, rfl, rfl, HT, HKL, HOL, HOW, HB⟩ := hrel
    by_cases hlt : i < np
    · obtain ⟨g9, o9, q6, hA9, hg9, hq6, m0, m1, m2, m3, m4, m5⟩ := (HP9.out.but HB.out).at hlt
      subst hA9
      obtain ⟨p, hp9, hq, hbase, hsome⟩ := HPA.out i q6 hq6
      have hsm := of_decide_eq_true hsome
      obtain ⟨⟨hx7, hy7⟩, ⟨hdx1, hdx8⟩, hdy1, hdy8⟩ := base_small hbase
      have hokp := base_ok l p hbase
      have hWle := manyL_le W p.x p.dx hdx1
      have hHle := manyL_le H p.y p.dy hdy1
      have HPLC : Hid (∀ y, y < manyL H p.y p.dy → ∀ x, x < manyL W p.x p.dx → p.x + x * p.dx < W ∧ p.y + y * p.dy < H) := Lib.hid fun y h2 x h1 => place_lt hokp h2 h1
      have HJOB : Hid (∀ y, (jobP W p y).n = manyL W p.x p.dx ∧ (jobP W p y).x = p.x ∧ (jobP W p y).dx = p.dx ∧ (jobP W p y).y = p.y + y * p.dy ∧ ((jobP W p y).first = true ↔ y = 0)) := Lib.hid fun y => ⟨rfl, rfl, rfl, rfl, by show decide (y = 0) = true ↔ y = 0; exact decide_eq_true_iff⟩
      obtain ⟨JS, hJS⟩ : ∃ JS, JS = jobsL W H (L0.drop (i + 1)) := ⟨_, rfl⟩
      have HLS : Hid (leftP W H p 0 ++ JS = jobsL W H (L0.drop i)) := Lib.hid (by rw [hJS]; exact leftJ_start hp9 hsm.1)
      have HLN : Hid (∀ y, y < manyL H p.y p.dy → leftP W H p y ++ JS = jobP W p y :: (leftP W H p (y + 1) ++ JS)) := Lib.hid fun y hy => by rw [leftP_next hy]; rfl
      have HLE : Hid (∀ y, manyL H p.y p.dy ≤ y → leftP W H p y ++ JS = JS) := Lib.hid fun y hy => by rw [leftP_end hy]; rfl
      have HJS := Lib.hid hJS
      have e6 : q6 = (p.x, p.y, p.dx, p.dy, manyL W p.x p.dx, manyL H p.y p.dy) := hq
      subst e6
      dsimp only at m0 m1 m2 m3 m4 m5
      obtain ⟨px, hpx⟩ : ∃ z, z = p.x := ⟨_, rfl⟩
      obtain ⟨py, hpy⟩ : ∃ z, z = p.y := ⟨_, rfl⟩
      obtain ⟨dx, hdx⟩ : ∃ z, z = p.dx := ⟨_, rfl⟩
      obtain ⟨dy, hdy⟩ : ∃ z, z = p.dy := ⟨_, rfl⟩
      obtain ⟨Wp, hWp⟩ : ∃ z, z = manyL W p.x p.dx := ⟨_, rfl⟩
      obtain ⟨Hp, hHp⟩ : ∃ z, z = manyL H p.y p.dy := ⟨_, rfl⟩
      rw [← hWp] at hsm HPLC HJOB hWle m4
      rw [← hHp] at hsm HPLC hHle HLN HLE m5
      rw [← hpx] at HPLC HJOB m0
      rw [← hpy] at HPLC HJOB m1
      rw [← hdx] at HPLC HJOB m2
      rw [← hdy] at HPLC HJOB m3
      obtain ⟨hWp1, hHp1⟩ := hsm
      have i0 : (0 : Int) ≤ (i : Int) := by omega
      have i1 : (i : Int) < (np : Int) := by omega
      obtain ⟨n, hn⟩ : ∃ n, n = rowLen SS Wp := ⟨_, rfl⟩
      have hnl : n ≤ 8192 := by rw [hn]; exact HRL.out Wp (by omega)
      obtain ⟨bB, hbB⟩ : ∃ g, g = wr.heap.size := ⟨_, rfl⟩
      obtain ⟨wz, hwz⟩ : ∃ X, X = wr.alloc (.cells #[.int .i64 px, .int .i64 py, .int .i64 dx, .int .i64 dy, .int .i64 Wp, .int .i64 Hp] 52) := ⟨_, rfl⟩
      have hBBi : Is wz bB 52 #[.int .i64 px, .int .i64 py, .int .i64 dx, .int .i64 dy, .int .i64 Wp, .int .i64 Hp] := by rw [hwz, hbB]; exact Is.fresh _ _ _
      have hAz : But [] wr wz := by rw [hwz]; exact (But.refl [] wr).alloc _
      have HSKY : Hid (SkY w9 b3 nV cV nK cK S n bp W H D C px py dx dy Wp Hp l A1 A2 V K SS p JS TT) := Lib.hid {
        head := HI9.out
        num := HN9.out
        kin := HK9.out
        nk1 := nk1
        nkl := nkl
        kf := HKF.out
        nvc := nvc
        nvE := HSSF.out.2.2.2.2.1
        vl := HVL.out
        sE := HSSF.out.1
        s1 := s1
        s4 := s4
        wl := by omega
        hl := by omega
        wl1 := hWp1
        ww := HSSF.out.2.2.2.2.2
        ssw := HSSF.out.2.1
        ssd := HSSF.out.2.2.1
        dep := HSSF.out.2.2.2.1
        nE := hn
        nl := hnl
        bE := HBN.out
        b1 := hbp1
        b8 := hbp8
        byt := HBY.out
        pl := HPLC.out
        job := HJOB.out
        nxt := HLN.out
        stop := HLE.out
        ttl := HTL.out }
      have HLKY : Hid (LkY w9 bB n W H px py dx dy Wp Hp V K SS p JS TT 0 k ⟨#[]⟩ DN OA ol oc wz) := Lib.hid ⟨Nat.zero_le _, by rw [HLS.out]; exact HT.out, fun _ => rfl, .inl rfl, HKL.out, HOL.out, HOW.out.but hAz, hBBi, HB.out.trans hAz⟩
      have HHEADi := Lib.hid (HHEAD.out (i + 1))
      rw [← hJS] at HHEADi
      clear hJS hn hBBi hAz hpx hpy hdx hdy hWp hHp hokp hbase hsome hp9 hq6 HT HKL HOL HOW HB hq
      go_upto_region 9 with (fail)
      rw [← hwz, ← hbB]
      clear hwz hbB m0 m1 m2 m3 m4 m5 hg9 i0 i1
      go_wp2_with fail
      refine pky_loop HSKY.out ?_ HLKY.out
      intro act wf hX
      refine kxy_open hX ?_
      clear hX
      intro u15 u16 u17 u18 u19 u20 u21 u22 u38 u39 u40 u41 u42 u43 u44 u45 u46 u47 u48 u49 u50 u51 u52 u53 u54 u55 u56 u57 u58 u59 u60 u61 u62 u63 u64 u65 u66 u67 u68 u69 u70 u71 u72 u73 u74 u75 u76 u77 u78 u79 u80 u81 u82 u83 u84 u85 u86 u87 u88 u89 u90 u91 u92 u93 u94 u95 u96 u97 u98 u99 u100 u101 u102 u103 u104 u105 u106 u107 u108 u109 u110 u111 u112 u113 u114 u115 u116 u117 u118 u119 u120 u121 k2 ab2 DN2 OA2 ol2 oc2 hz
      have HZ := Lib.hid hz
      have HT2 : Hid (TT = DN2 ++ packI SS V (kindsK K) (jobsL W H (L0.drop (i + 1))) k2 []) := Lib.hid (by rw [← HJS.out, ← packI_above HHEADi.out k2 ab2.data.toList]; have h := HZ.out.tt; rw [HSKY.out.stop Hp (Nat.le_refl _)] at h; exact h)
      have HKL2 := Lib.hid hz.kl
      have HOL2 := Lib.hid hz.olE
      have HOW2 := Lib.hid hz.own
      have HB2 := Lib.hid hz.but
      clear hz
      go_wp2
      go_roundw
      case rel => exact ⟨i + 1, k2, DN2, OA2, ol2, oc2, by omega, by go_num, rfl, rfl, HT2, HKL2, HOL2, HOW2, HB2⟩
      case measure => simp [intOf] <;> omega
    · obtain rfl : np = i := by omega
      have HE : Hid (TT = DN) := Lib.hid (by rw [HT.out, List.drop_of_length_le (by rw [← HNP.out]; exact Nat.le_refl _)]; exact List.append_nil _)
      have kt := HOW.out.text
      rw [← HE.out] at kt
      go_wp2
      go_ret
      exact ⟨rfl, HB9.out.trans HB.out⟩
end Go.Proofs.YtfiedoejdikcgaaDoor
set_option maxRecDepth 100000
set_option linter.unusedVariables false
namespace Go.Proofs.YtfiedoejdikcgaaDoor
set_option maxRecDepth 100000
open Go Go.RowKit
/-- One number appended within a drawn region. -/
theorem step_append_n {w0 : World} (w : World) {ops : Array Oper} {o : Oper} {a : Act} {K : Act → World → Prop} {Q : Exit → Act → World → Prop} {E : Prop} (hgd : o.guard = none) (sl x : Operand)
    (ho : o.op = .call { callee := .builtin .append, args := #[sl, x], argTypes := #[37, 37] })
    (v : Value) (L : List Nat) (hs : a.eval sl = v) (hO : OwnN w w0.heap.size v L) (hB : But [] w0 w) (y : Nat) {g : Nat}
    (hx : a.eval x = .slice (some ⟨g, 0, none⟩) 1 1) (hI : Is w g 3 #[.int .i64 (y : Nat)]) (hbound : L.length < 1000000)
    (h : ∀ A c w', Hid (OwnN w' w0.heap.size (.slice A (L.length + 1) c) (L ++ [y])) → Hid (But [] w0 w') → K (a.put o.dst (.slice A (L.length + 1) c)) w') : if Region.wanted o (yielded ops a.tmps) = true then Oper.wp Tryd.prog o a w K Q else E := by
  obtain ⟨i0, hi0, hz0, hz1, hz2⟩ := info_parts info_intN
  refine step_append_lies w hgd sl x 37 ho w0.heap.size 3 i0 (.int .i64 0) 1 8 Tryd.underlying37 hi0 hz0 hz1 hz2 rfl (by omega) v L.length (nCells L) hs hO ⟨g, 0, none⟩ 1 1 [.int .i64 (y : Nat)] hx rfl (news_n hI) (by simp [Value.oneCell']) (by omega) (by unfold maxLen; omega) (by omega) hB.size w.heap.size rfl ?_
  intro g' cap w' hown hgrow _ _
  have hO2 : OwnN w' w0.heap.size (.slice (some ⟨g', 0, none⟩) (L.length + 1) cap) (L ++ [y]) := by
    unfold OwnN
    rw [List.length_append, nCells_append]
    exact hown
  exact h (some ⟨g', 0, none⟩) cap w' (Lib.hid hO2) (Lib.hid (hB.grown hgrow (fun k e => .inr (hO.lt k e))))
end Go.Proofs.YtfiedoejdikcgaaDoor
