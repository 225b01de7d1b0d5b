/- Several texts in one: InfZ, InfSt, InfPr, LaidM, LzM, DefM (what Back reach of them). -/
import Derived.Test.YtjeeiodpdfbgmaaDoorPm01
import Derived.Test.YtjeeiodpdfbgmaaDoorPm02
import Derived.Test.YtjeeiodpdfbgmaaDoorPm03
import Derived.Test.YtjeeiodpdfbgmaaDoorPm04
import Derived.Test.YtjeeiodpdfbgmaaDoorPm05
import Derived.Test.YtjeeiodpdfbgmaaDoorPm06
import Derived.Test.YtjeeiodpdfbgmaaDoorPm07
import Derived.Test.YtjeeiodpdfbgmaaDoorPm08
import Derived.Test.YtjeeiodpdfbgmaaDoorPm09
import Derived.Test.YtjeeiodpdfbgmaaDoorPm31
import Derived.Below
import Derived.BigQuiet
import Derived.BigRegion
import Derived.Deep.AppendLies
import Derived.Deep.CutRange
import Derived.Deep.DeepCutAuto
import Derived.Deep.Draws
import Derived.Deep.LoopGhost
import Derived.Deep.QuietTactic
import Derived.Deep.RegionLaw
import Derived.Deep.RegionWith
import Derived.Deep.Slices
import Derived.Laws.BitsAllLaws
import Derived.Laws.BitsLemmas
import Derived.Laws.IdiomStrings
import Derived.Laws.OwnMore
import Derived.Laws.Rows
import Derived.Lib.AppendStr
import Derived.Lib.Hide
import Derived.Lib.Strings
import Derived.LoopIn
import Derived.LoopNIn
import Derived.OneCell
import Derived.OpenShut
import Derived.Outline
import Derived.OwnWalk
import Derived.OwnWalkIn
import Derived.ProofKit
import Derived.RangeFuncBound
import Derived.RangeFuncCalls
import Derived.RangeFuncLeaves
import Derived.RangeFuncNested
import Derived.RegionTactic
import Derived.Shelf.Abstract
import Derived.Shelf.RegionOpen
import Derived.Shelf.SlSortCmp.QuietGrown
import Derived.StillTailTactics
import Derived.TacticsInMore
import Derived.Test.YtjeeiodpdfbgmaaDoorChecked
import Derived.WalkKit
import Derived.WalkLawsBesides
import Derived.WalkSpells
set_option maxRecDepth 100000
set_option linter.unusedVariables false
namespace Go.Proofs.YtjeeiodpdfbgmaaDoor
set_option maxRecDepth 100000
open Go Go.RowKit
section
variable {w w' : World} {b rb db : Nat} {og : Option Nat} {s : ByteArray} {p : Nat} {M : Int} {L : List UInt8} {fs fd : Option Nat}
theorem ext4I (h : SS w b rb db og s p M L fs fd) {i : Int} (k : Nat) (hi : i = k) (hk : k < 30) :
    Calls Tryd.prog 111 #[.pointer (some ⟨b, 0, none⟩), .int .i64 i, .int .i64 4] w (GotN w b rb db og s M L fs fd (rExt k 4 s p)) := by
  subst hi; exact ext4 h k hk
theorem rExt_le {k g v q : Nat} (h : rExt k g s p = .ok (v, q)) (hk : k < 30) (hg : g = 2 ∨ g = 4) : v < 65536 := by
  unfold rExt at h
  obtain ⟨⟨x, q1⟩, h1, h2⟩ := ok_bind h
  have hb : extBits k g ≤ 13 := by unfold extBits; split <;> rcases hg with rfl | rfl <;> omega
  have hx := rBits_lt h1
  have hx2 : x < 2 ^ 13 := Nat.lt_of_lt_of_le hx (Nat.pow_le_pow_right (by decide) hb)
  unfold rPure at h2
  injection h2 with h2
  injection h2 with h2 _
  subst h2
  unfold extVal
  unfold extBits at hb
  split
  · rcases hg with rfl | rfl <;> omega
  · rename_i hn
    rw [if_neg hn] at hb
    have h3 : 2 ^ (k / g - 1) ≤ 2 ^ 13 := Nat.pow_le_pow_right (by decide) hb
    have h4 : g + k % g ≤ 7 := by rcases hg with rfl | rfl <;> omega
    have h5 := Nat.mul_le_mul h4 h3
    show (g + k % g) * 2 ^ (k / g - 1) + x < 65536
    omega

theorem matchLen_any (h : SS w b rb db og s p M L fs fd) (t : Nat) (h1 : 256 < t) :
    Calls Tryd.prog 100 #[.pointer (some ⟨b, 0, none⟩), .int .i64 t] w (GotN w b rb db og s M L fs fd (rLen t s p)) := by
  by_cases h2 : 285 < t
  · have d : decide ((285 : Int) < (t : Int)) = true := by simp; omega
    have hr : rLen t s p = .error 12 := by rw [rLen_far h2]; rfl
    have HR := Lib.hid hr
    clear hr h h1 h2
    go_enter Tryd.func100, Tryd.ntmps100
    go_wp2
    go_ret2
    exact GotN.of (v := 0) (q := 0) rfl (Mv.refl _ _ _ _) (fun _ => HR.out) (fun e => absurd e (by decide))
  · have d : decide ((285 : Int) < (t : Int)) = false := by simp; omega
    by_cases h3 : t = 285
    · subst h3
      have hr : rLen 285 s p = .ok (258, p) := by rw [rLen_top]; rfl
      have HR := Lib.hid hr
      have H := Lib.hid h
      clear hr h h1 h2
      go_enter Tryd.func100, Tryd.ntmps100
      go_wp2
      go_ret2
      exact GotN.of (v := 258) (q := p) rfl (Mv.refl _ _ _ _) (fun e => absurd rfl e) (fun _ => ⟨HR.out, H.out⟩)
    · have d2 : ((t : Int) == 285) = false := by simp; omega
      have hr : rLen t s p = rBind (rExt (t - 257) 4) (fun n => rPure (3 + n)) s p := by rw [ext_len h1 (by omega)]
      have hx := ext4I h (i := (t : Int) - 256 - 1) (t - 257) (by omega) (by omega)
      have HR := Lib.hid hr
      have HX := Lib.hid hx
      have HT := Lib.hid h2
      clear hr hx h h2 h3
      have ht2 : t ≤ 285 := by have := HT.out; omega
      go_enter Tryd.func100, Tryd.ntmps100
      go_wp2_with fail
      refine HX.out.mono ?_
      rintro e w1 ⟨v, er, q, rfl, hMv, he1, he2⟩
      have HM := Lib.hid hMv
      have HE1 := Lib.hid he1
      have HE2 := Lib.hid he2
      clear hMv he1 he2
      by_cases her : er = 0
      · obtain ⟨hr, hS⟩ := HE2.out her
        have hv := rExt_le hr (by omega) (.inr rfl)
        have HRR := Lib.hid hr
        have HS := Lib.hid hS
        clear hr hS HE1 HE2
        subst her
        go_wp2
        go_ret2
        exact GotN.of (v := 3 + v) (ret_num (by omega)) HM.out (fun e => absurd rfl e) (fun _ => ⟨by rw [HR.out, bind_val HRR.out]; rfl, HS.out⟩)
      · have d2 : (er != 0) = true := by simpa using her
        have HER := Lib.hid her
        clear her
        go_wp2
        go_ret2
        exact GotN.of (v := 0) (q := 0) rfl HM.out (fun _ => by rw [HR.out, bind_err (HE1.out HER.out)]) (fun e => absurd e HER.out)

/-- A block that a call has just made. -/
theorem box_cell (w : World) (cs : Array Value) (t : TypeId) (i : Nat) : (w.alloc (.cells cs t)).cell? ⟨w.heap.size, i, none⟩ = cs[i]? := (Is.fresh w t cs).cell i

theorem matchDist_any {d : List Int} {bd : Nat} {x : Option Addr} (h : SS w b rb db og s p M L fs fd) (hc : chk d = 0) (hT : Keep (Foot b rb og) w fun w' => TT w' bd d) :
    Calls Tryd.prog 101 #[.pointer (some ⟨b, 0, none⟩), .agg #[.pointer x, .pointer (some ⟨bd, 0, none⟩)]] w (GotN w b rb db og s M L fs fd (rDst d s p)) := by
  have hr : rDst d s p = rBind (rNext d) (fun u => rWhen (29 < u) 12 (rBind (rExt u 2) fun n => rPure (1 + n))) s p := by rw [ext_dst]
  have h1 := (h.alloc (.cells #[.pointer x, .pointer (some ⟨bd, 0, none⟩)] 75)).drew
  have m1 := (Mv.alloc (b := b) (rb := rb) (w := w) (og := og) (.cells #[.pointer x, .pointer (some ⟨bd, 0, none⟩)] 75)).trans Mv.drew
  have hn := h1.next hc (m1.keep hT)
  have hin := h1.inCell
  have hbx : (w.alloc (.cells #[.pointer x, .pointer (some ⟨bd, 0, none⟩)] 75)).drew.cell? ⟨w.heap.size, 1, none⟩ = some (.pointer (some ⟨bd, 0, none⟩)) := box_cell w _ _ 1
  have HR := Lib.hid hr
  have HN := Lib.hid hn
  have HM1 := Lib.hid m1
  have HIN := Lib.hid hin
  have HBX := Lib.hid hbx
  clear hr hn m1 h1 hT hc h hin hbx
  go_enter Tryd.func101, Tryd.ntmps101
  go_upto_region 1 with (fail)
  go_cut [6, 7] (fun v6 v7 wc => ∃ (u : Nat) (er : Int) (q : Nat), v6 = .int .i64 u ∧ v7 = .int .i64 er ∧ Hid (Mv b rb w wc og og) ∧ Hid (er ≠ 0 → rNext d s p = .error er) ∧ Hid (er = 0 → rNext d s p = .ok (u, q) ∧ SS wc b rb db og s q M L fs fd))
  case first =>
    have hin := HIN.out
    have hbx := HBX.out
    go_region_with (go_at_call 63; refine HN.out.mono ?_; rintro e w1 ⟨v, er, q, rfl, hMv, he1, he2⟩; have HMV := Lib.hid hMv; have HE1 := Lib.hid he1; have HE2 := Lib.hid he2; clear hMv he1 he2)
    all_goals
      (try go_wp2)
      go_meet
      exact ⟨_, _, _, rfl, rfl, HM1.out.trans HMV.out, HE1.out, HE2.out⟩
  case rest =>
    obtain ⟨u, er, q, rfl, rfl, HMV, HE1, HE2⟩ := hcut
    obtain ⟨w1, rfl⟩ : ∃ w1 : World, w1 = wc := ⟨_, rfl⟩
    clear HN HIN HBX HM1
    by_cases her : er = 0
    · obtain ⟨hr, hS⟩ := HE2.out her
      have HRR := Lib.hid hr
      clear hr HE1 HE2
      subst her
      by_cases hu : 29 < u
      · have d : decide ((29 : Int) < (u : Int)) = true := by simp; omega
        have HU := Lib.hid hu
        clear hS hu
        go_wp2
        go_ret2
        exact GotN.of (v := 0) (q := 0) rfl HMV.out (fun _ => by rw [HR.out, bind_val HRR.out, when_yes HU.out]) (fun e => absurd e (by decide))
      · have d : decide ((29 : Int) < (u : Int)) = false := by simp; omega
        have hx := ext2 hS u (by omega)
        have HX := Lib.hid hx
        have HU := Lib.hid hu
        clear hS hu hx
        go_wp2_with fail
        refine HX.out.mono ?_
        rintro e w2 ⟨v, er, q2, rfl, hMv, he1, he2⟩
        have HM2 := Lib.hid hMv
        have HE1 := Lib.hid he1
        have HE2 := Lib.hid he2
        clear hMv he1 he2
        by_cases her : er = 0
        · obtain ⟨hr, hS⟩ := HE2.out her
          have hv := rExt_le hr (by have := HU.out; omega) (.inl rfl)
          have HR2 := Lib.hid hr
          have HS := Lib.hid hS
          clear hr hS HE1 HE2
          subst her
          go_wp2
          go_ret2
          exact GotN.of (v := 1 + v) (ret_num (by omega)) (HMV.out.trans HM2.out) (fun e => absurd rfl e) (fun _ => ⟨by rw [HR.out, bind_val HRR.out, when_not HU.out, bind_val HR2.out]; rfl, HS.out⟩)
        · have d2 : (er != 0) = true := by simpa using her
          have HER := Lib.hid her
          clear her
          go_wp2
          go_ret2
          exact GotN.of (v := 0) (q := 0) rfl (HMV.out.trans HM2.out) (fun _ => by rw [HR.out, bind_val HRR.out, when_not HU.out, bind_err (HE1.out HER.out)]) (fun e => absurd e HER.out)
    · have d2 : (er != 0) = true := by simpa using her
      have HER := Lib.hid her
      clear her
      go_wp2
      go_ret2
      exact GotN.of (v := 0) (q := 0) rfl HMV.out (fun _ => by rw [HR.out, bind_err (HE1.out HER.out)]) (fun e => absurd e HER.out)
end
end Go.Proofs.YtjeeiodpdfbgmaaDoor
namespace Go.Proofs.YtjeeiodpdfbgmaaDoor
set_option maxRecDepth 100000
open Go Go.RowKit
section
variable {w w' : World} {b rb db : Nat} {og : Option Nat} {s : ByteArray} {p : Nat} {M : Int} {L : List UInt8} {fs fd : Option Nat}
theorem word_at (v : ByteArray) (i : Nat) (h : i + 1 < v.size) : Go.bits .or .i64 (wrap64 ((v[i]'(by omega)).toNat : Int)) (wrap64 (wrap64 ((v[i + 1]'h).toNat : Int) * 256)) = (wordAt v i : Int) := by
  have e1 : wordAt v i = (v[i]'(by omega)).toNat + (v[i + 1]'h).toNat * 2 ^ 8 := by
    unfold wordAt
    have hz : v.data.toList.length = v.size := Array.length_toList
    rw [List.getD_eq_getElem?_getD, List.getD_eq_getElem?_getD, List.getElem?_eq_getElem (show i < v.data.toList.length by omega), List.getElem?_eq_getElem (show i + 1 < v.data.toList.length by omega), byte_at v i (by omega), byte_at v (i + 1) h]
    show _ + 256 * _ = _ + _ * 2 ^ 8
    rw [Nat.mul_comm]; rfl
  rw [e1]
  have h1 := (v[i]'(by omega)).toNat_lt
  have h2 := (v[i + 1]'h).toNat_lt
  generalize (v[i]'(by omega)).toNat = x at *
  generalize (v[i + 1]'h).toNat = y at *
  have ex : wrap64 (x : Int) = (x : Int) := IntWalk.wrap64_in _ ⟨by omega, by omega⟩
  have ey : wrap64 (y : Int) = (y : Int) := IntWalk.wrap64_in _ ⟨by omega, by omega⟩
  have e3 : (y : Int) * 256 = ((y * 2 ^ 8 : Nat) : Int) := by simp
  have ez : wrap64 ((y * 2 ^ 8 : Nat) : Int) = ((y * 2 ^ 8 : Nat) : Int) := IntWalk.wrap64_in _ ⟨by omega, by omega⟩
  rw [ex, ey, e3, ez]
  exact i64_join _ _ 8 (by omega) (by omega) (Nat.mul_mod_left y (2 ^ 8)) (by omega)
theorem wordAt_lt (v : ByteArray) (i : Nat) : wordAt v i < 65536 := by
  unfold wordAt
  have h1 := (v.data.toList.getD i 0).toNat_lt
  have h2 := (v.data.toList.getD (i + 1) 0).toNat_lt
  omega
theorem stored_any (h : SS w b rb db og s p M L fs fd) :
    Calls Tryd.prog 81 #[.pointer (some ⟨b, 0, none⟩)] w (GotE w b rb db og s M fs fd (storedR M L s p)) := by
  have hr : storedR M L s p = rBind (rBytes 4) (fun h => rWhen (wordAt h 2 ≠ 65535 - wordAt h 0) 14 (storedK M L (wordAt h 0))) s p := by rw [stored_head]
  have hin := h.inCell
  have hb := h.bytes 4
  have HR := Lib.hid hr
  have HB := Lib.hid hb
  have H := Lib.hid h
  clear hr hb h
  go_enter Tryd.func81, Tryd.ntmps81
  go_wp2_with fail
  refine HB.out.mono ?_
  rintro e w1 ⟨v, er, q, rfl, hMv, he1, he2⟩
  have HM := Lib.hid hMv
  have HE1 := Lib.hid he1
  have HE2 := Lib.hid he2
  clear hMv he1 he2
  by_cases her : er = 0
  · obtain ⟨hr, hS⟩ := HE2.out her
    have hlen := bytes_len hr
    have hin2 := hS.inCell
    have HRR := Lib.hid hr
    have HS := Lib.hid hS
    clear hr hS HE1 HE2 hin
    subst her
    have hz : v.size = 4 := by rw [← hlen]; exact Array.length_toList.symm
    have hw0 := word_at v 0 (by omega)
    have hw2 := word_at v 2 (by omega)
    have hn := wordAt_lt v 0
    have hm := wordAt_lt v 2
    clear hlen
    obtain ⟨n, hn0⟩ : ∃ n, n = wordAt v 0 := ⟨_, rfl⟩
    obtain ⟨m, hm0⟩ : ∃ m, m = wordAt v 2 := ⟨_, rfl⟩
    rw [← hn0] at hw0 hn
    rw [← hm0] at hw2 hm
    have HN := Lib.hid hn0.symm
    have HM0 := Lib.hid hm0.symm
    have e1 : wrap64 (65535 - (n : Int)) = 65535 - (n : Int) := IntWalk.wrap64_in _ ⟨by omega, by omega⟩
    clear hn0 hm0
    by_cases hne : m ≠ 65535 - n
    · have d : ((m : Int) != 65535 - (n : Int)) = true := by simp; omega
      have HNE := Lib.hid hne
      clear hne
      go_wp2
      go_quiet (fail)
      go_wp2
      go_quiet (fail)
      go_wp2
      go_ret
      exact GotE.of (L' := []) (q := 0) rfl ((HM.out.trans (Mv.drewN _)).trans (Mv.drewN _)) (fun _ => by rw [HR.out, bind_val HRR.out, HN.out, HM0.out, when_yes HNE.out]) (fun e => absurd e (by decide))
    · have d : ((m : Int) != 65535 - (n : Int)) = false := by simp; omega
      have HNE := Lib.hid hne
      clear hne
      go_wp2
      go_quiet (fail)
      go_wp2
      go_quiet (fail)
      go_wp2_with fail
      refine ((HS.out.drewN _).bytes n).mono ?_
      rintro e w2 ⟨x, er, q2, rfl, hMv, he1, he2⟩
      have hM2 := (HM.out.trans (Mv.drewN _)).trans hMv
      have HM2 := Lib.hid hM2
      have HE1 := Lib.hid he1
      have HE2 := Lib.hid he2
      have hr2 : storedR M L s p = storedK M L n s q := by rw [HR.out, bind_val HRR.out, HN.out, HM0.out, when_not HNE.out]
      have HR2 := Lib.hid hr2
      clear hMv he1 he2 hM2 hr2 HR hw0 hw2 e1 d hin2
      by_cases her : er = 0
      · obtain ⟨hrx, hS2⟩ := HE2.out her
        have hxl := bytes_len hrx
        have hzx : x.size = n := by rw [← hxl]; exact Array.length_toList.symm
        have hr3 : storedK M L n s q = rWhen (M < (L.length : Int) + (n : Int)) 5 (rPure (L ++ x.data.toList)) s q2 := bind_val hrx
        have hrm := hS2.room n (by omega)
        have HS2 := Lib.hid hS2
        have HR3 := Lib.hid hr3
        have HXL := Lib.hid hxl
        have HZX := Lib.hid hzx
        have hzb : x.size ≤ 65535 := by omega
        clear hrx hS2 hxl hr3 HE1 HE2 hzx
        subst her
        by_cases hbig : M < (L.length : Int) + (n : Int)
        · rw [if_pos hbig] at hrm
          have HRM := Lib.hid hrm
          have HBIG := Lib.hid hbig
          clear hrm hbig
          go_wp2_with fail
          refine HRM.out.mono ?_
          rintro e w3 ⟨rfl, nq3, rfl⟩
          go_wp2
          go_ret
          exact GotE.of (L' := []) (q := 0) rfl (HM2.out.trans (Mv.drewN _)) (fun _ => by rw [HR2.out, HR3.out, when_yes HBIG.out]) (fun e => absurd e (by decide))
        · rw [if_neg hbig] at hrm
          have HRM := Lib.hid hrm
          have HBIG := Lib.hid hbig
          clear hrm
          have hLM := HS2.out.hM
          have hLb : L.length ≤ 1099511627776 := by omega
          clear hbig hLM
          go_wp2_with fail
          refine HRM.out.mono ?_
          rintro e w3 ⟨rfl, nq3, rfl⟩
          have hS3 := HS2.out.drewN nq3
          obtain ⟨A, c, hi, hown, hog⟩ := hS3.at
          have h1 : (w2.drewN nq3).cell? ⟨b, 1, none⟩ = some (.slice A L.length c) := hi.cell 1
          have hne := out_ne hown hi
          have hlt := hS3.lt
          have HS3 := Lib.hid hS3
          have HI := Lib.hid hi
          have HOG := Lib.hid hog
          have HNE := Lib.hid hne
          clear hS3 hi hog hne
          obtain ⟨i0, hi0, hz0, hz1, hz2⟩ := info_parts info_u8
          go_wp2_with (at_builtin; go_loud (refine wpList_append_str _ rfl _ _ 47 9 rfl (b + 1) 5 i0 Tryd.underlying47 Tryd.underlying9 hi0 hz0 hz1 hz2 (.slice A L.length c) L.length (cellsOf L) rfl hown x rfl (by omega) hlt ?_; intro A2 c2 w4 hown2 hgrow hat; have hi2 := HI.out.grown hgrow (Ne.symm HNE.out); have g0 : w4.cell? ⟨b, 1, none⟩ = some (.slice A L.length c) := hi2.cell 1; have g1 : w4.frozen? ⟨b, 1, none⟩ = false := hi2.free 1; have HOWN := Lib.hid hown2; have HGROW := Lib.hid hgrow; have HAT := Lib.hid hat; clear hi2 hown2 hgrow hat))
          go_ret
          have hl2 : (L ++ x.data.toList).length = L.length + x.size := by rw [List.length_append, HXL.out, HZX.out]
          have hp := HS3.out.put (L2 := L ++ x.data.toList) (But.refl [] _) HI.out HOG.out HGROW.out (by rw [cellsOf_append]; exact HOWN.out) hl2 HAT.out (by have := HBIG.out; rw [hl2, HZX.out]; omega)
          exact GotE.of rfl ((HM2.out.trans (Mv.drewN _)).trans hp.2) (fun e => absurd rfl e) (fun _ => ⟨by rw [HR2.out, HR3.out, when_not (by have := HBIG.out; omega)]; rfl, hp.1⟩)
      · have d2 : (er != 0) = true := by simpa using her
        have HER := Lib.hid her
        clear her
        go_wp2
        go_ret
        exact GotE.of (L' := []) (q := 0) rfl HM2.out (fun _ => by rw [HR2.out]; exact bind_err (HE1.out HER.out)) (fun e => absurd e HER.out)
  · have d2 : (er != 0) = true := by simpa using her
    have HER := Lib.hid her
    clear her
    go_wp2
    go_ret
    exact GotE.of (L' := []) (q := 0) rfl HM.out (fun _ => by rw [HR.out, bind_err (HE1.out HER.out)]) (fun e => absurd e HER.out)
end
end Go.Proofs.YtjeeiodpdfbgmaaDoor
namespace Go.Proofs.YtjeeiodpdfbgmaaDoor
set_option maxRecDepth 100000
open Go Go.RowKit
theorem matchOut_succ (far : Nat) : ∀ n L, matchOut far (n + 1) L = matchOut far n L ++ [(matchOut far n L).getD ((matchOut far n L).length - far) 0]
  | 0, _ => rfl
  | n + 1, L => by
    rw [matchOut, matchOut_succ far n, matchOut]
section
variable {w w' : World} {b rb db : Nat} {og : Option Nat} {s : ByteArray} {p : Nat} {M : Int} {L : List UInt8} {fs fd : Option Nat}
theorem out_byte {A : Option Addr} {c : Nat} (h : w.ownsRow (b + 1) 5 1 (.slice A L.length c) L.length (cellsOf L)) {i : Nat} (hi : i < L.length) :
    ∃ g, A = some ⟨g, 0, none⟩ ∧ b < g ∧ g < w.heap.size ∧ w.cell? ⟨g, i, none⟩ = some (.int .u8 ((L.getD i 0).toNat : Int)) := by
  obtain ⟨g, cap, e, h1, h2⟩ := h.form (by omega)
  injection e with e1 e2 e3
  subst e1 e3
  refine ⟨g, rfl, by omega, h2, ?_⟩
  have hc := World.ownsRow.cells h (g := g) rfl i (.int .u8 (L[i].toNat : Int)) (by simp [cellsOf, hi])
  have e2 : (⟨g, 0, none⟩ : Addr).add i = ⟨g, i, none⟩ := by unfold Addr.add; split <;> simp_all
  rw [e2] at hc
  rw [hc, List.getD_eq_getElem?_getD, List.getElem?_eq_getElem hi]; rfl

theorem SS.room1 (h : SS w b rb db og s p M L fs fd) :
    Calls Tryd.prog 85 #[.pointer (some ⟨b, 0, none⟩), .int .i64 1] w fun e w' => e = .returned (.int .i64 (if M < (L.length : Int) + 1 then 5 else 0)) ∧ ∃ nq, w' = w.drewN nq := h.room 1 (by omega)
theorem produce_lit {tv : Value} {x y : Option Addr} (h : SS w b rb db og s p M L fs fd) {d : List Int} (t : Nat) (ht : t < 256) (htv : tv = .agg #[.pointer x, .pointer y]) :
    Calls Tryd.prog 64 #[.pointer (some ⟨b, 0, none⟩), .int .i64 t, tv] w (GotE w b rb db og s M fs fd (rProd d M t L s p)) := by
  subst htv
  have hr : rProd d M t L s p = rWhen (M < (L.length : Int) + 1) 5 (rPure (L ++ [UInt8.ofNat t])) s p := by unfold rProd; rw [if_neg (by omega)]
  have h1 := h.alloc (.cells #[.pointer x, .pointer y] 75)
  have m1 := Mv.alloc (b := b) (rb := rb) (w := w) (og := og) (.cells #[.pointer x, .pointer y] 75)
  have hrm := h1.room1
  have d1 : decide ((256 : Int) < (t : Int)) = false := by simp; omega
  have HS := Lib.hid h1
  have HM := Lib.hid m1
  have HR := Lib.hid hr
  clear h hr m1 h1
  by_cases hbig : M < (L.length : Int) + 1
  · rw [if_pos hbig] at hrm
    have HRM := Lib.hid hrm
    have HBIG := Lib.hid hbig
    clear hrm hbig
    go_enter Tryd.func64, Tryd.ntmps64
    go_wp2_with fail
    refine HRM.out.mono ?_
    rintro e w3 ⟨rfl, nq3, rfl⟩
    go_wp2
    go_ret
    exact GotE.of (L' := []) (q := 0) rfl (HM.out.trans (Mv.drewN _)) (fun _ => by rw [HR.out, when_yes (by have := HBIG.out; omega)]) (fun e => absurd e (by decide))
  · rw [if_neg hbig] at hrm
    have HRM := Lib.hid hrm
    have HBIG := Lib.hid hbig
    have hLb : L.length ≤ 1099511627776 := by have := HS.out.hM; omega
    clear hrm hbig
    have hS3 := fun n => HS.out.drewN n
    go_enter Tryd.func64, Tryd.ntmps64
    go_wp2_with fail
    refine HRM.out.mono ?_
    rintro e w3 ⟨rfl, nq3, rfl⟩
    have hS := hS3 nq3
    clear hS3
    have HM3 := Lib.hid (HM.out.trans (Mv.drewN nq3))
    generalize ((w.alloc (.cells #[.pointer x, .pointer y] 75)).drewN nq3) = W at *
    obtain ⟨A, c, hi, hown, hog⟩ := hS.at
    have k1 : W.cell? ⟨b, 1, none⟩ = some (.slice A L.length c) := hi.cell 1
    have hne := out_ne hown hi
    have hlt := hS.lt
    have HS3 := Lib.hid hS
    have HI := Lib.hid hi
    have HOG := Lib.hid hog
    have HNE := Lib.hid hne
    have HOWN0 := Lib.hid hown
    clear hS hi hog hne hown HS HM
    obtain ⟨i0, hi0, hz0, hz1, hz2⟩ := info_parts info_u8
    go_wp2_with (at_builtin; go_loud (refine wpList_append_lies _ rfl _ _ 47 rfl (b + 1) 5 i0 _ 1 1 Tryd.underlying47 hi0 hz0 hz1 hz2 rfl (by omega) (.slice A L.length c) L.length (cellsOf L) rfl (HOWN0.out.alloc _) ⟨W.heap.size, 0, none⟩ 1 1 [.int .u8 (t : Int)] rfl rfl (World.news_of_block (cs := #[.int .u8 (t : Int)]) (t := 5) (fr := (0, 0)) (heap_alloc_new W _)) (by simp [Value.oneCell']) (by omega) (by unfold maxLen; omega) (by omega) (by simp; omega) (W.heap.size + 1) (by simp) ?_; intro gg cap w4 hown2 hgrow hat _; have hi2 := ((HI.out.alloc (.cells #[.int .u8 (t : Int)] 5)).grown hgrow (Ne.symm HNE.out)); have g0 : w4.cell? ⟨b, 1, none⟩ = some (.slice A L.length c) := hi2.cell 1; have g1 : w4.frozen? ⟨b, 1, none⟩ = false := hi2.free 1; have HOWN := Lib.hid hown2; have HGROW := Lib.hid hgrow; have HAT := Lib.hid hat; clear hi2 hown2 hgrow hat))
    go_ret
    have hl2 : (L ++ [UInt8.ofNat t]).length = L.length + 1 := by simp
    have hc2 : cellsOf L ++ [Value.int .u8 (t : Int)] = cellsOf (L ++ [UInt8.ofNat t]) := by
      have h8 : (UInt8.ofNat t).toNat = t := by
        have h := UInt8.toNat_ofNat' (n := t)
        omega
      rw [cellsOf_snoc, h8]
    have hp := HS3.out.put (L2 := L ++ [UInt8.ofNat t]) ((But.refl [] W).alloc _) HI.out HOG.out HGROW.out (by rw [← hc2]; exact HOWN.out) hl2 (fun g e => by
      rcases HAT.out with h | h
      · left; rw [h]; exact e
      · right
        have : gg = g := by simpa [Value.ownBlock] using e
        omega) (by have := HBIG.out; rw [hl2]; omega)
    exact GotE.of rfl (HM3.out.trans hp.2) (fun e => absurd rfl e) (fun _ => ⟨by rw [HR.out, when_not (by have := HBIG.out; omega)]; rfl, hp.1⟩)

theorem rLen_le {t n q : Nat} (h : rLen t s p = .ok (n, q)) (ht : 256 < t) : 3 ≤ n ∧ n ≤ 258 := by
  unfold rLen at h
  obtain ⟨h1, h2⟩ := ok_when h
  obtain ⟨⟨x, q1⟩, h3, h4⟩ := ok_bind h2
  have hx := rBits_lt h3
  have hl := lenBase_le ht (by omega)
  unfold rPure at h4
  injection h4 with h4
  injection h4 with h4 _
  subst h4
  dsimp only
  omega
theorem rDst_le {d : List Int} {n q : Nat} (h : rDst d s p = .ok (n, q)) : 1 ≤ n ∧ n ≤ 32768 := by
  unfold rDst at h
  obtain ⟨⟨u, q1⟩, h1, h2⟩ := ok_bind h
  obtain ⟨hu, h3⟩ := ok_when h2
  obtain ⟨⟨x, q2⟩, h4, h5⟩ := ok_bind h3
  have hx := rBits_lt h4
  have hl := dstBase_le (u := u) (by dsimp only at hu; omega)
  unfold rPure at h5
  injection h5 with h5
  injection h5 with h5 _
  subst h5
  dsimp only at hx ⊢
  omega
theorem bits_byte (x : UInt8) : IntKind.u8.wrap (x.toNat : Int) = (x.toNat : Int) := by
  have := x.toNat_lt
  rw [IntKind.wrap_u8]; omega
set_option maxHeartbeats 1000000 in
theorem match_any {d : List Int} {bd : Nat} {x : Option Addr} {tv : Value} (h : SS w b rb db og s p M L fs fd) (hc : chk d = 0) (hT : Keep (Foot b rb og) w fun w' => TT w' bd d) (t : Nat) (ht : 256 < t)
    (htv : tv = .agg #[.pointer x, .pointer (some ⟨bd, 0, none⟩)]) :
    Calls Tryd.prog 84 #[.pointer (some ⟨b, 0, none⟩), .int .i64 t, tv] w (GotE w b rb db og s M fs fd (rMatch d M t L s p)) := by
  subst htv
  have h1 := h.alloc (.cells #[.pointer x, .pointer (some ⟨bd, 0, none⟩)] 75)
  have m1 := Mv.alloc (b := b) (rb := rb) (w := w) (og := og) (.cells #[.pointer x, .pointer (some ⟨bd, 0, none⟩)] 75)
  have hlen := matchLen_any h1 t ht
  have hI := Is.fresh w 75 #[.pointer x, .pointer (some ⟨bd, 0, none⟩)]
  have hwb := h.lt
  have hft : w.heap.size ∉ Foot b rb og := fun hk => by
    have h2 := h.hr
    unfold Foot at hk
    rcases List.mem_cons.1 hk with e | hk
    · omega
    rcases List.mem_cons.1 hk with e | hk
    · omega
    have := h.out w.heap.size (by simpa using hk)
    omega
  have HFT := Lib.hid hft
  have HL := Lib.hid hlen
  clear hft
  have HM1 := Lib.hid m1
  have HT := Lib.hid (m1.keep hT)
  have HC := Lib.hid hc
  have HI := Lib.hid hI
  clear h h1 m1 hlen hT hc hI
  go_enter Tryd.func84, Tryd.ntmps84
  go_wp2_with fail
  refine HL.out.mono ?_
  rintro e w1 ⟨n, er, q, rfl, hMv, he1, he2⟩
  have hI1 := HI.out.but hMv.but (fun hk => by
    rcases hMv.foot _ hk with h | h <;> rcases List.mem_cons.1 hk with h2 | h2
    all_goals first | omega | exact HFT.out hk)
  have HI1 := Lib.hid hI1
  have HM := Lib.hid (HM1.out.trans hMv)
  have HT1 := Lib.hid (hMv.keep HT.out)
  have HE1 := Lib.hid he1
  have HE2 := Lib.hid he2
  have k0 : w1.cell? ⟨w.heap.size, 0, none⟩ = some (.pointer x) := hI1.cell 0
  have k1 : w1.cell? ⟨w.heap.size, 1, none⟩ = some (.pointer (some ⟨bd, 0, none⟩)) := hI1.cell 1
  clear hI1 hMv he1 he2 HI
  by_cases her : er = 0
  · obtain ⟨hr, hS⟩ := HE2.out her
    have hdst := matchDist_any (x := x) hS HC.out HT1.out
    have HRR := Lib.hid hr
    have HD := Lib.hid hdst
    clear hr hS HE1 HE2 hdst
    subst her
    go_wp2_with fail
    refine HD.out.mono ?_
    rintro e w2 ⟨far, er, q2, rfl, hMv, he1, he2⟩
    have HM2 := Lib.hid (HM.out.trans hMv)
    have HE1 := Lib.hid he1
    have HE2 := Lib.hid he2
    have hr2 : rMatch d M t L s p = rBind (rDst d) (fun far => rWhen (L.length < far) 15 (rWhen (M < (L.length : Int) + (n : Nat)) 5 (rPure (matchOut far n L)))) s q := by unfold rMatch; exact bind_val HRR.out
    have HR2 := Lib.hid hr2
    have hn := rLen_le HRR.out ht
    clear hMv he1 he2 hr2 k0 k1 HD HI1 HT1
    by_cases her : er = 0
    · obtain ⟨hr, hS⟩ := HE2.out her
      have hf := rDst_le hr
      have hr3 : rMatch d M t L s p = rWhen (L.length < far) 15 (rWhen (M < (L.length : Int) + (n : Nat)) 5 (rPure (matchOut far n L))) s q2 := by rw [HR2.out]; exact bind_val hr
      have HR3 := Lib.hid hr3
      have HS := Lib.hid hS
      have hLb : L.length ≤ 1099511627776 := by have := hS.hM; have := hS.hL; omega
      obtain ⟨A, c, hi, _, _⟩ := hS.at
      have k1 : w2.cell? ⟨b, 1, none⟩ = some (.slice A L.length c) := hi.cell 1
      have hrm := hS.room n (by omega)
      have HRM := Lib.hid hrm
      clear hr hS hr3 HE1 HE2 hrm hi
      subst her
      by_cases hfar : L.length < far
      · have HFAR := Lib.hid hfar
        have d1 : decide (L.length < far) = true := by simpa using hfar
        clear hfar
        go_wp2
        go_ret
        exact GotE.of (L' := []) (q := 0) rfl HM2.out (fun _ => by rw [HR3.out, when_yes HFAR.out]) (fun e => absurd e (by decide))
      · have HFAR := Lib.hid hfar
        have d1 : decide (L.length < far) = false := by simpa using hfar
        clear hfar
        by_cases hbig : M < (L.length : Int) + (n : Int)
        · have HBIG := Lib.hid hbig
          have hrm := HRM.out
          rw [if_pos hbig] at hrm
          have HRM := Lib.hid hrm
          clear hrm hbig
          go_wp2_with fail
          refine HRM.out.mono ?_
          rintro e w3 ⟨rfl, nq3, rfl⟩
          go_wp2
          go_ret
          exact GotE.of (L' := []) (q := 0) rfl (HM2.out.trans (Mv.drewN _)) (fun _ => by rw [HR3.out, when_not (by have := HFAR.out; omega), when_yes (by have := HBIG.out; omega)]) (fun e => absurd e (by decide))
        · have HBIG := Lib.hid hbig
          have hrm := HRM.out
          rw [if_neg hbig] at hrm
          have HRM := Lib.hid hrm
          clear hrm hbig
          go_wp2_with fail
          refine HRM.out.mono ?_
          rintro e w3 ⟨rfl, nq3, rfl⟩
          have HS3 := Lib.hid (HS.out.drewN nq3)
          have HM3 := Lib.hid (HM2.out.trans (Mv.drewN nq3))
          clear k1 d1
          generalize w2.drewN nq3 = w3 at *
          go_wp2
          go_loopw [45] (fun iv wr => ∃ (j : Nat) (og1 : Option Nat), j ≤ n ∧ iv = .int .i64 j ∧ SS wr b rb db og1 s q2 M (matchOut far j L) fs fd ∧ Mv b rb w wr og og1) (fun iv _ => n - (intOf iv).toNat)
          case atStart => exact ⟨0, og, Nat.zero_le _, rfl, HS3.out, HM3.out⟩
          case round =>
            obtain ⟨j, og1, hj, rfl, hS, hMv⟩ := hrel
            clear HS3 HM3 HRM HS HM HM2 HM1
            have HMV := Lib.hid hMv
            clear hMv
            by_cases hlt : j < n
            · have hms := matchOut_succ far j L
              have hml := length_matchOut far j L
              generalize hL1 : matchOut far j L = L1 at *
              have HMS := Lib.hid hms
              have HL1 := Lib.hid hL1
              have hk1 : far ≤ L1.length := by have := HFAR.out; omega
              have hk2 : L1.length ≤ 1099511627776 + 258 := by omega
              obtain ⟨i, hie⟩ : ∃ i, i = L1.length - far := ⟨_, rfl⟩
              obtain ⟨A, c, hi, hown, hog⟩ := hS.at
              obtain ⟨g, rfl, hbg, hgl, hcell⟩ := out_byte hown (i := i) (by omega)
              have k1 : wr.cell? ⟨b, 1, none⟩ = some (.slice (some ⟨g, 0, none⟩) L1.length c) := hi.cell 1
              have hne := out_ne hown hi
              have hblt := hS.lt
              have hby := bits_byte (L1.getD i 0)
              obtain ⟨y, hy⟩ : ∃ y, y = L1.getD i 0 := ⟨_, rfl⟩
              rw [← hy] at hcell hby
              have HY := Lib.hid hy
              have HS := Lib.hid hS
              have HI := Lib.hid hi
              have HOG := Lib.hid hog
              have HNE := Lib.hid hne
              have HOWN0 := Lib.hid hown
              have HML := Lib.hid hml
              have ei : ((L1.length : Int) - (far : Int)) = (i : Int) := by omega
              have ew : IntKind.i64.wrap (i : Int) = (i : Int) := IntWalk.i64_in _ (by omega)
              have b0 : (0 : Int) ≤ (i : Int) := by omega
              have b1 : (i : Int) < (L1.length : Int) := by omega
              have HIE := Lib.hid hie
              clear hms hL1 hS hi hog hne hown hy hml hie
              obtain ⟨i0, hi0, hz0, hz1, hz2⟩ := info_parts info_u8
              go_wp2
              go_region_law (go_loud (refine step_append_lies _ (by rfl) _ _ _ (by rfl) (b + 1) 5 i0 _ 1 1 Tryd.underlying47 hi0 hz0 hz1 hz2 rfl (by omega) (.slice (some ⟨g, 0, none⟩) L1.length c) L1.length (cellsOf L1) (by rfl) ((HOWN0.out.alloc _).drew) ⟨wr.heap.size, 0, none⟩ 1 1 [.int .u8 (y.toNat : Int)] (by rfl) (by rfl) (World.news_of_block (cs := #[.int .u8 (y.toNat : Int)]) (t := 5) (fr := (0, 0)) (heap_alloc_new wr _)) (by simp [Value.oneCell']) (by omega) (by unfold maxLen; omega) (by omega) (by simp; omega) (wr.heap.size + 1) (by simp) ?_; intro gg cap w4 hown2 hgrow hat _; have hi2 := (((HI.out.alloc (.cells #[.int .u8 (y.toNat : Int)] 5)).drew).grown hgrow (Ne.symm HNE.out)); have g0 : w4.cell? ⟨b, 1, none⟩ = some (.slice (some ⟨g, 0, none⟩) L1.length c) := hi2.cell 1; have g1 : w4.frozen? ⟨b, 1, none⟩ = false := hi2.free 1; have HOWN := Lib.hid hown2; have HGROW := Lib.hid hgrow; have HAT := Lib.hid hat; clear hi2 hown2 hgrow hat))
              all_goals
                go_wp2
                go_roundw
                case rel =>
                  have hp := HS.out.put (L2 := L1 ++ [y]) (((But.refl [] wr).alloc _).drew) HI.out HOG.out HGROW.out (by rw [cellsOf_snoc]; exact HOWN.out) (by simp) (fun g e => by
                    rcases HAT.out with h | h
                    · left; rw [h]; exact e
                    · right
                      have : gg = g := by simpa [Value.ownBlock] using e
                      omega) (by have := HBIG.out; have := HML.out; simp; omega)
                  refine ⟨j + 1, _, by omega, by go_num, ?_, HMV.out.trans hp.2⟩
                  rw [HMS.out, ← HIE.out, ← HY.out]
                  exact hp.1
                case measure => simp [intOf]; omega
            · obtain rfl : j = n := by omega
              have HS := Lib.hid hS
              clear hS
              go_wp2
              go_ret
              exact GotE.of rfl HMV.out (fun e => absurd rfl e) (fun _ => ⟨by rw [HR3.out, when_not (by have := HFAR.out; omega), when_not (by have := HBIG.out; omega)]; rfl, HS.out⟩)
    · have d2 : (er != 0) = true := by simpa using her
      have HER := Lib.hid her
      clear her
      go_wp2
      go_ret
      exact GotE.of (L' := []) (q := 0) rfl HM2.out (fun _ => by rw [HR2.out]; exact bind_err (HE1.out HER.out)) (fun e => absurd e HER.out)
  · have d2 : (er != 0) = true := by simpa using her
    have HER := Lib.hid her
    clear her
    go_wp2
    go_ret
    exact GotE.of (L' := []) (q := 0) rfl HM.out (fun _ => by unfold rMatch; exact bind_err (HE1.out HER.out)) (fun e => absurd e HER.out)
end
end Go.Proofs.YtjeeiodpdfbgmaaDoor
namespace Go.Proofs.YtjeeiodpdfbgmaaDoor
set_option maxRecDepth 100000
theorem bit_nat (c i : Nat) : (((c : Nat) : Int) / 2 ^ i % 2 ^ (1 : Int).toNat).toNat = c / 2 ^ i % 2 := by
  have e : ((2 : Int) ^ i) = ((2 ^ i : Nat) : Int) := by simp
  rw [e]
  generalize 2 ^ i = q
  have : (1 : Int).toNat = 1 := rfl
  rw [this]
  omega
theorem layG_succ (c i X N : Nat) : layG c (i + 1) X N = layG c i (X + (c / 2 ^ i % 2) * 2 ^ N) (N + 1) := by
  rw [layG, layN_one]
  unfold layX
  rw [if_neg (by omega), bit_nat]
theorem layG_spec (c : Nat) : ∀ n X N, X < 2 ^ N → (layG c n X N).1 < 2 ^ (N + n) ∧ (layG c n X N).1 % 2 ^ N = X ∧ ∀ i, i < n → bitsAt (layG c n X N).1 (N + i) 1 = c / 2 ^ (n - 1 - i) % 2
  | 0, X, N, h => ⟨h, Nat.mod_eq_of_lt h, fun i hi => absurd hi (Nat.not_lt_zero _)⟩
  | n + 1, X, N, h => by
    rw [layG_succ]
    have hb : c / 2 ^ n % 2 < 2 := Nat.mod_lt _ (by decide)
    generalize hB : c / 2 ^ n % 2 = b at *
    have hX1 : X + b * 2 ^ N < 2 ^ (N + 1) := by
      rw [Nat.pow_succ]
      have := Nat.mul_le_mul_right (2 ^ N) (show b ≤ 1 by omega)
      omega
    obtain ⟨h1, h2, h3⟩ := layG_spec c n (X + b * 2 ^ N) (N + 1) hX1
    generalize (layG c n (X + b * 2 ^ N) (N + 1)).1 = r at *
    refine ⟨by rw [show N + (n + 1) = N + 1 + n from by omega]; exact h1, ?_, fun i hi => ?_⟩
    · have : r % 2 ^ N = r % 2 ^ (N + 1) % 2 ^ N := by rw [Nat.pow_succ, Nat.mod_mul_right_mod]
      rw [this, h2, Nat.add_mul_mod_self_right, Nat.mod_eq_of_lt h]
    · cases i with
      | zero =>
        rw [Nat.add_zero, ← bitsAt_mod r N 1 (N + 1) (Nat.le_refl _), h2]
        unfold bitsAt
        rw [Nat.add_mul_div_right _ _ (Nat.two_pow_pos N), Nat.div_eq_of_lt h, Nat.zero_add, show n + 1 - 1 - 0 = n from by omega, hB]
        omega
      | succ i =>
        rw [show N + (i + 1) = N + 1 + i from by omega, h3 i (by omega), show n + 1 - 1 - (i + 1) = n - 1 - i from by omega]

/-- A symbol that has a code, by its length and its place among those. -/
theorem has_in {l : List Int} (hc : chk l = 0) {s : Int} (h : has l s) : ∃ n j, ∃ hj : j < (inN l (n + 1)).length, n < 15 ∧ (inN l (n + 1))[j] = s.toNat ∧ l.getD s.toNat 0 = ((n + 1 : Nat) : Int) ∧ (codes l).getD s.toNat 0 = ((2 * gN l n + j : Nat) : Int) := by
  have hok := chk_okay hc
  obtain ⟨h0, h1, h2⟩ : 0 ≤ s ∧ s < l.length ∧ l.getD s.toNat 0 ≠ 0 := h
  have hl : s.toNat < l.length := by omega
  have hx := hok _ (List.getElem_mem hl)
  rw [← getD_get hl] at hx
  obtain ⟨n, hn⟩ : ∃ n : Nat, l.getD s.toNat 0 = ((n + 1 : Nat) : Int) := ⟨(l.getD s.toNat 0).toNat - 1, by omega⟩
  obtain ⟨j, hj, e⟩ := List.getElem_of_mem (show s.toNat ∈ inN l (n + 1) from mem_inLen.2 ⟨hl, hn⟩)
  have hcode := code_in (l := l) (n := n) (j := j) (by omega) hj
  rw [e] at hcode
  exact ⟨n, j, hj, by omega, e, hn, hcode⟩
theorem gN_grow (l : List Int) (m : Nat) : ∀ k, m + k ≤ 15 → gN l m * 2 ^ k ≤ gN l (m + k)
  | 0, _ => by simp
  | k + 1, h => by
    have := gN_grow l m k (by omega)
    rw [← Nat.add_assoc, gN_succ l (m + k) (by omega), Nat.pow_succ, ← Nat.mul_assoc]; omega
theorem code_small {l : List Int} (hc : chk l = 0) {t n c : Nat} (ht : t < l.length) (hl : l.getD t 0 = ((n + 1 : Nat) : Int)) (hn : n < 15) (hcode : (codes l).getD t 0 = (c : Int)) : c < 2 ^ (n + 1) := by
  have hm : t ∈ ord l := mem_ordTo.2 ⟨ht, by omega, by omega⟩
  obtain ⟨p, r, h⟩ := List.append_of_mem hm
  have h1 := code_lt h (chk_zero hc).2.2.1
  have h2 := code_at h
  rw [hcode] at h2
  rw [hl] at h1 h2
  rw [Int.toNat_natCast] at h1 h2
  have : c = kp l p / 2 ^ (15 - (n + 1)) := by exact_mod_cast h2
  omega
theorem next_found {l : List Int} (hc : chk l = 0) {s : ByteArray} {t n j p : Nat} (hn : n < 15) (hj : j < (inN l (n + 1)).length) (ht : (inN l (n + 1))[j] = t)
    (hb : ∀ i, i < n + 1 → bitsErr s (p + i) 1 = 0 ∧ bitsVal s (p + i) 1 = (2 * gN l n + j) / 2 ^ (n - i) % 2) : nextS l s p = (t, 0, p + (n + 1)) := by
  have hlen := (inN_len (List.getElem_mem hj))
  rw [ht] at hlen
  have hcode := code_in (l := l) hn hj
  rw [ht] at hcode
  have hsm := code_small hc hlen.1 hlen.2 hn hcode
  have hlo : n + 1 ≤ longest l := by
    have h1 := was_top l t (mem_ordTo.2 ⟨hlen.1, by omega, by omega⟩)
    have h2 := top_longest hc
    omega
  have main : ∀ d i, i + d = n → nextG l s (longest l - i) (i + 1) ((2 * gN l n + j) / 2 ^ (n + 1 - i)) (p + i) = (t, 0, p + (n + 1)) := by
    intro d
    induction d with
    | zero =>
      intro i hi
      obtain rfl : i = n := by omega
      obtain ⟨h1, h2⟩ := hb i (by omega)
      rw [show longest l - i = (longest l - (i + 1)) + 1 from by omega, nextG_succ, if_neg (by simp [h1]), h2]
      have e : 2 * ((2 * gN l i + j) / 2 ^ (i + 1 - i)) + (2 * gN l i + j) / 2 ^ (i - i) % 2 = 2 * gN l i + j := by
        rw [Nat.sub_self, Nat.pow_zero, Nat.div_one, show i + 1 - i = 1 from by omega]; omega
      rw [e, findS_some hn hj]
      show ((inN l (i + 1))[j], (0 : Int), bitsGo s (p + i) 1) = _
      rw [ht]
      unfold bitsGo
      rw [if_pos h1]; rfl
    | succ d ih =>
      intro i hi
      obtain ⟨h1, h2⟩ := hb i (by omega)
      rw [show longest l - i = (longest l - (i + 1)) + 1 from by omega, nextG_succ, if_neg (by simp [h1]), h2]
      have e : 2 * ((2 * gN l n + j) / 2 ^ (n + 1 - i)) + (2 * gN l n + j) / 2 ^ (n - i) % 2 = (2 * gN l n + j) / 2 ^ (n + 1 - (i + 1)) := by
        rw [show n + 1 - i = (n - i) + 1 from by omega, show n + 1 - (i + 1) = n - i from by omega, Nat.pow_succ, ← Nat.div_div_eq_div_mul]; omega
      have hno : findS l (i + 1) ((2 * gN l n + j) / 2 ^ (n + 1 - (i + 1))) = none := by
        apply findS_none (by omega)
        right
        rw [Nat.le_div_iff_mul_le (Nat.two_pow_pos _)]
        have h3 := gN_grow l (i + 1) (n - (i + 1)) (by omega)
        rw [show i + 1 + (n - (i + 1)) = n from by omega] at h3
        rw [show n + 1 - (i + 1) = (n - (i + 1)) + 1 from by omega, Nat.pow_succ, ← Nat.mul_assoc]
        omega
      rw [e, hno]
      show nextG l s (longest l - (i + 1)) (i + 1 + 1) _ (bitsGo s (p + i) 1) = _
      have eg : bitsGo s (p + i) 1 = p + (i + 1) := by unfold bitsGo; rw [if_pos h1]; rfl
      rw [eg]
      exact ih (i + 1) (by omega)
  have h := main n 0 (by omega)
  rw [Nat.sub_zero, Nat.sub_zero, Nat.div_eq_of_lt hsm] at h
  exact h

theorem layS_spec {l : List Int} (hc : chk l = 0) {s : Int} {X N : Nat} (hX : X < 2 ^ N) : (layS l s X N).1 < 2 ^ (layS l s X N).2 ∧ (layS l s X N).1 % 2 ^ N = X ∧ N ≤ (layS l s X N).2 := by
  unfold layS
  by_cases h : has l s
  · rw [if_pos h]
    obtain ⟨n, j, hj, hn, _, hl, hcode⟩ := has_in hc h
    rw [hcode]
    have := layG_spec (2 * gN l n + j) (l.getD s.toNat 0).toNat X N hX
    have e := layG_len ((2 * gN l n + j : Nat) : Int) (l.getD s.toNat 0).toNat X N
    rw [e]
    exact ⟨this.1, this.2.1, by omega⟩
  · rw [if_neg h]; exact ⟨hX, Nat.mod_eq_of_lt hX, Nat.le_refl _⟩
theorem num_textOf (X N : Nat) (h : X < 2 ^ N) : num (textOf X N).data.toList = X := by
  have : (textOf X N).data.toList = bytesOf ((N + 7) / 8) X := rfl
  rw [this, num_bytesOf, p256]
  exact Nat.mod_eq_of_lt (Nat.lt_of_lt_of_le h (Nat.pow_le_pow_right (by decide) (by omega)))
end Go.Proofs.YtjeeiodpdfbgmaaDoor
namespace Go.Proofs.YtjeeiodpdfbgmaaDoor
set_option maxRecDepth 100000
def lzCopy (far : Nat) : Nat → List UInt8 → List UInt8
  | 0, out => out
  | n + 1, out => lzCopy far n (out ++ [out.getD (out.length - far) 0])
theorem take_more {l : List UInt8} {i : Nat} (h : i < l.length) : l.take i ++ [l.getD i 0] = l.take (i + 1) := by
  rw [List.take_succ_eq_append_getElem h, List.getD_eq_getElem?_getD, List.getElem?_eq_getElem h]; rfl
theorem copy_take (l : List UInt8) (d : Nat) (hd : 1 ≤ d) : ∀ n i, d ≤ i → i + n ≤ l.length → (∀ k, k < n → l.getD (i + k) 0 = l.getD (i + k - d) 0) → lzCopy d n (l.take i) = l.take (i + n)
  | 0, i, _, _, _ => rfl
  | n + 1, i, h1, h2, h3 => by
    have hl : (l.take i).length = i := by simp; omega
    have e : (l.take i).getD ((l.take i).length - d) 0 = l.getD i 0 := by
      have h4 := h3 0 (by omega)
      rw [Nat.add_zero] at h4
      rw [hl, h4, List.getD_eq_getElem?_getD, List.getD_eq_getElem?_getD, List.getElem?_take_of_lt (by omega)]
    rw [lzCopy, e, take_more (by omega), copy_take l d hd n (i + 1) (by omega) (by omega) (fun k hk => by
      have := h3 (k + 1) (by omega)
      rw [show i + 1 + k = i + (k + 1) from by omega]; exact this)]
    congr 1; omega
end Go.Proofs.YtjeeiodpdfbgmaaDoor
set_option linter.unusedVariables false
namespace Go.Proofs.YtjeeiodpdfbgmaaDoor
set_option maxRecDepth 100000
theorem layB_ext {q : Nat × Nat} {v n : Nat} (hn : n ≤ 24) (hv : v < 2 ^ n) (hq : q.1 < 2 ^ q.2) : Ext q (layB q v n) := by
  rw [layB_eq hn hv]
  refine ⟨by dsimp only; omega, ?_, ?_⟩
  · dsimp only; rw [Nat.add_mul_mod_self_right, Nat.mod_eq_of_lt hq]
  · dsimp only
    rw [Nat.pow_add]
    have := Nat.mul_le_mul_right (2 ^ q.2) (show v + 1 ≤ 2 ^ n by omega)
    rw [Nat.add_mul, Nat.mul_comm (2 ^ n)] at this
    omega
/-- The bytes begin with these bits. -/
def Says (s : ByteArray) (r : Nat × Nat) : Prop := r.1 < 2 ^ r.2 ∧ Pre (textOf r.1 r.2) s
theorem says_bit {s : ByteArray} {r : Nat × Nat} (h : Says s r) {p n : Nat} (hn : n ≤ 24) (hp : p + n ≤ r.2) : bitsErr s p n = 0 ∧ bitsVal s p n = bitsAt r.1 p n ∧ bitsGo s p n = p + n := by
  have he : bitsErr (textOf r.1 r.2) p n = 0 := by
    unfold bitsErr
    rw [if_neg (by omega), if_neg]
    rw [textOf_size]; omega
  obtain ⟨h1, h2, h3⟩ := bits_pre h.2 (p := p) (n := (n : Int)) (by rw [he]; decide)
  rw [he] at h1
  refine ⟨h1, ?_, ?_⟩
  · rw [h2]
    unfold bitsVal
    rw [if_pos he, num_textOf _ _ h.1, Int.toNat_natCast]
  · unfold bitsGo; rw [if_pos h1, Int.toNat_natCast]
theorem ext_bits {q r : Nat × Nat} (h : Ext q r) {p n : Nat} (hp : p + n ≤ q.2) : bitsAt r.1 p n = bitsAt q.1 p n := by
  rw [← bitsAt_mod r.1 p n q.2 hp, h.2.1]
/-- Bits that were laid are read. -/
theorem bits_back {s : ByteArray} {q r : Nat × Nat} {v n : Nat} (hs : Says s r) (hn : n ≤ 24) (hv : v < 2 ^ n) (hq : q.1 < 2 ^ q.2) (hr : Ext (layB q v n) r) :
    bitsErr s q.2 n = 0 ∧ bitsVal s q.2 n = v ∧ bitsGo s q.2 n = (layB q v n).2 := by
  have he := layB_eq (q := q) hn hv
  have hl : q.2 + n ≤ r.2 := by have := hr.1; rw [he] at this; exact this
  obtain ⟨h1, h2, h3⟩ := says_bit hs hn hl
  refine ⟨h1, ?_, by rw [h3, he]⟩
  rw [h2, ext_bits hr (by rw [he]; exact Nat.le_refl _), he]
  unfold bitsAt
  dsimp only
  rw [Nat.add_mul_div_right _ _ (Nat.two_pow_pos _), Nat.div_eq_of_lt hq, Nat.zero_add, Nat.mod_eq_of_lt hv]
theorem layC_ext {l : List Int} (hc : chk l = 0) {q : Nat × Nat} (hq : q.1 < 2 ^ q.2) (t : Nat) : Ext q (layC l q t) := by
  obtain ⟨h1, h2, h3⟩ := layS_spec hc (s := (t : Int)) hq
  exact ⟨h3, h2, h1⟩
/-- A code that was laid is read. -/
theorem code_back {l : List Int} (hc : chk l = 0) {s : ByteArray} {q r : Nat × Nat} {t : Nat} (hs : Says s r) (hh : has l t) (hq : q.1 < 2 ^ q.2) (hr : Ext (layC l q t) r) : nextS l s q.2 = (t, 0, (layC l q t).2) := by
  obtain ⟨n, j, hj, hn, ht, hl, hcode⟩ := has_in hc hh
  rw [Int.toNat_natCast] at ht hl hcode
  have e3 : layC l q t = layG ((2 * gN l n + j : Nat) : Int) (n + 1) q.1 q.2 := by
    unfold layC layS; rw [if_pos hh, Int.toNat_natCast, hcode, hl, Int.toNat_natCast]
  have hsp := layG_spec (2 * gN l n + j) (n + 1) q.1 q.2 hq
  have hlen := layG_len ((2 * gN l n + j : Nat) : Int) (n + 1) q.1 q.2
  have hle := hr.1
  rw [e3, hlen] at hle
  rw [e3, hlen]
  refine next_found hc hn hj ht fun i hi => ?_
  obtain ⟨h1, h2, h3⟩ := says_bit hs (p := q.2 + i) (n := 1) (by omega) (by omega)
  refine ⟨h1, ?_⟩
  have h2' : bitsVal s (q.2 + i) 1 = bitsAt r.1 (q.2 + i) 1 := h2
  rw [h2', ext_bits hr (p := q.2 + i) (n := 1) (by rw [e3, hlen]; omega), e3, hsp.2.2 i hi, show n + 1 - 1 - i = n - i from by omega]

theorem layT_ext {l d : List Int} (hl : chk l = 0) (hd : chk d = 0) {q : Nat × Nat} (hq : q.1 < 2 ^ q.2) {t : Tk} (ht : tkHas l d t) : Ext q (layT l d q t) := by
  unfold layT
  unfold tkHas at ht
  by_cases h0 : t.1 = 0
  · rw [if_pos h0]; exact layC_ext hl hq _
  · rw [if_neg h0] at ht ⊢
    obtain ⟨a1, a2, a3, a4, a5, a6⟩ := ht
    obtain ⟨b1, b2, b3, b4⟩ := lsym_all t.1 (by omega) a1
    obtain ⟨c1, c2, c3⟩ := dsym_all t.2.1 (by omega) a3
    have e1 := layC_ext hl hq (lsym t.1)
    have e2 := layB_ext (v := t.1 - lenBase (lsym t.1)) (n := lenBits (lsym t.1)) (by have := lenBits_le (t := lsym t.1) (by omega) b2; omega) b4 e1.2.2
    have e3 := layC_ext hd e2.2.2 (dsym t.2.1)
    have e4 := layB_ext (v := t.2.1 - dstBase (dsym t.2.1)) (n := dstBits (dsym t.2.1)) (by have := dstBits_le (u := dsym t.2.1) c1; omega) c3 e3.2.2
    exact ((e1.trans e2).trans e3).trans e4
theorem layTs_ext {l d : List Int} (hl : chk l = 0) (hd : chk d = 0) : ∀ (ts : List Tk) (q : Nat × Nat), q.1 < 2 ^ q.2 → (∀ t ∈ ts, tkHas l d t) → Ext q (layTs l d q ts)
  | [], q, hq, _ => Ext.refl hq
  | t :: ts, q, hq, h => by
    have e := layT_ext hl hd hq (h t (by simp))
    exact e.trans (layTs_ext hl hd ts _ e.2.2 (fun t ht => h t (by simp [ht])))
/-- What a token says. -/
def sayT (out : List UInt8) (t : Tk) : List UInt8 := if t.1 = 0 then out ++ [UInt8.ofNat t.2.2] else matchOut t.2.1 t.1 out
def sayTs (out : List UInt8) (ts : List Tk) : List UInt8 := ts.foldl sayT out
def farOk : List UInt8 → List Tk → Prop
  | _, [] => True
  | out, t :: ts => (t.1 ≠ 0 → t.2.1 ≤ out.length) ∧ farOk (sayT out t) ts
theorem sayT_len (out : List UInt8) (t : Tk) : (sayT out t).length = out.length + spanTk t := by
  unfold sayT spanTk
  by_cases h : t.1 = 0
  · rw [if_pos h, h]; simp
  · rw [if_neg h, length_matchOut]; omega
theorem sayTs_len : ∀ (ts : List Tk) (out : List UInt8), out.length ≤ (sayTs out ts).length
  | [], _ => Nat.le_refl _
  | t :: ts, out => by
    have := sayTs_len ts (sayT out t)
    have h2 := sayT_len out t
    show out.length ≤ (sayTs (sayT out t) ts).length
    omega
/-- Tokens that were laid, and the symbol of the end, are read. -/
theorem toks_read {l d : List Int} (hl : chk l = 0) (hd : chk d = 0) (h256 : has l (256 : Nat)) {s : ByteArray} {r : Nat × Nat} (hs : Says s r) {most : Int} : ∀ (ts : List Tk) (f : Nat) (out : List UInt8) (q : Nat × Nat), ts.length < f → q.1 < 2 ^ q.2 →
    (∀ t ∈ ts, tkHas l d t) → farOk out ts → ((sayTs out ts).length : Int) ≤ most → Ext (layC l (layTs l d q ts) 256) r → symG l d most f out s q.2 = .ok (sayTs out ts, (layC l (layTs l d q ts) 256).2)
  | [], 0, _, _, hf, _, _, _, _, _ => by simp at hf
  | _ :: _, 0, _, _, hf, _, _, _, _, _ => by simp at hf
  | [], f + 1, out, q, _, hq, _, _, _, hr => sym_end (code_back hl hs h256 hq hr)
  | t :: ts, f + 1, out, q, hf, hq, hh, hfar, hm, hr => by
    have ht := hh t (by simp)
    have e0 := layT_ext hl hd hq ht
    have hh' : ∀ t ∈ ts, tkHas l d t := fun t ht => hh t (by simp [ht])
    have ets := layTs_ext hl hd ts _ e0.2.2 hh'
    have eend := layC_ext hl ets.2.2 256
    have hr' : Ext (layC l (layTs l d (layT l d q t) ts) 256) r := hr
    have htr : Ext (layT l d q t) r := (ets.trans eend).trans hr'
    have hlen := sayTs_len ts (sayT out t)
    have hsl := sayT_len out t
    have hm' : ((sayTs (sayT out t) ts).length : Int) ≤ most := hm
    have ih := toks_read hl hd h256 hs (most := most) ts f (sayT out t) (layT l d q t) (by simp at hf; omega) e0.2.2 hh' hfar.2 hm' hr'
    unfold tkHas at ht
    by_cases h0 : t.1 = 0
    · rw [if_pos h0] at ht
      have el : layT l d q t = layC l q t.2.2 := by unfold layT; rw [if_pos h0]
      have es : sayT out t = out ++ [UInt8.ofNat t.2.2] := by unfold sayT; rw [if_pos h0]
      have hn := code_back hl hs ht.2 hq (by rw [← el]; exact htr)
      have hspn : 1 ≤ spanTk t := by unfold spanTk; omega
      rw [sym_lit hn (by omega) (by omega)]
      rw [el, es] at ih
      have e1 : sayTs out (t :: ts) = sayTs (out ++ [UInt8.ofNat t.2.2]) ts := by rw [← es]; rfl
      have e2 : layTs l d q (t :: ts) = layTs l d (layC l q t.2.2) ts := by rw [← el]; rfl
      rw [e1, e2]; exact ih
    · rw [if_neg h0] at ht
      obtain ⟨a1, a2, a3, a4, a5, a6⟩ := ht
      obtain ⟨b1, b2, b3, b4⟩ := lsym_all t.1 (by omega) a1
      obtain ⟨c1, c2, c3⟩ := dsym_all t.2.1 (by omega) a3
      have el : layT l d q t = layB (layC d (layB (layC l q (lsym t.1)) (t.1 - lenBase (lsym t.1)) (lenBits (lsym t.1))) (dsym t.2.1)) (t.2.1 - dstBase (dsym t.2.1)) (dstBits (dsym t.2.1)) := by unfold layT; rw [if_neg h0]
      have hb1 : lenBits (lsym t.1) ≤ 24 := by have := lenBits_le (t := lsym t.1) (by omega) b2; omega
      have hb2 : dstBits (dsym t.2.1) ≤ 24 := by have := dstBits_le (u := dsym t.2.1) c1; omega
      have e1 := layC_ext hl hq (lsym t.1)
      have e2 := layB_ext (v := t.1 - lenBase (lsym t.1)) hb1 b4 e1.2.2
      have e3 := layC_ext hd e2.2.2 (dsym t.2.1)
      have e4 := layB_ext (v := t.2.1 - dstBase (dsym t.2.1)) hb2 c3 e3.2.2
      rw [el] at htr
      have n1 := code_back hl hs a5 hq (((e2.trans e3).trans e4).trans htr)
      obtain ⟨x1, x2, x3⟩ := bits_back hs hb1 b4 e1.2.2 ((e3.trans e4).trans htr)
      have n2 := code_back hd hs a6 e2.2.2 (e4.trans htr)
      obtain ⟨y1, y2, y3⟩ := bits_back hs hb2 c3 e3.2.2 htr
      have es : sayT out t = matchOut t.2.1 t.1 out := by unfold sayT; rw [if_neg h0]
      have ev : lenBase (lsym t.1) + (t.1 - lenBase (lsym t.1)) = t.1 := by omega
      have ew : dstBase (dsym t.2.1) + (t.2.1 - dstBase (dsym t.2.1)) = t.2.1 := by omega
      have hfr := hfar.1 h0
      have hsp : spanTk t = t.1 := by unfold spanTk; omega
      rw [sym_match n1 (by omega) b2]
      rw [← x3] at n2
      rw [match_goes x1 n2 (by omega) y1 (by rw [y2, ew]; omega) (by rw [x2, ev]; omega), x2, y2, y3, ev, ew]
      rw [el, es] at ih
      have e5 : sayTs out (t :: ts) = sayTs (matchOut t.2.1 t.1 out) ts := by rw [← es]; rfl
      have e6 : layTs l d q (t :: ts) = layTs l d (layB (layC d (layB (layC l q (lsym t.1)) (t.1 - lenBase (lsym t.1)) (lenBits (lsym t.1))) (dsym t.2.1)) (t.2.1 - dstBase (dsym t.2.1)) (dstBits (dsym t.2.1))) ts := by rw [← el]; rfl
      rw [e5, e6]; exact ih
end Go.Proofs.YtjeeiodpdfbgmaaDoor
