/- Several texts in one: DkW, RaO, DkO (what DiskPlays reach of them). -/
import Derived.Test.YtchpincoddghfaaK01
import Derived.Test.YtchpincoddghfaaK02
import Derived.Test.YtchpincoddghfaaK06
import Derived.Test.YtchpincoddghfaaK07
import Derived.Test.YtchpincoddghfaaK11
import Derived.Test.YtchpincoddghfaaK12
import Derived.Test.YtchpincoddghfaaK13
import Derived.Test.YtchpincoddghfaaK14
import Derived.Below
import Derived.BigQuiet
import Derived.BigRegion
import Derived.Deep.AppendLies
import Derived.Deep.Cut
import Derived.Deep.CutBlock
import Derived.Deep.CutRange
import Derived.Deep.DeepCutAuto
import Derived.Deep.Draws
import Derived.Deep.Onto
import Derived.Deep.QuietTactic
import Derived.Deep.RegionLaw
import Derived.Deep.RegionWith
import Derived.Deep.Slices
import Derived.Handy
import Derived.Laws.BitsAllLaws
import Derived.Laws.BitsLemmas
import Derived.Laws.BytesArg
import Derived.Laws.IdiomStrings
import Derived.Laws.MakeOwn
import Derived.Laws.OwnMore
import Derived.Laws.Rows
import Derived.Lib.Hide
import Derived.Maps.AppendAt
import Derived.OpenShut
import Derived.OrdersHeld
import Derived.OrdersIn
import Derived.Outline
import Derived.OwnWalk
import Derived.OwnWalkIn
import Derived.ProofKit
import Derived.RangeFuncCalls
import Derived.RegionTactic
import Derived.SizedLaws
import Derived.TacticsInMore
import Derived.Test.YtchpincoddghfaaChecked
import Derived.WalkKit
set_option maxRecDepth 100000
set_option linter.unusedVariables false
set_option maxRecDepth 100000
set_option linter.unusedVariables false
namespace Go.Proofs.Ytchpincoddghfaa
set_option maxRecDepth 100000
open Go Go.RowKit
theorem Nums.len {w : World} {A : Option Addr} {n : Nat} {L : List Nat} (h : Nums w A n L) : L.length = n := h.1
set_option maxHeartbeats 4000000 in
theorem diskPlays_walk {PD : World → Nat → List Nat → D16 → Prop} (C : DkC PD) {lim : Int} {A : Option Addr} {n ca : Nat} {L : List O16} {w : World} (hA : Ops16 w A n L) (hn : n ≤ 140737488351232) :
    Calls Try.prog 3 #[.int .i64 lim, .slice A n ca] w fun e w' => e = .returned (.bool true) ∧ Below w.heap.size w w' := by
  have HA := Lib.hid (awake16_of C)
  by_cases hlim : lim < 1 ∨ 16777216 < lim
  · have H1 := Lib.hid (C.new_bad w lim hlim)
    have H2 := Lib.hid (fun W => enew16_bad W hlim)
    clear hlim hA
    go_enter Try.func3, Try.ntmps3
    go_wp2_with fail
    refine H1.out.mono ?_
    rintro e w1 ⟨rfl, hB⟩
    have HB := Lib.hid hB
    clear hB
    go_wp2_with fail
    refine (H2.out _).mono ?_
    rintro e w2 ⟨rfl, rfl⟩
    go_wp2_with fail
    refine (HA.out _).mono ?_
    rintro e w2 ⟨rfl, hB⟩
    have HB := Lib.hid (HB.out.trans hB)
    clear hB
    go_wp2
    go_ret
    exact ⟨rfl, HB.out.belowD⟩
  · obtain ⟨lm, rfl⟩ : ∃ lm : Nat, lim = (lm : Int) := ⟨lim.toNat, by omega⟩
    have H1 := Lib.hid (C.new_ok w lm (by omega) (by omega))
    have H2 := Lib.hid (fun W => enew16_ok W (n := lm) (by omega) (by omega))
    have HOp : Hid (∀ v, But [] w v → Ops16 v A n L) := Lib.hid fun v hv => hA.but hv
    have HLen : Hid (L.length = n) := Lib.hid hA.len
    have HOp0 := Lib.hid hA
    clear hlim hA
    go_enter Try.func3, Try.ntmps3
    go_wp2_with fail
    refine H1.out.mono ?_
    rintro e w1 ⟨b1, S1, rfl, hp, hB, hS1⟩
    have HP1 := Lib.hid (show PD w1 b1 S1 (new16 lm) ∧ But [] w w1 ∧ ∀ x ∈ S1, w.heap.size ≤ x from ⟨hp, hB, hS1⟩)
    clear hp hB hS1
    go_wp2_with fail
    refine (H2.out _).mono ?_
    rintro e w2 ⟨b2, rfl, hr, hB, hb⟩
    have HI : Hid (In2 PD w w2 b1 b2 (new16 lm) (new16 lm)) := Lib.hid ⟨S1, [b2], C.but HP1.out.1 hB (fun _ _ => by simp), hr, HP1.out.2.1.trans hB, HP1.out.2.2, fun x hx => by
      have : x = b2 := by simpa using hx
      rw [this]; exact Nat.le_trans HP1.out.2.1.size hb, fun x hx hy => by
      have hxb : x = b2 := by simpa using hy
      have := C.lt HP1.out.1 x hx
      omega⟩
    clear hr hB hb HP1
    go_wp2_with fail
    go_loopw [9] (fun kv wr => ∃ (i : Nat) (σ : D16), i ≤ n ∧ i ≤ 200 ∧ kv = .int .i64 i ∧ Hid (σ.steps ≤ i) ∧ Hid (σ.armed ≤ 9223372036854775807) ∧ Hid (In2 PD w wr b1 b2 σ σ)) (fun kv _ => 200 - (intOf kv).toNat)
    case atStart => exact ⟨0, new16 lm, Nat.zero_le _, by omega, rfl, Lib.hid (Nat.le_refl _), Lib.hid (Nat.zero_le _), HI⟩
    case round =>
      clear HI
      obtain ⟨i, σ, hin, hi2, rfl, HST, HAR, HI⟩ := hrel
      have i0 : (0 : Int) ≤ (i : Int) := by omega
      by_cases hlt : i < n ∧ i < 200
      · obtain ⟨hlt1, hlt2⟩ := hlt
        have i1 : (i : Int) < (n : Int) := by omega
        have i2 : (i : Int) < 200 := by omega
        obtain ⟨x, hx⟩ : ∃ x, L[i]? = some x := ⟨_, List.getElem?_eq_getElem (by rw [HLen.out]; exact hlt1)⟩
        have hmem : x ∈ L := List.mem_of_getElem? hx
        have hkp := HOp0.out.keeps x hmem
        have HKP : Hid (∀ v, But [] w v → Zs v x.ka x.kn x.ks) := Lib.hid fun v hv => ((HOp.out v hv).keeps x hmem).1
        have HKF := Lib.hid hkp.2.1
        have HKB := Lib.hid hkp.2.2.2
        have HKC := Lib.hid hkp.2.2.1
        have hnl := next16_le (σ := σ) (HOp0.out.fit x hmem) HAR.out
        obtain ⟨g, o, rfl, hg, c0, c1, c2, c3, c4⟩ := (HOp.out _ HI.out.all).row i x hx
        obtain ⟨τ, hτ⟩ : ∃ τ, τ = (next16 σ x).1 := ⟨_, rfl⟩
        obtain ⟨a, ha⟩ : ∃ a, a = (next16 σ x).2 := ⟨_, rfl⟩
        have HTS : Hid (τ.steps ≤ i + 1) := Lib.hid (by rw [hτ]; exact Nat.le_trans hnl.1 (by have := HST.out; omega))
        have HTA : Hid (τ.armed ≤ 9223372036854775807) := Lib.hid (by rw [hτ]; exact hnl.2)
        have hss : σ.steps < 900000000000000 := by have := HST.out; omega
        have HSS := Lib.hid hss
        have HNX : Hid (next16 σ x = (τ, a)) := Lib.hid (by rw [hτ, ha])
        obtain ⟨ask, file, nn, byte, ka, kn, kc, ks⟩ := x
        have HI3 := Lib.hid (HI.out.in3 C (O16.cells ⟨ask, file, nn, byte, ka, kn, kc, ks⟩))
        obtain ⟨cs, hcs⟩ : ∃ cs, cs = O16.cells ⟨ask, file, nn, byte, ka, kn, kc, ks⟩ := ⟨_, rfl⟩
        have HBX : Hid (∀ v bx, Is v bx 33 cs → v.cell? ⟨bx, 0, none⟩ = some (.int .i64 ask) ∧ v.cell? ⟨bx, 1, none⟩ = some (.int .i64 file) ∧ v.cell? ⟨bx, 2, none⟩ = some (.int .i64 nn) ∧ v.cell? ⟨bx, 3, none⟩ = some (.int .i64 byte) ∧ v.cell? ⟨bx, 4, none⟩ = some (.slice ka kn kc) ∧ bx < v.heap.size) := Lib.hid fun v bx hb => by
          rw [hcs] at hb
          exact ⟨hb.cell 0, hb.cell 1, hb.cell 2, hb.cell 3, hb.cell 4, hb.lt⟩
        have T1 : Hid (∀ wi bx, In3 PD w wi b1 b2 τ τ bx cs → Calls Try.prog 23 #[.pointer (some ⟨b1, 0, none⟩), .int .i64 file] wi fun e w' => e = .returned (.tuple #[.string (strL (read16 τ file).1), .int .i64 (read16 τ file).2]) ∧ In3 PD w w' b1 b2 τ τ bx cs) := Lib.hid fun wi bx h => in3_p C h (fun S hp _ => C.read wi file hp)
        have T2 : Hid (∀ wi bx, In3 PD w wi b1 b2 τ τ bx cs → Calls Try.prog 24 #[.pointer (some ⟨b2, 0, none⟩), .int .i64 file] wi fun e w' => e = .returned (.tuple #[.string (strL (read16 τ file).1), .int .i64 (read16 τ file).2]) ∧ In3 PD w w' b1 b2 τ τ bx cs) := Lib.hid fun wi bx h => in3_r C h (fun S hr _ => (eread16_any wi hr file).mono fun e w' hh => ⟨hh.1, hr.left hh.2⟩)
        have T3 : Hid (∀ wi bx, In3 PD w wi b1 b2 τ τ bx cs → Calls Try.prog 26 #[.pointer (some ⟨b1, 0, none⟩)] wi fun e w' => ∃ A c, e = .returned (.slice A τ.l.length c) ∧ Nums w' A τ.l.length (τ.l.map (·.num)) ∧ In3 PD w w' b1 b2 τ τ bx cs ∧ τ.l.length ≤ 65536) := Lib.hid fun wi bx h => by
          obtain ⟨S1, S2, h1, h2, h3, h4, h5, h6, h7, h8, h9⟩ := h
          refine (C.files wi h1).mono ?_
          rintro e w' ⟨A, c, S', he, hN, _, k1, k2, k3⟩
          refine ⟨A, c, he, hN, ?_, (C.ok h1).few⟩
          refine ⟨S', S2, k1, h2.but k2 (fun x hx hy => h6 x hy hx), h3.over16 k2 (fun x hx => .inr (h4 x hx)), fun x hx => ?_, h5, fun x hx hy => ?_, h7.but k2 h8, fun hx => ?_, h9⟩
          · rcases k3 x hx with h | h
            · exact h4 x h
            · exact Nat.le_trans h3.size h
          · rcases k3 x hx with h | h
            · exact h6 x h hy
            · have := h2.lt x hy; omega
          · rcases k3 bx hx with h | h
            · exact h8 h
            · have := h7.lt; omega
        have T4 : Hid (∀ wi bx, In3 PD w wi b1 b2 τ τ bx cs → Calls Try.prog 27 #[.pointer (some ⟨b2, 0, none⟩)] wi fun e w' => ∃ A c, e = .returned (.slice A τ.l.length c) ∧ Nums w' A τ.l.length (τ.l.map (·.num)) ∧ But [] wi w') := Lib.hid fun wi bx h => by
          obtain ⟨S1, S2, h1, h2, h3, h4, h5, h6, h7, h8, h9⟩ := h
          refine (efiles16_any wi h2).mono ?_
          rintro e w' ⟨v, rfl, hO, hB⟩
          obtain ⟨A, c, rfl, _⟩ := hO.shape
          have := hO.nums
          rw [List.length_map] at this ⊢
          exact ⟨A, c, rfl, this, hB⟩
        have T5 : Hid (∀ wi bx, In3 PD w wi b1 b2 τ τ bx cs → Calls Try.prog 28 #[.pointer (some ⟨b1, 0, none⟩)] wi fun e w' => e = .returned (.int .i64 (size16 τ.l : Nat)) ∧ In3 PD w w' b1 b2 τ τ bx cs) := Lib.hid fun wi bx h => in3_p C h (fun S hp _ => C.size wi hp)
        have T6 : Hid (∀ wi bx, In3 PD w wi b1 b2 τ τ bx cs → Calls Try.prog 29 #[.pointer (some ⟨b2, 0, none⟩)] wi fun e w' => e = .returned (.int .i64 (size16 τ.l : Nat)) ∧ In3 PD w w' b1 b2 τ τ bx cs) := Lib.hid fun wi bx h => in3_r C h (fun S hr _ => (esize16_any wi hr).mono fun e w' hh => ⟨hh.1, hr.left hh.2⟩)
        have T7 : Hid (∀ wi bx, In3 PD w wi b1 b2 τ τ bx cs → Calls Try.prog 30 #[.pointer (some ⟨b1, 0, none⟩)] wi fun e w' => e = .returned (.bool τ.dead) ∧ In3 PD w w' b1 b2 τ τ bx cs) := Lib.hid fun wi bx h => in3_p C h (fun S hp _ => C.dead wi hp)
        have T8 : Hid (∀ wi bx, In3 PD w wi b1 b2 τ τ bx cs → Calls Try.prog 31 #[.pointer (some ⟨b2, 0, none⟩)] wi fun e w' => e = .returned (.bool τ.dead) ∧ In3 PD w w' b1 b2 τ τ bx cs) := Lib.hid fun wi bx h => in3_r C h (fun S hr _ => (edead16_any wi hr).mono fun e w' hh => ⟨hh.1, hr.left (by rw [hh.2]; exact But.refl [] _)⟩)
        have T9 : Hid (∀ wi bx, In3 PD w wi b1 b2 τ τ bx cs → Calls Try.prog 32 #[.pointer (some ⟨b1, 0, none⟩)] wi fun e w' => e = .returned (.int .i64 (τ.steps : Nat)) ∧ In3 PD w w' b1 b2 τ τ bx cs) := Lib.hid fun wi bx h => in3_p C h (fun S hp _ => C.steps wi hp)
        have T10 : Hid (∀ wi bx, In3 PD w wi b1 b2 τ τ bx cs → Calls Try.prog 33 #[.pointer (some ⟨b2, 0, none⟩)] wi fun e w' => e = .returned (.int .i64 (τ.steps : Nat)) ∧ In3 PD w w' b1 b2 τ τ bx cs) := Lib.hid fun wi bx h => in3_r C h (fun S hr _ => (esteps16_any wi hr).mono fun e w' hh => ⟨hh.1, hr.left (by rw [hh.2]; exact But.refl [] _)⟩)
        obtain ⟨rs, hrs⟩ : ∃ z, z = strL (read16 τ file).1 := ⟨_, rfl⟩
        obtain ⟨re, hre⟩ : ∃ z, z = (read16 τ file).2 := ⟨_, rfl⟩
        obtain ⟨sz, hsz⟩ : ∃ z, z = size16 τ.l := ⟨_, rfl⟩
        obtain ⟨dd, hdd⟩ : ∃ z, z = τ.dead := ⟨_, rfl⟩
        obtain ⟨sp, hsp⟩ : ∃ z, z = τ.steps := ⟨_, rfl⟩
        obtain ⟨fl, hfl⟩ : ∃ z, z = τ.l.map (·.num) := ⟨_, rfl⟩
        obtain ⟨ln, hln⟩ : ∃ z, z = τ.l.length := ⟨_, rfl⟩
        rw [← hrs, ← hre] at T1 T2
        rw [← hln, ← hfl] at T3 T4
        rw [← hsz] at T5 T6
        rw [← hdd] at T7 T8
        rw [← hsp] at T9 T10
        rw [← hcs] at HI3
        have HCS := Lib.hid hcs
        clear hx hmem hkp hnl hτ ha hss hrs hre hsz hdd hsp hfl hln hcs
        go_upto_region 11 with (fail)
        obtain ⟨bx, hbx⟩ : ∃ X, X = wr.heap.size := ⟨_, rfl⟩
        obtain ⟨wq, hwq⟩ : ∃ X, X = wr.alloc (.cells #[.int .i64 ask, .int .i64 file, .int .i64 nn, .int .i64 byte, .slice ka kn kc] 33) := ⟨_, rfl⟩
        have HI3 := Lib.hid (show In3 PD w wq b1 b2 σ σ bx cs from (by rw [hwq, hbx]; have h := HI3.out; rw [HCS.out] at h ⊢; exact h))
        rw [← hwq, ← hbx]
        clear hwq hbx c0 c1 c2 c3 c4 hg
        have d0 := (HBX.out _ _ HI3.out.box).1
        have dl := (HBX.out _ _ HI3.out.box).2.2.2.2.2
        go_upto_region 14 with (fail)
        clear d0 dl
        by_cases a0 : ask = 0
        · subst a0
          have HN0 : Hid (append16 σ file (fillT nn byte).data.toList = (τ, a)) := Lib.hid (by have := HNX.out; simpa [next16] using this)
          have HFI : Hid (∀ W, Calls Try.prog 11 #[.int .i64 nn, .int .i64 byte] W fun e w' => e = .returned (.string (fillT nn byte)) ∧ But [] W w') := Lib.hid fun W => fill16_any W nn byte
          have HP : Hid (∀ wi bx, In3 PD w wi b1 b2 σ σ bx cs → Calls Try.prog 10 #[.pointer (some ⟨b1, 0, none⟩), .int .i64 file, .string (fillT nn byte)] wi fun e w' => e = .returned (.int .i64 a) ∧ In3 PD w w' b1 b2 τ σ bx cs) := Lib.hid fun wi bx h => in3_p C h (fun S hp hw => by
            have k := C.append wi file (fillT nn byte) hp HSS.out HAR.out (by have := fillT_size nn byte; omega)
            rw [HN0.out] at k
            exact k)
          have HQ : Hid (∀ wi bx, In3 PD w wi b1 b2 τ σ bx cs → Calls Try.prog 12 #[.pointer (some ⟨b2, 0, none⟩), .int .i64 file, .string (fillT nn byte)] wi fun e w' => e = .returned (.int .i64 a) ∧ In3 PD w w' b1 b2 τ τ bx cs) := Lib.hid fun wi bx h => in3_r C h (fun S hr hw => by
            have k := eappend16_any wi hr HSS.out HAR.out file (fillT nn byte) (by have := fillT_size nn byte; omega)
            rw [HN0.out] at k
            exact k)
          obtain ⟨F, hF⟩ : ∃ z, z = fillT nn byte := ⟨_, rfl⟩
          rw [← hF] at HP HQ HFI
          clear hF
          go_upto_region 15 with (fail)
          refine wp_region_m (S := fun v => Is v bx 33 cs) (R := fun v v' => But [] v v') (fun w => But.refl [] w) (by kernel_rfl) HI3.out.box.drew ?_
          refine rdk 0 (.pointer (some ⟨b1, 0, none⟩)) ?_
          refine rdk 1 (.pointer (some ⟨bx, 1, none⟩)) ?_
          refine rdq 2 (.int .i64 file) (fun W hS => ?_) ?_
          · have y := (HBX.out W bx hS).2.1; have yl := (HBX.out W bx hS).2.2.2.2.2; go_simp
          refine rdk 3 (.pointer (some ⟨bx, 2, none⟩)) ?_
          refine rdq 4 (.int .i64 nn) (fun W hS => ?_) ?_
          · have y := (HBX.out W bx hS).2.2.1; have yl := (HBX.out W bx hS).2.2.2.2.2; go_simp
          refine rdk 5 (.pointer (some ⟨bx, 3, none⟩)) ?_
          refine rdq 6 (.int .i64 byte) (fun W hS => ?_) ?_
          · have y := (HBX.out W bx hS).2.2.2.1; have yl := (HBX.out W bx hS).2.2.2.2.2; go_simp
          refine wpM_take (fun w => But.refl [] w) (fun x y z h k => h.trans k) (i := 7) (v := .string F) rfl (by kernel_rfl) (by kernel_rfl) (by kernel_rfl) (fun _ _ _ h => h) (.inl ⟨?_, fun w hS => .inr ⟨_, _, ?_, (HFI.out w).mono ?_⟩⟩) ?_
          · go_simp
          · go_simp
          · rintro e wy ⟨rfl, hB⟩; exact ⟨rfl, hS.but hB (by simp), hB⟩
          refine wpM_one (i := 8) rfl (by kernel_rfl) fun w5 hR5 hS5 K' hK => ?_
          have HI5 := Lib.hid (HI3.out.but C (show But [] _ w5 from ⟨hR5.os, hR5.tape, hR5.output, hR5.size, hR5.block⟩))
          go_simp
          refine (HP.out _ _ HI5.out).mono ?_
          rintro e w6 ⟨rfl, hI⟩
          refine hK _ _ ⟨hI.box, ?_⟩
          clear hK hR5 hS5 HI5
          refine rdk 9 (.int .i64 a) ?_
          refine ⟨by kernel_rfl, fun w7 hR7 hS7 => ?_⟩
          have HI3 := Lib.hid (hI.but C hR7)
          clear hR7 hS7 hI
          go_simp
          go_upto_region 16 with (fail)
          refine wp_region_m (S := fun v => Is v bx 33 cs) (R := fun v v' => But [] v v') (fun w => But.refl [] w) (by kernel_rfl) HI3.out.box.drew ?_
          refine rdk 0 (.pointer (some ⟨b2, 0, none⟩)) ?_
          refine rdk 1 (.pointer (some ⟨bx, 1, none⟩)) ?_
          refine rdq 2 (.int .i64 file) (fun W hS => ?_) ?_
          · have y := (HBX.out W bx hS).2.1; have yl := (HBX.out W bx hS).2.2.2.2.2; go_simp
          refine rdk 3 (.pointer (some ⟨bx, 2, none⟩)) ?_
          refine rdq 4 (.int .i64 nn) (fun W hS => ?_) ?_
          · have y := (HBX.out W bx hS).2.2.1; have yl := (HBX.out W bx hS).2.2.2.2.2; go_simp
          refine rdk 5 (.pointer (some ⟨bx, 3, none⟩)) ?_
          refine rdq 6 (.int .i64 byte) (fun W hS => ?_) ?_
          · have y := (HBX.out W bx hS).2.2.2.1; have yl := (HBX.out W bx hS).2.2.2.2.2; go_simp
          refine wpM_take (fun w => But.refl [] w) (fun x y z h k => h.trans k) (i := 7) (v := .string F) rfl (by kernel_rfl) (by kernel_rfl) (by kernel_rfl) (fun _ _ _ h => h) (.inl ⟨?_, fun w hS => .inr ⟨_, _, ?_, (HFI.out w).mono ?_⟩⟩) ?_
          · go_simp
          · go_simp
          · rintro e wy ⟨rfl, hB⟩; exact ⟨rfl, hS.but hB (by simp), hB⟩
          refine wpM_one (i := 8) rfl (by kernel_rfl) fun w5 hR5 hS5 K' hK => ?_
          have HI5 := Lib.hid (HI3.out.but C (show But [] _ w5 from ⟨hR5.os, hR5.tape, hR5.output, hR5.size, hR5.block⟩))
          go_simp
          refine (HQ.out _ _ HI5.out).mono ?_
          rintro e w6 ⟨rfl, hI⟩
          refine hK _ _ ⟨hI.box, ?_⟩
          clear hK hR5 hS5 HI5
          refine rdk 9 (.int .i64 a) ?_
          refine ⟨by kernel_rfl, fun w7 hR7 hS7 => ?_⟩
          have HI3 := Lib.hid (hI.but C hR7)
          clear hR7 hS7 hI
          go_simp
          have d1 := (HBX.out _ _ HI3.out.box).2.1
          have dl := (HBX.out _ _ HI3.out.box).2.2.2.2.2
          go_wp2_with fail
          refine (T1.out _ _ HI3.out).mono ?_
          rintro e w11 ⟨rfl, hI⟩
          have HI3 := Lib.hid hI
          clear hI
          clear d1 dl
          have d1 := (HBX.out _ _ HI3.out.box).2.1
          have dl := (HBX.out _ _ HI3.out.box).2.2.2.2.2
          go_wp2_with fail
          refine (T2.out _ _ HI3.out).mono ?_
          rintro e w12 ⟨rfl, hI⟩
          have HI3 := Lib.hid hI
          clear hI
          clear d1 dl
          go_wp2_with fail
          refine (T3.out _ _ HI3.out).mono ?_
          rintro e w13 ⟨A1, cc1, rfl, hN1, hI, hfew⟩
          have HI3 := Lib.hid hI
          have HN1 := Lib.hid hN1
          clear hI hN1
          go_wp2_with fail
          refine (T4.out _ _ HI3.out).mono ?_
          rintro e w14 ⟨A2, cc2, rfl, hN2, hB⟩
          have HI3 := Lib.hid (HI3.out.but C hB)
          have HN1 := Lib.hid (HN1.out.but hB)
          have HN2 := Lib.hid hN2
          clear hB hN2
          go_wp2_with fail
          refine (ints16_any _ HN1.out HN2.out (by omega)).mono ?_
          rintro e w15 ⟨rfl, hB⟩
          have HI3 := Lib.hid (HI3.out.but C hB)
          clear hB
          go_wp2_with fail
          refine (T5.out _ _ HI3.out).mono ?_
          rintro e w16 ⟨rfl, hI⟩
          have HI3 := Lib.hid hI
          clear hI
          go_wp2_with fail
          refine (T6.out _ _ HI3.out).mono ?_
          rintro e w17 ⟨rfl, hI⟩
          have HI3 := Lib.hid hI
          clear hI
          go_wp2_with fail
          refine (T7.out _ _ HI3.out).mono ?_
          rintro e w18 ⟨rfl, hI⟩
          have HI3 := Lib.hid hI
          clear hI
          go_wp2_with fail
          refine (T8.out _ _ HI3.out).mono ?_
          rintro e w19 ⟨rfl, hI⟩
          have HI3 := Lib.hid hI
          clear hI
          go_wp2_with fail
          refine (T9.out _ _ HI3.out).mono ?_
          rintro e w20 ⟨rfl, hI⟩
          have HI3 := Lib.hid hI
          clear hI
          go_wp2_with fail
          refine (T10.out _ _ HI3.out).mono ?_
          rintro e w21 ⟨rfl, hI⟩
          have HI3 := Lib.hid hI
          clear hI
          go_wp2
          go_roundw
          case rel => exact ⟨i + 1, τ, by omega, by omega, by go_num, HTS, HTA, Lib.hid HI3.out.in2⟩
          case measure => simp [intOf] <;> omega
        · have n0 : (ask = 0) = False := by simp; omega
          have n0b : (ask == 0) = false := by simp; omega
          by_cases a1 : ask = 1
          · subst a1
            have HN0 : Hid (syncs16 σ file = (τ, a)) := Lib.hid (by have := HNX.out; simpa [next16] using this)
            have HP : Hid (∀ wi bx, In3 PD w wi b1 b2 σ σ bx cs → Calls Try.prog 13 #[.pointer (some ⟨b1, 0, none⟩), .int .i64 file] wi fun e w' => e = .returned (.int .i64 a) ∧ In3 PD w w' b1 b2 τ σ bx cs) := Lib.hid fun wi bx h => in3_p C h (fun S hp hw => by
              have k := C.sync wi file hp HSS.out HAR.out
              rw [HN0.out] at k
              exact k)
            have HQ : Hid (∀ wi bx, In3 PD w wi b1 b2 τ σ bx cs → Calls Try.prog 14 #[.pointer (some ⟨b2, 0, none⟩), .int .i64 file] wi fun e w' => e = .returned (.int .i64 a) ∧ In3 PD w w' b1 b2 τ τ bx cs) := Lib.hid fun wi bx h => in3_r C h (fun S hr hw => by
              have k := esync16_any wi hr HSS.out HAR.out file
              rw [HN0.out] at k
              exact k.mono fun e w' hh => ⟨hh.1, hh.2.1.left0 hh.2.2⟩)
            have d1 := (HBX.out _ _ HI3.out.box).2.1
            have dl := (HBX.out _ _ HI3.out.box).2.2.2.2.2
            go_wp2_with fail
            refine (HP.out _ _ HI3.out).mono ?_
            rintro e w5 ⟨rfl, hI⟩
            have HI3 := Lib.hid hI
            clear hI
            clear d1 dl
            have d1 := (HBX.out _ _ HI3.out.box).2.1
            have dl := (HBX.out _ _ HI3.out.box).2.2.2.2.2
            go_wp2_with fail
            refine (HQ.out _ _ HI3.out).mono ?_
            rintro e w6 ⟨rfl, hI⟩
            have HI3 := Lib.hid hI
            clear hI
            clear d1 dl
            have d1 := (HBX.out _ _ HI3.out.box).2.1
            have dl := (HBX.out _ _ HI3.out.box).2.2.2.2.2
            go_wp2_with fail
            refine (T1.out _ _ HI3.out).mono ?_
            rintro e w11 ⟨rfl, hI⟩
            have HI3 := Lib.hid hI
            clear hI
            clear d1 dl
            have d1 := (HBX.out _ _ HI3.out.box).2.1
            have dl := (HBX.out _ _ HI3.out.box).2.2.2.2.2
            go_wp2_with fail
            refine (T2.out _ _ HI3.out).mono ?_
            rintro e w12 ⟨rfl, hI⟩
            have HI3 := Lib.hid hI
            clear hI
            clear d1 dl
            go_wp2_with fail
            refine (T3.out _ _ HI3.out).mono ?_
            rintro e w13 ⟨A1, cc1, rfl, hN1, hI, hfew⟩
            have HI3 := Lib.hid hI
            have HN1 := Lib.hid hN1
            clear hI hN1
            go_wp2_with fail
            refine (T4.out _ _ HI3.out).mono ?_
            rintro e w14 ⟨A2, cc2, rfl, hN2, hB⟩
            have HI3 := Lib.hid (HI3.out.but C hB)
            have HN1 := Lib.hid (HN1.out.but hB)
            have HN2 := Lib.hid hN2
            clear hB hN2
            go_wp2_with fail
            refine (ints16_any _ HN1.out HN2.out (by omega)).mono ?_
            rintro e w15 ⟨rfl, hB⟩
            have HI3 := Lib.hid (HI3.out.but C hB)
            clear hB
            go_wp2_with fail
            refine (T5.out _ _ HI3.out).mono ?_
            rintro e w16 ⟨rfl, hI⟩
            have HI3 := Lib.hid hI
            clear hI
            go_wp2_with fail
            refine (T6.out _ _ HI3.out).mono ?_
            rintro e w17 ⟨rfl, hI⟩
            have HI3 := Lib.hid hI
            clear hI
            go_wp2_with fail
            refine (T7.out _ _ HI3.out).mono ?_
            rintro e w18 ⟨rfl, hI⟩
            have HI3 := Lib.hid hI
            clear hI
            go_wp2_with fail
            refine (T8.out _ _ HI3.out).mono ?_
            rintro e w19 ⟨rfl, hI⟩
            have HI3 := Lib.hid hI
            clear hI
            go_wp2_with fail
            refine (T9.out _ _ HI3.out).mono ?_
            rintro e w20 ⟨rfl, hI⟩
            have HI3 := Lib.hid hI
            clear hI
            go_wp2_with fail
            refine (T10.out _ _ HI3.out).mono ?_
            rintro e w21 ⟨rfl, hI⟩
            have HI3 := Lib.hid hI
            clear hI
            go_wp2
            go_roundw
            case rel => exact ⟨i + 1, τ, by omega, by omega, by go_num, HTS, HTA, Lib.hid HI3.out.in2⟩
            case measure => simp [intOf] <;> omega
          · have n1 : (ask = 1) = False := by simp; omega
            have n1b : (ask == 1) = false := by simp; omega
            by_cases a2 : ask = 2
            · subst a2
              have HN0 : Hid (cuts16 σ file nn = (τ, a)) := Lib.hid (by have := HNX.out; simpa [next16] using this)
              have HP : Hid (∀ wi bx, In3 PD w wi b1 b2 σ σ bx cs → Calls Try.prog 15 #[.pointer (some ⟨b1, 0, none⟩), .int .i64 file, .int .i64 nn] wi fun e w' => e = .returned (.int .i64 a) ∧ In3 PD w w' b1 b2 τ σ bx cs) := Lib.hid fun wi bx h => in3_p C h (fun S hp hw => by
                have k := C.cut wi file nn hp HSS.out HAR.out
                rw [HN0.out] at k
                exact k)
              have HQ : Hid (∀ wi bx, In3 PD w wi b1 b2 τ σ bx cs → Calls Try.prog 16 #[.pointer (some ⟨b2, 0, none⟩), .int .i64 file, .int .i64 nn] wi fun e w' => e = .returned (.int .i64 a) ∧ In3 PD w w' b1 b2 τ τ bx cs) := Lib.hid fun wi bx h => in3_r C h (fun S hr hw => by
                have k := ecut16_any wi hr HSS.out HAR.out file nn
                rw [HN0.out] at k
                exact k.mono fun e w' hh => ⟨hh.1, hh.2.1.left0 hh.2.2⟩)
              have d1 := (HBX.out _ _ HI3.out.box).2.1
              have d2 := (HBX.out _ _ HI3.out.box).2.2.1
              have dl := (HBX.out _ _ HI3.out.box).2.2.2.2.2
              go_wp2_with fail
              refine (HP.out _ _ HI3.out).mono ?_
              rintro e w5 ⟨rfl, hI⟩
              have HI3 := Lib.hid hI
              clear hI
              clear d1 d2 dl
              have d1 := (HBX.out _ _ HI3.out.box).2.1
              have d2 := (HBX.out _ _ HI3.out.box).2.2.1
              have dl := (HBX.out _ _ HI3.out.box).2.2.2.2.2
              go_wp2_with fail
              refine (HQ.out _ _ HI3.out).mono ?_
              rintro e w6 ⟨rfl, hI⟩
              have HI3 := Lib.hid hI
              clear hI
              clear d1 d2 dl
              have d1 := (HBX.out _ _ HI3.out.box).2.1
              have dl := (HBX.out _ _ HI3.out.box).2.2.2.2.2
              go_wp2_with fail
              refine (T1.out _ _ HI3.out).mono ?_
              rintro e w11 ⟨rfl, hI⟩
              have HI3 := Lib.hid hI
              clear hI
              clear d1 dl
              have d1 := (HBX.out _ _ HI3.out.box).2.1
              have dl := (HBX.out _ _ HI3.out.box).2.2.2.2.2
              go_wp2_with fail
              refine (T2.out _ _ HI3.out).mono ?_
              rintro e w12 ⟨rfl, hI⟩
              have HI3 := Lib.hid hI
              clear hI
              clear d1 dl
              go_wp2_with fail
              refine (T3.out _ _ HI3.out).mono ?_
              rintro e w13 ⟨A1, cc1, rfl, hN1, hI, hfew⟩
              have HI3 := Lib.hid hI
              have HN1 := Lib.hid hN1
              clear hI hN1
              go_wp2_with fail
              refine (T4.out _ _ HI3.out).mono ?_
              rintro e w14 ⟨A2, cc2, rfl, hN2, hB⟩
              have HI3 := Lib.hid (HI3.out.but C hB)
              have HN1 := Lib.hid (HN1.out.but hB)
              have HN2 := Lib.hid hN2
              clear hB hN2
              go_wp2_with fail
              refine (ints16_any _ HN1.out HN2.out (by omega)).mono ?_
              rintro e w15 ⟨rfl, hB⟩
              have HI3 := Lib.hid (HI3.out.but C hB)
              clear hB
              go_wp2_with fail
              refine (T5.out _ _ HI3.out).mono ?_
              rintro e w16 ⟨rfl, hI⟩
              have HI3 := Lib.hid hI
              clear hI
              go_wp2_with fail
              refine (T6.out _ _ HI3.out).mono ?_
              rintro e w17 ⟨rfl, hI⟩
              have HI3 := Lib.hid hI
              clear hI
              go_wp2_with fail
              refine (T7.out _ _ HI3.out).mono ?_
              rintro e w18 ⟨rfl, hI⟩
              have HI3 := Lib.hid hI
              clear hI
              go_wp2_with fail
              refine (T8.out _ _ HI3.out).mono ?_
              rintro e w19 ⟨rfl, hI⟩
              have HI3 := Lib.hid hI
              clear hI
              go_wp2_with fail
              refine (T9.out _ _ HI3.out).mono ?_
              rintro e w20 ⟨rfl, hI⟩
              have HI3 := Lib.hid hI
              clear hI
              go_wp2_with fail
              refine (T10.out _ _ HI3.out).mono ?_
              rintro e w21 ⟨rfl, hI⟩
              have HI3 := Lib.hid hI
              clear hI
              go_wp2
              go_roundw
              case rel => exact ⟨i + 1, τ, by omega, by omega, by go_num, HTS, HTA, Lib.hid HI3.out.in2⟩
              case measure => simp [intOf] <;> omega
            · have n2 : (ask = 2) = False := by simp; omega
              have n2b : (ask == 2) = false := by simp; omega
              by_cases a3 : ask = 3
              · subst a3
                have HN0 : Hid (drops16 σ file = (τ, a)) := Lib.hid (by have := HNX.out; simpa [next16] using this)
                have HP : Hid (∀ wi bx, In3 PD w wi b1 b2 σ σ bx cs → Calls Try.prog 17 #[.pointer (some ⟨b1, 0, none⟩), .int .i64 file] wi fun e w' => e = .returned (.int .i64 a) ∧ In3 PD w w' b1 b2 τ σ bx cs) := Lib.hid fun wi bx h => in3_p C h (fun S hp hw => by
                  have k := C.drop wi file hp HSS.out HAR.out
                  rw [HN0.out] at k
                  exact k)
                have HQ : Hid (∀ wi bx, In3 PD w wi b1 b2 τ σ bx cs → Calls Try.prog 18 #[.pointer (some ⟨b2, 0, none⟩), .int .i64 file] wi fun e w' => e = .returned (.int .i64 a) ∧ In3 PD w w' b1 b2 τ τ bx cs) := Lib.hid fun wi bx h => in3_r C h (fun S hr hw => by
                  have k := edrop16_any wi hr HSS.out HAR.out file
                  rw [HN0.out] at k
                  exact k)
                have d1 := (HBX.out _ _ HI3.out.box).2.1
                have dl := (HBX.out _ _ HI3.out.box).2.2.2.2.2
                go_wp2_with fail
                refine (HP.out _ _ HI3.out).mono ?_
                rintro e w5 ⟨rfl, hI⟩
                have HI3 := Lib.hid hI
                clear hI
                clear d1 dl
                have d1 := (HBX.out _ _ HI3.out.box).2.1
                have dl := (HBX.out _ _ HI3.out.box).2.2.2.2.2
                go_wp2_with fail
                refine (HQ.out _ _ HI3.out).mono ?_
                rintro e w6 ⟨rfl, hI⟩
                have HI3 := Lib.hid hI
                clear hI
                clear d1 dl
                have d1 := (HBX.out _ _ HI3.out.box).2.1
                have dl := (HBX.out _ _ HI3.out.box).2.2.2.2.2
                go_wp2_with fail
                refine (T1.out _ _ HI3.out).mono ?_
                rintro e w11 ⟨rfl, hI⟩
                have HI3 := Lib.hid hI
                clear hI
                clear d1 dl
                have d1 := (HBX.out _ _ HI3.out.box).2.1
                have dl := (HBX.out _ _ HI3.out.box).2.2.2.2.2
                go_wp2_with fail
                refine (T2.out _ _ HI3.out).mono ?_
                rintro e w12 ⟨rfl, hI⟩
                have HI3 := Lib.hid hI
                clear hI
                clear d1 dl
                go_wp2_with fail
                refine (T3.out _ _ HI3.out).mono ?_
                rintro e w13 ⟨A1, cc1, rfl, hN1, hI, hfew⟩
                have HI3 := Lib.hid hI
                have HN1 := Lib.hid hN1
                clear hI hN1
                go_wp2_with fail
                refine (T4.out _ _ HI3.out).mono ?_
                rintro e w14 ⟨A2, cc2, rfl, hN2, hB⟩
                have HI3 := Lib.hid (HI3.out.but C hB)
                have HN1 := Lib.hid (HN1.out.but hB)
                have HN2 := Lib.hid hN2
                clear hB hN2
                go_wp2_with fail
                refine (ints16_any _ HN1.out HN2.out (by omega)).mono ?_
                rintro e w15 ⟨rfl, hB⟩
                have HI3 := Lib.hid (HI3.out.but C hB)
                clear hB
                go_wp2_with fail
                refine (T5.out _ _ HI3.out).mono ?_
                rintro e w16 ⟨rfl, hI⟩
                have HI3 := Lib.hid hI
                clear hI
                go_wp2_with fail
                refine (T6.out _ _ HI3.out).mono ?_
                rintro e w17 ⟨rfl, hI⟩
                have HI3 := Lib.hid hI
                clear hI
                go_wp2_with fail
                refine (T7.out _ _ HI3.out).mono ?_
                rintro e w18 ⟨rfl, hI⟩
                have HI3 := Lib.hid hI
                clear hI
                go_wp2_with fail
                refine (T8.out _ _ HI3.out).mono ?_
                rintro e w19 ⟨rfl, hI⟩
                have HI3 := Lib.hid hI
                clear hI
                go_wp2_with fail
                refine (T9.out _ _ HI3.out).mono ?_
                rintro e w20 ⟨rfl, hI⟩
                have HI3 := Lib.hid hI
                clear hI
                go_wp2_with fail
                refine (T10.out _ _ HI3.out).mono ?_
                rintro e w21 ⟨rfl, hI⟩
                have HI3 := Lib.hid hI
                clear hI
                go_wp2
                go_roundw
                case rel => exact ⟨i + 1, τ, by omega, by omega, by go_num, HTS, HTA, Lib.hid HI3.out.in2⟩
                case measure => simp [intOf] <;> omega
              · have n3 : (ask = 3) = False := by simp; omega
                have n3b : (ask == 3) = false := by simp; omega
                by_cases a5 : ask = 5
                · subst a5
                  have HN5 : arm16 σ nn = τ ∧ (0 : Int) = a := by have := HNX.out; simpa [next16] using this
                  have HN0 := Lib.hid HN5.1
                  obtain rfl : a = 0 := HN5.2.symm
                  clear HN5
                  have HP : Hid (∀ wi bx, In3 PD w wi b1 b2 σ σ bx cs → Calls Try.prog 19 #[.pointer (some ⟨b1, 0, none⟩), .int .i64 nn] wi fun e w' => e = .returned (.tuple #[]) ∧ In3 PD w w' b1 b2 τ σ bx cs) := Lib.hid fun wi bx h => in3_p C h (fun S hp hw => by
                    have k := C.arm wi nn hp
                    rw [HN0.out] at k
                    exact k)
                  have HQ : Hid (∀ wi bx, In3 PD w wi b1 b2 τ σ bx cs → Calls Try.prog 20 #[.pointer (some ⟨b2, 0, none⟩), .int .i64 nn] wi fun e w' => e = .returned (.tuple #[]) ∧ In3 PD w w' b1 b2 τ τ bx cs) := Lib.hid fun wi bx h => in3_r C h (fun S hr hw => by
                    have k := earm16_any wi hr nn
                    rw [HN0.out] at k
                    exact k.mono fun e w' hh => ⟨hh.1, hh.2.1.left0 (hh.2.2.intoD hr.mem)⟩)
                  have d2 := (HBX.out _ _ HI3.out.box).2.2.1
                  have dl := (HBX.out _ _ HI3.out.box).2.2.2.2.2
                  go_wp2_with fail
                  refine (HP.out _ _ HI3.out).mono ?_
                  rintro e w5 ⟨rfl, hI⟩
                  have HI3 := Lib.hid hI
                  clear hI
                  clear d2 dl
                  have d2 := (HBX.out _ _ HI3.out.box).2.2.1
                  have dl := (HBX.out _ _ HI3.out.box).2.2.2.2.2
                  go_wp2_with fail
                  refine (HQ.out _ _ HI3.out).mono ?_
                  rintro e w6 ⟨rfl, hI⟩
                  have HI3 := Lib.hid hI
                  clear hI
                  clear d2 dl
                  have d1 := (HBX.out _ _ HI3.out.box).2.1
                  have dl := (HBX.out _ _ HI3.out.box).2.2.2.2.2
                  go_wp2_with fail
                  refine (T1.out _ _ HI3.out).mono ?_
                  rintro e w11 ⟨rfl, hI⟩
                  have HI3 := Lib.hid hI
                  clear hI
                  clear d1 dl
                  have d1 := (HBX.out _ _ HI3.out.box).2.1
                  have dl := (HBX.out _ _ HI3.out.box).2.2.2.2.2
                  go_wp2_with fail
                  refine (T2.out _ _ HI3.out).mono ?_
                  rintro e w12 ⟨rfl, hI⟩
                  have HI3 := Lib.hid hI
                  clear hI
                  clear d1 dl
                  go_wp2_with fail
                  refine (T3.out _ _ HI3.out).mono ?_
                  rintro e w13 ⟨A1, cc1, rfl, hN1, hI, hfew⟩
                  have HI3 := Lib.hid hI
                  have HN1 := Lib.hid hN1
                  clear hI hN1
                  go_wp2_with fail
                  refine (T4.out _ _ HI3.out).mono ?_
                  rintro e w14 ⟨A2, cc2, rfl, hN2, hB⟩
                  have HI3 := Lib.hid (HI3.out.but C hB)
                  have HN1 := Lib.hid (HN1.out.but hB)
                  have HN2 := Lib.hid hN2
                  clear hB hN2
                  go_wp2_with fail
                  refine (ints16_any _ HN1.out HN2.out (by omega)).mono ?_
                  rintro e w15 ⟨rfl, hB⟩
                  have HI3 := Lib.hid (HI3.out.but C hB)
                  clear hB
                  go_wp2_with fail
                  refine (T5.out _ _ HI3.out).mono ?_
                  rintro e w16 ⟨rfl, hI⟩
                  have HI3 := Lib.hid hI
                  clear hI
                  go_wp2_with fail
                  refine (T6.out _ _ HI3.out).mono ?_
                  rintro e w17 ⟨rfl, hI⟩
                  have HI3 := Lib.hid hI
                  clear hI
                  go_wp2_with fail
                  refine (T7.out _ _ HI3.out).mono ?_
                  rintro e w18 ⟨rfl, hI⟩
                  have HI3 := Lib.hid hI
                  clear hI
                  go_wp2_with fail
                  refine (T8.out _ _ HI3.out).mono ?_
                  rintro e w19 ⟨rfl, hI⟩
                  have HI3 := Lib.hid hI
                  clear hI
                  go_wp2_with fail
                  refine (T9.out _ _ HI3.out).mono ?_
                  rintro e w20 ⟨rfl, hI⟩
                  have HI3 := Lib.hid hI
                  clear hI
                  go_wp2_with fail
                  refine (T10.out _ _ HI3.out).mono ?_
                  rintro e w21 ⟨rfl, hI⟩
                  have HI3 := Lib.hid hI
                  clear hI
                  go_wp2
                  go_roundw
                  case rel => exact ⟨i + 1, τ, by omega, by omega, by go_num, HTS, HTA, Lib.hid HI3.out.in2⟩
                  case measure => simp [intOf] <;> omega
                · have n5 : (ask = 5) = False := by simp; omega
                  have n5b : (ask == 5) = false := by simp; omega
                  by_cases a6 : ask = 6
                  · subst a6
                    have HN5 : crashs16 σ ks = τ ∧ (0 : Int) = a := by have := HNX.out; simpa [next16] using this
                    have HN0 := Lib.hid HN5.1
                    obtain rfl : a = 0 := HN5.2.symm
                    clear HN5
                    have HP : Hid (∀ wi bx, In3 PD w wi b1 b2 σ σ bx cs → Calls Try.prog 21 #[.pointer (some ⟨b1, 0, none⟩), .slice ka kn kc] wi fun e w' => e = .returned (.tuple #[]) ∧ In3 PD w w' b1 b2 τ σ bx cs) := Lib.hid fun wi bx h => in3_p C h (fun S hp hw => by
                      have k := C.crash wi (ck := kc) hp (HKP.out _ h.in2.all) HKF.out HKC.out (fun h0 g o e hg => by have h1 := HKB.out g o h0 e; have h2 := hw g hg; exact absurd h1 (Nat.not_lt.2 h2))
                      rw [HN0.out] at k
                      exact k)
                    have HQ : Hid (∀ wi bx, In3 PD w wi b1 b2 τ σ bx cs → Calls Try.prog 22 #[.pointer (some ⟨b2, 0, none⟩), .slice ka kn kc] wi fun e w' => e = .returned (.tuple #[]) ∧ In3 PD w w' b1 b2 τ τ bx cs) := Lib.hid fun wi bx h => in3_r C h (fun S hr hw => by
                      have k := ecrash16_any wi (ck := kc) hr (HKP.out _ h.in2.all) HKF.out (fun h0 g o e hg => by have h1 := HKB.out g o h0 e; have h2 := hw g hg; exact absurd h1 (Nat.not_lt.2 h2))
                      rw [HN0.out] at k
                      exact k.mono fun e w' hh => ⟨hh.1, hh.2.1.left0 hh.2.2⟩)
                    have d4 := (HBX.out _ _ HI3.out.box).2.2.2.2.1
                    have dl := (HBX.out _ _ HI3.out.box).2.2.2.2.2
                    go_wp2_with fail
                    refine (HP.out _ _ HI3.out).mono ?_
                    rintro e w5 ⟨rfl, hI⟩
                    have HI3 := Lib.hid hI
                    clear hI
                    clear d4 dl
                    have d4 := (HBX.out _ _ HI3.out.box).2.2.2.2.1
                    have dl := (HBX.out _ _ HI3.out.box).2.2.2.2.2
                    go_wp2_with fail
                    refine (HQ.out _ _ HI3.out).mono ?_
                    rintro e w6 ⟨rfl, hI⟩
                    have HI3 := Lib.hid hI
                    clear hI
                    clear d4 dl
                    have d1 := (HBX.out _ _ HI3.out.box).2.1
                    have dl := (HBX.out _ _ HI3.out.box).2.2.2.2.2
                    go_wp2_with fail
                    refine (T1.out _ _ HI3.out).mono ?_
                    rintro e w11 ⟨rfl, hI⟩
                    have HI3 := Lib.hid hI
                    clear hI
                    clear d1 dl
                    have d1 := (HBX.out _ _ HI3.out.box).2.1
                    have dl := (HBX.out _ _ HI3.out.box).2.2.2.2.2
                    go_wp2_with fail
                    refine (T2.out _ _ HI3.out).mono ?_
                    rintro e w12 ⟨rfl, hI⟩
                    have HI3 := Lib.hid hI
                    clear hI
                    clear d1 dl
                    go_wp2_with fail
                    refine (T3.out _ _ HI3.out).mono ?_
                    rintro e w13 ⟨A1, cc1, rfl, hN1, hI, hfew⟩
                    have HI3 := Lib.hid hI
                    have HN1 := Lib.hid hN1
                    clear hI hN1
                    go_wp2_with fail
                    refine (T4.out _ _ HI3.out).mono ?_
                    rintro e w14 ⟨A2, cc2, rfl, hN2, hB⟩
                    have HI3 := Lib.hid (HI3.out.but C hB)
                    have HN1 := Lib.hid (HN1.out.but hB)
                    have HN2 := Lib.hid hN2
                    clear hB hN2
                    go_wp2_with fail
                    refine (ints16_any _ HN1.out HN2.out (by omega)).mono ?_
                    rintro e w15 ⟨rfl, hB⟩
                    have HI3 := Lib.hid (HI3.out.but C hB)
                    clear hB
                    go_wp2_with fail
                    refine (T5.out _ _ HI3.out).mono ?_
                    rintro e w16 ⟨rfl, hI⟩
                    have HI3 := Lib.hid hI
                    clear hI
                    go_wp2_with fail
                    refine (T6.out _ _ HI3.out).mono ?_
                    rintro e w17 ⟨rfl, hI⟩
                    have HI3 := Lib.hid hI
                    clear hI
                    go_wp2_with fail
                    refine (T7.out _ _ HI3.out).mono ?_
                    rintro e w18 ⟨rfl, hI⟩
                    have HI3 := Lib.hid hI
                    clear hI
                    go_wp2_with fail
                    refine (T8.out _ _ HI3.out).mono ?_
                    rintro e w19 ⟨rfl, hI⟩
                    have HI3 := Lib.hid hI
                    clear hI
                    go_wp2_with fail
                    refine (T9.out _ _ HI3.out).mono ?_
                    rintro e w20 ⟨rfl, hI⟩
                    have HI3 := Lib.hid hI
                    clear hI
                    go_wp2_with fail
                    refine (T10.out _ _ HI3.out).mono ?_
                    rintro e w21 ⟨rfl, hI⟩
                    have HI3 := Lib.hid hI
                    clear hI
                    go_wp2
                    go_roundw
                    case rel => exact ⟨i + 1, τ, by omega, by omega, by go_num, HTS, HTA, Lib.hid HI3.out.in2⟩
                    case measure => simp [intOf] <;> omega
                  · have n6 : (ask = 6) = False := by simp; omega
                    have n6b : (ask == 6) = false := by simp; omega
                    have HN5 : σ = τ ∧ (0 : Int) = a := by have := HNX.out; simpa [next16, n0, n1, n2, n3, n5, n6] using this
                    obtain rfl : a = 0 := HN5.2.symm
                    have HI3 := Lib.hid (show In3 PD w wq b1 b2 τ τ bx cs from (by rw [← HN5.1]; exact HI3.out))
                    clear HN5
                    have d1 := (HBX.out _ _ HI3.out.box).2.1
                    have dl := (HBX.out _ _ HI3.out.box).2.2.2.2.2
                    go_wp2_with fail
                    refine (T1.out _ _ HI3.out).mono ?_
                    rintro e w11 ⟨rfl, hI⟩
                    have HI3 := Lib.hid hI
                    clear hI
                    clear d1 dl
                    have d1 := (HBX.out _ _ HI3.out.box).2.1
                    have dl := (HBX.out _ _ HI3.out.box).2.2.2.2.2
                    go_wp2_with fail
                    refine (T2.out _ _ HI3.out).mono ?_
                    rintro e w12 ⟨rfl, hI⟩
                    have HI3 := Lib.hid hI
                    clear hI
                    clear d1 dl
                    go_wp2_with fail
                    refine (T3.out _ _ HI3.out).mono ?_
                    rintro e w13 ⟨A1, cc1, rfl, hN1, hI, hfew⟩
                    have HI3 := Lib.hid hI
                    have HN1 := Lib.hid hN1
                    clear hI hN1
                    go_wp2_with fail
                    refine (T4.out _ _ HI3.out).mono ?_
                    rintro e w14 ⟨A2, cc2, rfl, hN2, hB⟩
                    have HI3 := Lib.hid (HI3.out.but C hB)
                    have HN1 := Lib.hid (HN1.out.but hB)
                    have HN2 := Lib.hid hN2
                    clear hB hN2
                    go_wp2_with fail
                    refine (ints16_any _ HN1.out HN2.out (by omega)).mono ?_
                    rintro e w15 ⟨rfl, hB⟩
                    have HI3 := Lib.hid (HI3.out.but C hB)
                    clear hB
                    go_wp2_with fail
                    refine (T5.out _ _ HI3.out).mono ?_
                    rintro e w16 ⟨rfl, hI⟩
                    have HI3 := Lib.hid hI
                    clear hI
                    go_wp2_with fail
                    refine (T6.out _ _ HI3.out).mono ?_
                    rintro e w17 ⟨rfl, hI⟩
                    have HI3 := Lib.hid hI
                    clear hI
                    go_wp2_with fail
                    refine (T7.out _ _ HI3.out).mono ?_
                    rintro e w18 ⟨rfl, hI⟩
                    have HI3 := Lib.hid hI
                    clear hI
                    go_wp2_with fail
                    refine (T8.out _ _ HI3.out).mono ?_
                    rintro e w19 ⟨rfl, hI⟩
                    have HI3 := Lib.hid hI
                    clear hI
                    go_wp2_with fail
                    refine (T9.out _ _ HI3.out).mono ?_
                    rintro e w20 ⟨rfl, hI⟩
                    have HI3 := Lib.hid hI
                    clear hI
                    go_wp2_with fail
                    refine (T10.out _ _ HI3.out).mono ?_
                    rintro e w21 ⟨rfl, hI⟩
                    have HI3 := Lib.hid hI
                    clear hI
                    go_wp2
                    go_roundw
                    case rel => exact ⟨i + 1, τ, by omega, by omega, by go_num, HTS, HTA, Lib.hid HI3.out.in2⟩
                    case measure => simp [intOf] <;> omega
      · by_cases hn1 : i < n
        · have i1 : (i : Int) < (n : Int) := by omega
          have i2 : ¬ (i : Int) < 200 := by omega
          go_wp2_with fail
          refine (HA.out _).mono ?_
          rintro e w3 ⟨rfl, hB⟩
          have HB := Lib.hid (HI.out.all.trans hB)
          clear hB
          go_wp2
          go_ret
          exact ⟨rfl, HB.out.belowD⟩
        · have i1 : ¬ (i : Int) < (n : Int) := by omega
          go_wp2_with fail
          refine (HA.out _).mono ?_
          rintro e w3 ⟨rfl, hB⟩
          have HB := Lib.hid (HI.out.all.trans hB)
          clear hB
          go_wp2
          go_ret
          exact ⟨rfl, HB.out.belowD⟩
end Go.Proofs.Ytchpincoddghfaa
set_option maxRecDepth 100000
set_option linter.unusedVariables false
namespace Go.Proofs.Ytchpincoddghfaa
set_option maxRecDepth 100000
open Go Go.RowKit Go.ChangeShapes Go.WideShapes
theorem cells_intR : Try.prog.cellsOf 3 = 1 := by kernel_rfl
end Go.Proofs.Ytchpincoddghfaa
set_option maxRecDepth 100000
set_option linter.unusedVariables false
namespace Go.Proofs.Ytchpincoddghfaa
set_option maxRecDepth 100000
open Go Go.RowKit Go.ChangeShapes Go.WideShapes
/-- A slice of numbers that lies in memory, out of its reading alone. -/
theorem zs_trod {H : Type} {enc : TypeId × Value → H} {W : World} {base : Nat} {v : Value} {x : DataW H × List MemPlace} {fuel : Nat} (hf : DataW.trod enc Try.prog W base (fun _ => true) true fuel 31 [v] = some x) :
    ∃ A len cap l, v = .slice A len cap ∧ Zs W A len l ∧ ZFit l ∧ len ≤ cap ∧ ∀ g o, 0 < len → A = some ⟨g, o, none⟩ → g < W.heap.size := by
  rcases open_ints Try.underlying31 Try.underlying3 (by kernel_rfl) hf with ⟨hcs, _⟩ | ⟨a, len, cap, zs, hcs, hb, hl, hm, hzs, hx, hc, hwf⟩
  · have hv : v = .slice none 0 0 := by simpa using hcs
    exact ⟨none, 0, 0, [], hv, ⟨rfl, fun h => absurd h (by omega)⟩, (fun x hx => by simp at hx), Nat.le_refl _, fun g o h0 e => by cases e⟩
  · have hv : v = .slice (some a) len cap := by simpa using hcs
    have hzl : zs.length = cap := by simpa using hzs
    by_cases h0 : cap = 0
    · refine ⟨_, len, cap, zs.take len, hv, ⟨by rw [List.length_take]; omega, fun hn => by omega⟩, fun x hx' => bounds_i64 (hwf x (List.mem_of_mem_take hx')), hl, fun g' o' h0' e => by omega⟩
    · obtain ⟨g, o, rfl, hg⟩ := ints_at hc (by omega)
      have hlt := World.block_lt_of_cell? W _ (hg 0 (by omega))
      refine ⟨_, len, cap, zs.take len, hv, ⟨by rw [List.length_take]; omega, fun hn => ⟨g, o, rfl, hlt, fun i hi => ?_⟩⟩, fun x hx' => bounds_i64 (hwf x (List.mem_of_mem_take hx')), hl, fun g' o' _ e => ?_⟩
      · rw [List.length_take] at hi
        rw [hg i (by omega), List.getElem_take, List.getD_eq_getElem?_getD, List.getElem?_eq_getElem (by omega)]; rfl
      · injection e with e
        injection e with e1 e2
        rw [← e1]; exact hlt
/-- Calls that are handed in. -/
theorem open_ops16 {H : Type} {enc : TypeId × Value → H} {W : World} {base : Nat} {v : Value} {d : DataW H} {p : List MemPlace} (hv : Value.okWide Try.prog W .any base 22 v)
    (hk : DataW.Trod enc Try.prog W 0 (fun _ => true) true 22 v d p) {ts : List TypeId} {ds : List (DataW H)} (hsz : (DataW.weightsEach Try.prog ts ds).all (· ≤ reachBytes) = true) {j : Nat} (ht : ts[j]? = some 22) (hd : ds[j]? = some d) :
    ∃ A len cap L, v = .slice A len cap ∧ Ops16 W A len L ∧ len ≤ 140737488351232 := by
  obtain ⟨a0, len, cap, rfl⟩ := okWide_slice Try.underlying22 hv
  obtain ⟨fuel, hf⟩ := hk
  rcases Deep.open_slice Try.underlying22 hf with ⟨hcs, _⟩ | ⟨a, len', cap', m, n, D, Pl, hcs, hb, hl, hm, hmm, hx, hi⟩
  · simp [Value.cells] at hcs
    obtain ⟨rfl, rfl, rfl⟩ := hcs
    exact ⟨none, 0, 0, [], rfl, ⟨rfl, fun i x hx => by simp at hx, fun x hx => by simp at hx, fun x hx => by simp at hx⟩, by omega⟩
  · simp [Value.cells] at hcs
    obtain ⟨rfl, rfl, rfl⟩ := hcs
    have hmc : m = cap := by simpa using hmm
    have hr : reachBytes = 140737488351232 := rfl
    have hc5 : Try.prog.cellsOf 33 = 5 := by kernel_rfl
    rw [hc5] at hi
    have hde : d = .slice ((List.range len).map D) ((List.range (m - len)).map fun j => D (len + j)) := (Prod.mk.inj hx).1
    have hbound : len ≤ 140737488351232 := by
      have h := sized_slice hsz (e := 33) ht (by rw [hd, hde]) Try.underlying22
      have hb8 : Try.prog.bytesOf 33 = 56 := by kernel_rfl
      rw [hb8, hr] at h
      simp only [List.length_map, List.length_range] at h
      omega
    have hel : ∀ i, i < len → ∃ x : O16, (W.cell? (a.add (i * 5 + 0)) = some (.int .i64 x.ask) ∧ W.cell? (a.add (i * 5 + 1)) = some (.int .i64 x.file) ∧ W.cell? (a.add (i * 5 + 2)) = some (.int .i64 x.n) ∧ W.cell? (a.add (i * 5 + 3)) = some (.int .i64 x.byte) ∧ W.cell? (a.add (i * 5 + 4)) = some (.slice x.ka x.kn x.kc)) ∧ (Zs W x.ka x.kn x.ks ∧ ZFit x.ks ∧ x.kn ≤ x.kc ∧ ∀ g o, 0 < x.kn → x.ka = some ⟨g, o, none⟩ → g < W.heap.size) ∧ x.n ≤ 9223372036854775807 := by
      intro i hil
      obtain ⟨cs', h1, h2⟩ := hi i (by omega)
      obtain ⟨_, hlen, hat⟩ := World.cells?_some h1
      obtain ⟨ys, n', _, _, hcl, hyl, hfs⟩ := DataW.trod_struct Try.underlying33 h2
      rw [hc5] at hcl
      match cs', hcl with
      | [x0, x1, x2, x3, x4], _ =>
        have g0 := hfs 0 _ rfl
        have g1 := hfs 1 _ rfl
        have g2 := hfs 2 _ rfl
        have g3 := hfs 3 _ rfl
        have g4 := hfs 4 _ rfl
        have hy : ys.length = 5 := hyl
        match ys, hy with
        | [y0, y1, y2, y3, y4], _ =>
          obtain ⟨q0, c0, _, w0⟩ := DataW.trod_int Try.underlying3 (x := y0) g0
          obtain ⟨q1, c1, _, w1⟩ := DataW.trod_int Try.underlying3 (x := y1) g1
          obtain ⟨q2, c2, _, w2⟩ := DataW.trod_int Try.underlying3 (x := y2) g2
          obtain ⟨q3, c3, _, w3⟩ := DataW.trod_int Try.underlying3 (x := y3) g3
          have c0 : ([x0, x1, x2, x3, x4].drop 0).take (Try.prog.cellsOf 3) = [.int .i64 q0] := c0
          have c1 : ([x0, x1, x2, x3, x4].drop 1).take (Try.prog.cellsOf 3) = [.int .i64 q1] := c1
          have c2 : ([x0, x1, x2, x3, x4].drop 2).take (Try.prog.cellsOf 3) = [.int .i64 q2] := c2
          have c3 : ([x0, x1, x2, x3, x4].drop 3).take (Try.prog.cellsOf 3) = [.int .i64 q3] := c3
          rw [cells_intR] at c0 c1 c2 c3
          have e0 : x0 = .int .i64 q0 := by simpa using c0
          have e1 : x1 = .int .i64 q1 := by simpa using c1
          have e2 : x2 = .int .i64 q2 := by simpa using c2
          have e3 : x3 = .int .i64 q3 := by simpa using c3
          have hcz : Try.prog.cellsOf 31 = 1 := by kernel_rfl
          have g4 : DataW.trod enc Try.prog W 0 (fun _ => true) true n' 31 [x4] = some y4 := by
            have e4 : ([x0, x1, x2, x3, x4].drop 4).take (Try.prog.cellsOf 31) = [x4] := by rw [hcz]; rfl
            rw [← e4]; exact g4
          obtain ⟨ka, kn, kc, ks, e4, hz, hfit, hkc, hlt⟩ := zs_trod g4
          have k0 := hat 0 (by omega)
          have k1 := hat 1 (by omega)
          have k2 := hat 2 (by omega)
          have k3 := hat 3 (by omega)
          have k4 := hat 4 (by omega)
          refine ⟨⟨q0, q1, q2, q3, ka, kn, kc, ks⟩, ⟨?_, ?_, ?_, ?_, ?_⟩, ⟨hz, hfit, hkc, hlt⟩, ?_⟩
          · rw [← Deep.add_add, k0]; simp [e0]
          · rw [← Deep.add_add, k1]; simp [e1]
          · rw [← Deep.add_add, k2]; simp [e2]
          · rw [← Deep.add_add, k3]; simp [e3]
          · rw [← Deep.add_add, k4]; simp [e4]
          · exact (bounds_i64 w2).2
    have : Inhabited O16 := ⟨⟨0, 0, 0, 0, none, 0, 0, []⟩⟩
    obtain ⟨X, hX⟩ := Deep.choose_lt hel
    refine ⟨some a, len, cap, (List.range len).map X, rfl, ⟨by simp, fun i x hx => ?_, fun x hx => ?_, fun x hx => ?_⟩, hbound⟩
    · have hil : i < len := by
        have := (List.getElem?_eq_some_iff.1 hx).1
        simpa using this
      rw [List.getElem?_map, List.getElem?_range hil] at hx
      have e : X i = x := by simpa using hx
      rw [← e]
      obtain ⟨⟨c0, c1, c2, c3, c4⟩, _⟩ := hX i hil
      obtain ⟨g, o, spot⟩ := a
      have hs : spot = none := by
        have := World.cell?_spot (hX 0 (by omega)).1.1
        simpa [Addr.add] using this
      subst hs
      rw [add_plain] at c0 c1 c2 c3 c4
      exact ⟨g, o, rfl, World.block_lt_of_cell? W _ c0, c0, by rw [Nat.add_assoc]; exact c1, by rw [Nat.add_assoc]; exact c2, by rw [Nat.add_assoc]; exact c3, by rw [Nat.add_assoc]; exact c4⟩
    · obtain ⟨i, hi', rfl⟩ := List.mem_map.1 hx
      exact (hX i (List.mem_range.1 hi')).2.1
    · obtain ⟨i, hi', rfl⟩ := List.mem_map.1 hx
      exact (hX i (List.mem_range.1 hi')).2.2
end Go.Proofs.Ytchpincoddghfaa
