/- The program's blocks. -/
import Derived.Test.YtobmghjpfkdooaaDoorBgn
import Derived.Deep.CutRange
namespace Go.Proofs.YtobmghjpfkdooaaDoor
set_option maxRecDepth 100000
open Go Go.RowKit

section
variable {w w' : World} {b rb db : Nat} {og : Option Nat} {s : ByteArray} {p : Nat} {M : Int} {L : List UInt8} {fs fd : Option Nat}
theorem produce_match {d : List Int} {bd : Nat} {x : Option Addr} {tv : Value} (h : SS w b rb db og s p M L fs fd) (hc : chk d = 0) (hT : Keep (Foot b rb og) w fun w' => TT w' bd d) (t : Nat) (ht : 256 < t)
    (htv : tv = .agg #[.pointer x, .pointer (some ⟨bd, 0, none⟩)]) :
    Calls Tryd.prog 19 #[.pointer (some ⟨b, 0, none⟩), .int .i64 t, tv] w (GotE w b rb db og s M fs fd (rProd d M t L s p)) := by
  subst htv
  have hr : rProd d M t L s p = rMatch d M t L s p := by unfold rProd; rw [if_pos ht]
  have h1 := h.alloc (.cells #[.pointer x, .pointer (some ⟨bd, 0, none⟩)] 36)
  have m1 := Mv.alloc (b := b) (rb := rb) (w := w) (og := og) (.cells #[.pointer x, .pointer (some ⟨bd, 0, none⟩)] 36)
  have hm := match_any h1 hc (m1.keep hT) t ht (x := x) rfl
  have d1 : decide ((256 : Int) < (t : Int)) = true := by simp; omega
  have HM := Lib.hid hm
  have HR := Lib.hid hr
  have HM1 := Lib.hid m1
  clear h h1 m1 hm hr hc hT ht
  go_enter Tryd.func19, Tryd.ntmps19
  go_wp2_with fail
  refine HM.out.mono ?_
  rintro e w2 ⟨er, L', q, og', rfl, hMv, he1, he2⟩
  have HMV := Lib.hid hMv
  have HE1 := Lib.hid he1
  have HE2 := Lib.hid he2
  clear hMv he1 he2
  go_wp2
  go_ret
  exact ⟨er, L', q, og', rfl, HM1.out.trans HMV.out, fun e => by rw [HR.out]; exact HE1.out e, fun e => by rw [HR.out]; exact HE2.out e⟩
theorem produce_any {d : List Int} {bd : Nat} {x : Option Addr} (h : SS w b rb db og s p M L fs fd) (hc : chk d = 0) (hT : Keep (Foot b rb og) w fun w' => TT w' bd d) (t : Nat) (ht : t ≠ 256) :
    Calls Tryd.prog 19 #[.pointer (some ⟨b, 0, none⟩), .int .i64 t, .agg #[.pointer x, .pointer (some ⟨bd, 0, none⟩)]] w (GotE w b rb db og s M fs fd (rProd d M t L s p)) := by
  by_cases h1 : 256 < t
  · exact produce_match h hc hT t h1 rfl
  · exact produce_lit h t (by omega) rfl
theorem Mv.notin {og' : Option Nat} {r : Nat} (h : Mv b rb w w' og og') (hn : r ∉ Foot b rb og) (hr : r < w.heap.size) : r ∉ Foot b rb og' := fun hk => by
  rcases h.foot r hk with e | e
  · exact hn e
  · omega
/-- At the head of a block. -/
def BlkRel (M : Int) (F f : Nat) (s : ByteArray) (R : Except Int (List UInt8 × Nat)) (l : Nat) (L : List UInt8) (q : Nat) : Prop :=
  (l = 1 ∧ R = .ok (L, q)) ∨ (l = 0 ∧ blkG M F f L s q = R ∧ 8 * s.size - q < f)
theorem blkRel_next {F f l q : Nat} {R : Except Int (List UInt8 × Nat)} (hl : l < 2) (h : (if l ≠ 0 then rPure L else blkG M F f L) s q = R) (hq : 8 * s.size - q < f) : BlkRel M F f s R l L q := by
  by_cases h0 : l = 0
  · subst h0
    rw [if_neg (by decide)] at h
    exact .inr ⟨rfl, h, hq⟩
  · rw [if_pos h0] at h
    exact .inl ⟨by omega, h.symm⟩
theorem rBegin_adv (M : Int) (F : Nat) (L : List UInt8) {s : ByteArray} {p q : Nat} {x : Nat × List UInt8 × Option (List Int × List Int)} (hp : p ≤ 8 * s.size) (h : rBegin M F L s p = .ok (x, q)) : p < q ∧ q ≤ 8 * s.size := by
  unfold rBegin at h
  obtain ⟨⟨v, q1⟩, h1, h2⟩ := ok_bind h
  have hb : q1 = p + 3 ∧ q1 ≤ 8 * s.size := by
    rw [rBits_small (by omega)] at h1
    split at h1
    · cases h1
    · injection h1 with h1
      injection h1 with _ h1
      omega
  have hst : Adv (storedR M L) := Adv.bind (rBytes_adv 2) fun a => Adv.bind (rBytes_adv 2) fun b => Adv.when (Adv.bind (rBytes_adv _) fun x => Adv.when (Adv.pure _))
  have hdy : Adv (dynTabs F) := by
    unfold dynTabs tablesR
    exact Adv.bind (rBits_adv 14) fun v => Adv.bind (rSmall_adv _) fun sm => Adv.bind (lenG_adv _ _ _ _) fun ls => Adv.when (Adv.when (Adv.pure _))
  have key : Adv (if v / 2 = 0 then rBind (storedR M L) fun L' => rPure (v % 2, L', none) else if v / 2 = 1 then rPure (v % 2, L, some (fixL, fixD)) else if v / 2 = 2 then rBind (dynTabs F) fun x => rPure (v % 2, L, some x) else (rFail 13 : Rd (Nat × List UInt8 × Option (List Int × List Int)))) :=
    Adv.ite (Adv.bind hst fun _ => Adv.pure _) (Adv.ite (Adv.pure _) (Adv.ite (Adv.bind hdy fun _ => Adv.pure _) (Adv.fail 13)))
  have := key s q1 x q hb.2 h2
  omega
theorem rProd_adv (d : List Int) (M : Int) (t : Nat) (L : List UInt8) : Adv (rProd d M t L) := by
  unfold rProd rMatch rLen rDst
  exact Adv.ite (Adv.bind (Adv.when (Adv.bind (rBits_adv _) fun _ => Adv.pure _)) fun _ => Adv.bind (Adv.bind (rNext_adv d) fun _ => Adv.when (Adv.bind (rBits_adv _) fun _ => Adv.pure _)) fun _ => Adv.when (Adv.when (Adv.pure _))) (Adv.when (Adv.pure _))
/-- The blocks told an error, or the stream at its end. -/
def GotK (w : World) (b rb db : Nat) (og : Option Nat) (s : ByteArray) (M : Int) (r : Except Int (List UInt8 × Nat)) (e : Ending) (w' : World) : Prop :=
  ∃ (er : Int) (og' : Option Nat), e = .returned (.int .i64 er) ∧ Mv b rb w w' og og' ∧ (er ≠ 0 → r = .error er) ∧ (er = 0 → ∃ L' q fs' fd', r = .ok (L', q) ∧ SS w' b rb db og' s q M L' fs' fd')

set_option maxHeartbeats 4000000 in
theorem blocks_any (h : SS w b rb db og s p M L fs fd) (hG : Keep (Foot b rb og) w GL) (hF : FX w (Foot b rb og) fs fd) {F f0 : Nat} (hFu : 8 * s.size < F) (hf0 : 8 * s.size - p < f0) :
    Calls Tryd.prog 10 #[.pointer (some ⟨b, 0, none⟩)] w (GotK w b rb db og s M (blkG M F f0 L s p)) := by
  obtain ⟨R, hR⟩ : ∃ R, R = blkG M F f0 L s p := ⟨_, rfl⟩
  rw [← hR]
  have HS := Lib.hid h
  have HG := Lib.hid hG
  have HFX := Lib.hid hF
  have HR := Lib.hid hR
  have HF0 := Lib.hid hf0
  have HFU := Lib.hid hFu
  clear h hG hF hR hf0 hFu
  go_enter Tryd.func10, Tryd.ntmps10
  go_wp2
  go_step3
  go_wp2
  go_step3
  go_wp2
  go_loopg [3, 4] f0 (fun f ev lv wr => ∃ (l : Nat) (L1 : List UInt8) (q : Nat) (og1 fs1 fd1 : Option Nat), ev = .int .i64 0 ∧ lv = .bool (decide (l = 1)) ∧ SS wr b rb db og1 s q M L1 fs1 fd1 ∧ Mv b rb w wr og og1 ∧ FX wr (Foot b rb og1) fs1 fd1 ∧ BlkRel M F f s R l L1 q)
  case atStart => exact ⟨0, L, p, og, fs, fd, rfl, rfl, HS.out, Mv.refl _ _ _ _, HFX.out, .inr ⟨rfl, HR.out.symm, HF0.out⟩⟩
  case round =>
    obtain ⟨l, L1, q, og1, fs1, fd1, rfl, rfl, hS, hMv, hF, hB⟩ := hrel
    have HMV := Lib.hid hMv
    by_cases hl : l = 1
    · subst hl
      have hR : R = .ok (L1, q) := by
        rcases hB with h | h
        · exact h.2
        · exact absurd h.1 (by decide)
      have HRR := Lib.hid hR
      have HS1 := Lib.hid hS
      clear hR hS hB hF hMv HS HFX
      go_wp2
      try rw [Exit.noGoto_ret]
      go_ret
      exact ⟨0, og1, rfl, HMV.out, fun e => absurd rfl e, fun _ => ⟨L1, q, fs1, fd1, HRR.out, HS1.out⟩⟩
    · have hl0 : decide (l = 1) = false := by simpa using hl
      obtain ⟨hl00, hR, hf⟩ : l = 0 ∧ blkG M F gk L1 s q = R ∧ 8 * s.size - q < gk := by
        rcases hB with h | h
        · exact absurd h.1 hl
        · exact h
      obtain ⟨f, rfl⟩ : ∃ f, gk = f + 1 := ⟨gk - 1, by omega⟩
      obtain ⟨wo, rfl⟩ : ∃ wo : World, wo = wr := ⟨_, rfl⟩
      have h1 := hS.alloc (.cells #[.pointer none, .pointer none] 36)
      have m1 := Mv.alloc (b := b) (rb := rb) (w := wo) (og := og1) (.cells #[.pointer none, .pointer none] 36)
      have hI := Is.fresh wo 36 #[.pointer none, .pointer none]
      have hft := foot_ne hS
      have hq8 := hS.rs.1
      have hFX0 : FX (wo.alloc (.cells #[.pointer none, .pointer none] 36)) ([wo.heap.size] ++ Foot b rb og1) fs1 fd1 := hF.step ((but_alloc wo _).more (by simp)) (fun i hi => by
        rcases List.mem_cons.1 hi with e | e
        · right; omega
        · exact .inl e)
      have hbg := begin_any (X := [wo.heap.size]) h1 ((HMV.out.trans m1).keep HG.out) (fun k hk => by simp at hk; rw [World.size_alloc]; omega) hFX0 (F := F) (by have := HFU.out; omega)
      have hbl := blk_begin M F f L1
      have hwr := hMv.but.size
      have hdb := hS.hd
      have hfl := foot_lt hS
      have HBG := Lib.hid hbg
      have HBL := Lib.hid hbl
      have HI := Lib.hid hI
      have HFT := Lib.hid hft
      have HQ8 := Lib.hid hq8
      have HM1 := Lib.hid (HMV.out.trans m1)
      have HRR := Lib.hid hR
      have HFF := Lib.hid hf
      have HFL := Lib.hid hfl
      clear h1 m1 hI hft hFX0 hbg hbl hR hf hS hB hF hMv HS HFX hl00 hq8 hfl
      go_wp2_with fail
      refine HBG.out.mono ?_
      rintro e w2 ⟨l2, p1, p2, er, og2, rfl, hMv, he1, he2⟩
      have hI2 := HI.out.but hMv.but HFT.out
      have t0 : w2.cell? ⟨wo.heap.size, 0, none⟩ = some (.pointer none) := hI2.cell 0
      have t1 : w2.cell? ⟨wo.heap.size, 1, none⟩ = some (.pointer none) := hI2.cell 1
      have v0 : w2.frozen? ⟨wo.heap.size, 0, none⟩ = false := hI2.free 0
      have v1 : w2.frozen? ⟨wo.heap.size, 1, none⟩ = false := hI2.free 1
      have hns := hMv.notin HFT.out (by rw [World.size_alloc]; omega)
      have HM2 := Lib.hid (HM1.out.trans hMv)
      have HE1 := Lib.hid he1
      have HE2 := Lib.hid he2
      have HI2 := Lib.hid hI2
      have HNS := Lib.hid hns
      clear hMv he1 he2 hI2 hns HBG
      by_cases her : er = 0
      · obtain ⟨q2, L2, o, fs2, fd2, hr, hl2, hS2, hF2, hT2⟩ := HE2.out her
        have hadv := rBegin_adv M F L1 HQ8.out hr
        have hR2 : blkN M F f (l2, L2, o) s q2 = R := by
          rw [← HRR.out, HBL.out]; exact (bind_val hr).symm
        have HR2 := Lib.hid hR2
        have HADV := Lib.hid hadv
        have HS2 := Lib.hid hS2
        have HF2 := Lib.hid hF2
        have HT2 := Lib.hid hT2
        clear hR2 hadv hS2 hF2 hT2 hr HE1 HE2 HRR
        subst her
        have c := pair_in (p1 := .pointer p1) (p2 := .pointer p2) HI2.out
        have s3 := HS2.out.away c.2 (fun k hk => by
          obtain rfl : k = wo.heap.size := by simpa using hk
          have := HFL.out b (by simp [Foot])
          exact ⟨HNS.out, by omega⟩)
        have f3 := HF2.out.step (F' := Foot b rb og2) (c.2.more (by simp)) (fun i hi => .inl (List.mem_append_right _ hi))
        have k3 := HT2.out.step (F' := Foot b rb og2) (c.2.more (by simp)) (fun i hi => .inl (List.mem_append_right _ hi))
        have m3 : Mv b rb w ((w2.setCell ⟨wo.heap.size, 0, none⟩ (.pointer p1)).setCell ⟨wo.heap.size, 1, none⟩ (.pointer p2)) og og2 := ⟨(HM2.out.but.setCell (.inr hwr) _).setCell (.inr hwr) _, HM2.out.own⟩
        have HI3 := Lib.hid c.1
        have HS3 := Lib.hid s3
        have HF3 := Lib.hid f3
        have HK3 := Lib.hid k3
        have HM3 := Lib.hid m3
        clear c s3 f3 k3 m3 HS2 HF2 HT2 HM1 HI HFT HM2 HI2 HMV
        go_wp2_with fail
        generalize ((w2.setCell ⟨wo.heap.size, 0, none⟩ (.pointer p1)).setCell ⟨wo.heap.size, 1, none⟩ (.pointer p2)) = w3 at *
        clear t0 t1 v0 v1
        rcases o with _ | ⟨ls, ds⟩
        · obtain ⟨rfl, rfl⟩ := HK3.out
          have t0 : w3.cell? ⟨wo.heap.size, 0, none⟩ = some (.pointer none) := HI3.out.cell 0
          go_loopg [3, 6] 0 (fun g ev _ wr => ev = .int .i64 0 ∧ wr = w3)
          case atStart => exact ⟨rfl, rfl⟩
          case round =>
            obtain ⟨rfl, rfl⟩ := hrel
            go_wp2
            go_roundg f
            case measure => omega
            case rel => exact ⟨l2, L2, q2, og2, fs2, fd2, rfl, rfl, HS3.out, HM3.out, HF3.out, blkRel_next hl2 HR2.out (by have := HADV.out; have := HFF.out; omega)⟩
        · obtain ⟨hc1, hc2, b1, b2, rfl, rfl, hk1, hk2⟩ := HK3.out
          obtain ⟨R2, hR2e⟩ : ∃ R2, R2 = symG ls ds M F L2 s q2 := ⟨_, rfl⟩
          have hRb : rBind (symG ls ds M F L2) (fun L2 => if l2 ≠ 0 then rPure L2 else blkG M F f L2) s q2 = R := HR2.out
          have hRe : ∀ e, R2 = .error e → R = .error e := fun e he => by
            have k : symG ls ds M F L2 s q2 = .error e := hR2e.symm.trans he
            rw [← hRb]; exact bind_err k
          have hRk : ∀ a q, R2 = .ok (a, q) → (if l2 ≠ 0 then rPure a else blkG M F f a) s q = R := fun a q he => by
            have k : symG ls ds M F L2 s q2 = .ok (a, q) := hR2e.symm.trans he
            rw [← hRb, bind_val k]
          have HRE := Lib.hid hRe
          have HRK := Lib.hid hRk
          have hst : symG ls ds M F L2 s q2 = R2 ∧ 8 * s.size - q2 < F := ⟨hR2e.symm, by have := HFU.out; omega⟩
          have hq2 := HADV.out
          have HST := Lib.hid hst
          have HQ2 := Lib.hid hq2
          have HC1 := Lib.hid hc1
          have HC2 := Lib.hid hc2
          have HK1 := Lib.hid hk1
          have HK2 := Lib.hid hk2
          clear hR2e hRb hRe hRk hst hc1 hc2 hk1 hk2 HK3 HR2 hq2
          go_loopg [3, 6] F (fun g ev _ wr => ∃ (L3 : List UInt8) (q3 : Nat) (og3 : Option Nat), ev = .int .i64 0 ∧ SS wr b rb db og3 s q3 M L3 fs2 fd2 ∧ Mv b rb w wr og og3 ∧ FX wr (Foot b rb og3) fs2 fd2 ∧
            Keep (Foot b rb og3) wr (fun x => TT x b1 ls) ∧ Keep (Foot b rb og3) wr (fun x => TT x b2 ds) ∧ Is wr wo.heap.size 36 #[.pointer (some ⟨b1, 0, none⟩), .pointer (some ⟨b2, 0, none⟩)] ∧ wo.heap.size ∉ Foot b rb og3 ∧ Hid (symG ls ds M g L3 s q3 = R2 ∧ 8 * s.size - q3 < g) ∧ q2 ≤ q3)
          case atStart => exact ⟨L2, q2, og2, rfl, HS3.out, HM3.out, HF3.out, HK1.out, HK2.out, HI3.out, HNS.out, HST.out, Nat.le_refl _⟩
          case round =>
            obtain ⟨L3, q3, og3, rfl, hS, hMv, hF, hk1, hk2, hI, hns, HG3, hq23⟩ := hrel
            obtain ⟨g, hge⟩ : ∃ g, gk = g + 1 := ⟨gk - 1, by have := HG3.out.2; omega⟩
            subst hge
            obtain ⟨wi, rfl⟩ : ∃ wi : World, wi = wr := ⟨_, rfl⟩
            have t0 : wi.cell? ⟨wo.heap.size, 0, none⟩ = some (.pointer (some ⟨b1, 0, none⟩)) := hI.cell 0
            have t1 : wi.cell? ⟨wo.heap.size, 1, none⟩ = some (.pointer (some ⟨b2, 0, none⟩)) := hI.cell 1
            have hin := hS.inCell
            have hnx := hS.drew.next HC1.out (Mv.drew.keep hk1)
            have hq8 := hS.rs.1
            have HNX := Lib.hid hnx
            have HMI := Lib.hid hMv
            have HFI := Lib.hid hF
            have HKI1 := Lib.hid hk1
            have HKI2 := Lib.hid hk2
            have HII := Lib.hid hI
            have HNI := Lib.hid hns
            have HQ83 := Lib.hid hq8
            have hrl := hI.lt
            clear hnx hMv hF hk1 hk2 hI hns hS HS3 HM3 HF3 HK1 HK2 HI3 HST hq8
            go_upto_region 9 with (fail)
            go_cut [3, 6] from 17 to 39 (fun v3 v6 wc => ∃ (t : Nat) (er : Int) (q : Nat), v6 = .int .i64 t ∧ v3 = .int .i64 er ∧ Hid (Mv b rb wi wc og3 og3) ∧ Hid (er ≠ 0 → rNext ls s q3 = .error er) ∧ Hid (er = 0 → rNext ls s q3 = .ok (t, q) ∧ SS wc b rb db og3 s q M L3 fs2 fd2))
            case first =>
              have t0' : wi.drew.cell? ⟨wo.heap.size, 0, none⟩ = some (.pointer (some ⟨b1, 0, none⟩)) := t0
              have hin' : wi.drew.cell? ⟨b, 0, none⟩ = some (.pointer (some ⟨rb, 0, none⟩)) := hin
              go_region_with (go_at_call 18; refine HNX.out.mono ?_; rintro e w4 ⟨v, er, q, rfl, hMv, he1, he2⟩; have HMV := Lib.hid hMv; have HE1 := Lib.hid he1; have HE2 := Lib.hid he2; clear hMv he1 he2)
              all_goals
                (try go_wp2)
                go_meet
                exact ⟨_, _, _, rfl, rfl, Mv.drew.trans HMV.out, HE1.out, HE2.out⟩
            case rest =>
              obtain ⟨t, er, q4, rfl, rfl, HMV, HE1, HE2⟩ := hcut
              obtain ⟨w4, rfl⟩ : ∃ w4 : World, w4 = wc := ⟨_, rfl⟩
              clear HNX hin t0 t1
              have hst := sym_step ls ds M g L3
              have HSTEP := Lib.hid hst
              clear hst
              by_cases her : er = 0
              · obtain ⟨hr, hS4⟩ := HE2.out her
                have hadv := rNext_adv' ls HQ83.out hr
                have HRN := Lib.hid hr
                have HS4 := Lib.hid hS4
                have HADV4 := Lib.hid hadv
                clear hr hS4 hadv HE1 HE2
                subst her
                by_cases ht : t = 256
                · subst ht
                  have hR2k : R2 = .ok (L3, q4) := by
                    rw [← HG3.out.1, HSTEP.out, bind_val HRN.out]; rfl
                  have HR2K := Lib.hid hR2k
                  clear hR2k
                  go_wp2
                  go_roundg f
                  case measure => omega
                  case rel =>
                    exact ⟨l2, L3, q4, og3, fs2, fd2, rfl, rfl, HS4.out, HMI.out.trans HMV.out, HFI.out.mv (X := []) HMV.out, blkRel_next hl2 (HRK.out _ _ HR2K.out) (by have := HADV.out; have := HFF.out; have := HADV4.out; omega)⟩
                · have d256 : ((t : Int) == 256) = false := by simp; omega
                  have hI4 := HII.out.but HMV.out.but HNI.out
                  have t0 : w4.cell? ⟨wo.heap.size, 0, none⟩ = some (.pointer (some ⟨b1, 0, none⟩)) := hI4.cell 0
                  have t1 : w4.cell? ⟨wo.heap.size, 1, none⟩ = some (.pointer (some ⟨b2, 0, none⟩)) := hI4.cell 1
                  have hpr := produce_any (x := some ⟨b1, 0, none⟩) HS4.out HC2.out (HMV.out.keep HKI2.out) t ht
                  have HPR := Lib.hid hpr
                  have HI4 := Lib.hid hI4
                  have hrl4 := hI4.lt
                  have hg1 : symG ls ds M (g + 1) L3 s q3 = rBind (rProd ds M t L3) (symG ls ds M g) s q4 := by
                    rw [HSTEP.out, bind_val HRN.out, if_neg ht]
                  have HG1 := Lib.hid hg1
                  clear hpr hI4 hg1 ht
                  go_wp2_with fail
                  refine HPR.out.mono ?_
                  rintro e w5 ⟨er, L5, q5, og5, rfl, hMv5, he1, he2⟩
                  have HM5 := Lib.hid hMv5
                  have HE1 := Lib.hid he1
                  have HE2 := Lib.hid he2
                  clear hMv5 he1 he2 t0 t1
                  by_cases her : er = 0
                  · obtain ⟨hr5, hS5⟩ := HE2.out her
                    have hpa := rProd_adv ds M t L3 s q4 L5 q5 HADV4.out.2 hr5
                    have hg5 : symG ls ds M g L5 s q5 = R2 := by
                      rw [← HG3.out.1, HG1.out]; exact (bind_val hr5).symm
                    have HG5 := Lib.hid hg5
                    have HPA := Lib.hid hpa
                    have HS5 := Lib.hid hS5
                    clear hr5 hS5 hpa hg5 HE1 HE2
                    subst her
                    go_wp2
                    go_roundg g
                    case measure => omega
                    case rel =>
                      have m5 := HMV.out.trans HM5.out
                      refine ⟨L5, q5, og5, rfl, HS5.out, HMI.out.trans m5, HFI.out.mv (X := []) m5, m5.keep HKI1.out, m5.keep HKI2.out, HI4.out.but HM5.out.but (HMV.out.notin HNI.out hrl), m5.notin HNI.out hrl, ⟨HG5.out, ?_⟩, ?_⟩
                      · have := HG3.out.2; have := HADV4.out; have := HPA.out; omega
                      · have := HADV4.out; have := HPA.out; omega
                  · have d2 : (er != 0) = true := by simpa using her
                    have HER := Lib.hid her
                    have hR2k : R2 = .error er := by
                      rw [← HG3.out.1, HG1.out]; exact bind_err (HE1.out her)
                    have HR2K := Lib.hid hR2k
                    clear her hR2k
                    go_wp2
                    try rw [Exit.noGoto_ret]
                    go_ret
                    exact ⟨er, og5, rfl, HMI.out.trans (HMV.out.trans HM5.out), fun _ => HRE.out _ HR2K.out, fun e => absurd e HER.out⟩
              · have d2 : (er != 0) = true := by simpa using her
                have HER := Lib.hid her
                have hR2k : R2 = .error er := by
                  rw [← HG3.out.1, HSTEP.out]; exact bind_err (HE1.out her)
                have HR2K := Lib.hid hR2k
                clear her hR2k
                go_wp2
                try rw [Exit.noGoto_ret]
                go_ret
                exact ⟨er, og3, rfl, HMI.out.trans HMV.out, fun _ => HRE.out _ HR2K.out, fun e => absurd e HER.out⟩
      · have d2 : (er != 0) = true := by simpa using her
        have HER := Lib.hid her
        clear her
        go_wp2
        try rw [Exit.noGoto_ret]
        go_ret
        refine ⟨er, og2, rfl, ⟨(HM2.out.but.setCell (.inr hwr) _).setCell (.inr hwr) _, HM2.out.own⟩, fun _ => ?_, fun e => absurd e HER.out⟩
        rw [← HRR.out, HBL.out]; exact bind_err (HE1.out HER.out)
end
end Go.Proofs.YtobmghjpfkdooaaDoor
