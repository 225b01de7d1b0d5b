/- The walk of the statement on symbols that are laid. -/
import Derived.Test.YtmafcmfafcjokaaRMake
import Derived.BigRegion
import Derived.Deep.RegionWith
namespace Go.Proofs.Ytmafcmfafcjokaa
open Go Go.RowKit

theorem chk_range {l : List Int} (h : chk l = 0) : ∀ x ∈ l, 0 ≤ x ∧ x ≤ 15 := by
  obtain ⟨h1, h2, h3, h4⟩ := chk_zero h
  unfold okLens at h2
  intro x hx
  have := List.all_eq_true.1 h2 x hx
  unfold okLen at this
  simpa using this

set_option maxRecDepth 100000 in
set_option maxHeartbeats 2000000 in
theorem huffLays_walk {A A2 : Option Addr} {len cap len2 cap2 : Nat} {l l2 : List Int} {w : World} (hl : Ints w A len l) (hb : len * 8 ≤ 140737488351232) (hnil : A = none → cap = 0) (_hf : Fits l)
    (hl2 : Ints w A2 len2 l2) (_hb2 : len2 * 8 ≤ 140737488351232) (_hnil2 : A2 = none → cap2 = 0) (_hf2 : Fits l2) :
    Calls Try.prog 6 #[.slice A len cap, .slice A2 len2 cap2] w fun e w' => e = .returned (.bool true) ∧ Below w.heap.size w w' := by
  have hm : len ≤ maxLen := by unfold maxLen; omega
  by_cases hc : chk l = 0
  · have hok := chk_range hc
    have HOK := Lib.hid hok
    have HC := Lib.hid hc
    have HNIL := Lib.hid hnil
    have hmk := make_any hl hb hnil hc
    clear hok hc hnil
    go_enter Try.func6, Try.ntmps6
    go_wp2_with fail
    refine hmk.mono ?_
    rintro e w1 ⟨bt, rfl, hT, hB1⟩
    have hmk2 := rmake_any (hl.but hB1 (by simp)) hb HNIL.out HC.out
    go_wp2_with fail
    refine hmk2.mono ?_
    rintro e w2 ⟨bu, rfl, hU, hB2⟩
    have hT2 := hT.but hB2
    have hl2' := hl2.but (hB1.trans hB2) (by simp)
    have HB := Lib.hid (hB1.trans hB2)
    clear hmk2 hmk hl hl2 hT hB1 hB2
    go_wp2_with fail
    refine (new_at w2 w2.heap.size _ rfl).mono ?_
    rintro e w3 ⟨rfl, hW1, hB3, hs3⟩
    have hW := hW1.but ((But.refl [] w3).alloc (.cells #[.slice none 0 0, .int .i64 0] 53)) (by simp) (by simp)
    have hF := fw_new w3 w2.heap.size
    have hBw := hB3.alloc (.cells #[.slice none 0 0, .int .i64 0] 53)
    rw [hs3] at hF
    have hP : Pair w2 (w3.alloc (.cells #[.slice none 0 0, .int .i64 0] 53)) w2.heap.size (w2.heap.size + 1) 0 0 0 0 :=
      ⟨none, none, hW, hF, (fun g e => by cases e), (fun g e => by cases e), hBw, Nat.le_refl _, by omega, by omega⟩
    have HS := Lib.hid hs3
    clear hW hF hBw hW1 hB3
    go_wp2_with fail
    have HT := Lib.hid hT2
    have HU := Lib.hid hU
    have HL2 := Lib.hid hl2'
    have HP0 := Lib.hid hP
    clear hT2 hU hl2' hP
    go_loopw [11] (fun iv wr => ∃ k X N : Nat, k ≤ len2 ∧ k ≤ 200 ∧ iv = .int .i64 k ∧ N ≤ 15 * k ∧ Pair w2 wr w2.heap.size (w2.heap.size + 1) X N X N) (fun iv _ => len2 - (intOf iv).toNat)
    case atStart => exact ⟨0, 0, 0, Nat.zero_le _, by omega, rfl, by omega, HP0.out⟩
    case round =>
      obtain ⟨k, X, N, hk, hk3, rfl, hN, hP⟩ := hrel
      clear HP0
      by_cases hlt : k < len2 ∧ k < 200
      · obtain ⟨hlt, h200⟩ := hlt
        obtain ⟨g, o, rfl, hg, hcell⟩ := HL2.out.at hlt
        generalize l2[k]'(by have := HL2.out.1; omega) = s at *
        obtain ⟨⟨X', N'⟩, hX⟩ : ∃ p, layS l s X N = p := ⟨_, rfl⟩
        obtain ⟨E, hE⟩ : ∃ E, layE l s = E := ⟨_, rfl⟩
        have hN' := layS_len HOK.out hX
        have hk0 : 0 ≤ (k : Int) := by omega
        have hkl : (k : Int) < (len2 : Int) := by omega
        have old : ∀ W : World, But [] w2 W → W.cell? ⟨g, o + k, none⟩ = some (.int .i64 s) := fun W hB => hB.cell hcell (by simp)
        have OLD := Lib.hid old
        have hP1 := hP.keep ((But.refl [] wr).drew)
        have HP1 := Lib.hid hP1
        have HP := Lib.hid hP
        have hcr := OLD.out _ hP.old
        have hcr2 := OLD.out _ hP1.old
        have HX := Lib.hid hX
        have HE := Lib.hid hE
        clear old hcell hX hE hP hP1
        go_upto_region 12 with (fail)
        go_cut [62] (fun v wx => v = .bool false ∧ Pair w2 wx w2.heap.size (w2.heap.size + 1) X' N' X' N')
        case first =>
          have hEE : (E != E) = false := by simp
          go_region_with (first | (go_at_call 26; refine (lay_any HT.out HOK.out HP1.out (by omega) HE.out HX.out).mono ?_; rintro e w4 ⟨rfl, hP4⟩; have hcr4 := OLD.out _ hP4.old; have HP4 := Lib.hid hP4; clear hP4) | (go_at_call 27; refine (rlay_any HU.out HOK.out HP4.out (by omega) HE.out HX.out).mono ?_; rintro e w5 ⟨rfl, hP5⟩; have hcr5 := OLD.out _ hP5.old; have HP5 := Lib.hid hP5; clear hP5))
          all_goals
            (try go_wp2)
            go_meet
            exact ⟨rfl, HP5.out⟩
        case rest =>
          obtain ⟨rfl, hP6⟩ := hcut
          have HP6 := Lib.hid hP6
          clear hP6
          go_wp2
          go_roundw
          case rel => exact ⟨k + 1, X', N', by omega, by omega, by go_num, by omega, HP6.out⟩
          case measure => simp [intOf]; omega
      · have HP := Lib.hid hP
        have hN9 : N ≤ 140737488355328 := by omega
        have HST := Lib.hid hlt
        have HN := Lib.hid hN
        clear hP hN hlt
        by_cases h200 : k < 200
        · have tlen : decide ((k : Int) < (len2 : Int)) = false := by have := HST.out; simp; omega
          have tlen2 : decide (k < len2) = false := by have := HST.out; simp; omega
          clear h200
          go_wp2_with fail
          refine (HP.out.text1 hN9).mono ?_
          rintro e w5 ⟨rfl, hP5⟩
          go_wp2_with fail
          refine hP5.text2.mono ?_
          rintro e w6 ⟨rfl, rfl⟩
          go_wp2_with fail
          refine (awake_any _).mono ?_
          rintro e w7 ⟨rfl, hB7⟩
          have HF := Lib.hid (((HB.out.trans hP5.old).trans hB7).belowNew)
          clear hP5 hB7
          go_wp2
          go_ret
          exact ⟨rfl, HF.out⟩
        · have t200 : decide ((k : Int) < 200) = false := by simp; omega
          by_cases hk2 : k < len2
          · have tl : decide (k < len2) = true := by simp; omega
            go_wp2_with fail
            refine (HP.out.text1 hN9).mono ?_
            rintro e w5 ⟨rfl, hP5⟩
            go_wp2_with fail
            refine hP5.text2.mono ?_
            rintro e w6 ⟨rfl, rfl⟩
            go_wp2_with fail
            refine (awake_any _).mono ?_
            rintro e w7 ⟨rfl, hB7⟩
            have HF := Lib.hid (((HB.out.trans hP5.old).trans hB7).belowNew)
            clear hP5 hB7
            go_wp2
            go_ret
            exact ⟨rfl, HF.out⟩
          · have tl : decide (k < len2) = false := by simp; omega
            go_wp2_with fail
            refine (HP.out.text1 hN9).mono ?_
            rintro e w5 ⟨rfl, hP5⟩
            go_wp2_with fail
            refine hP5.text2.mono ?_
            rintro e w6 ⟨rfl, rfl⟩
            go_wp2_with fail
            refine (awake_any _).mono ?_
            rintro e w7 ⟨rfl, hB7⟩
            have HF := Lib.hid (((HB.out.trans hP5.old).trans hB7).belowNew)
            clear hP5 hB7
            go_wp2
            go_ret
            exact ⟨rfl, HF.out⟩
  · have hmk := make_err (cap := cap) hl hm hc
    have hck := rmake_err (cap := cap) hl hm hc
    have hx0 : (chk l == 0) = false := by simpa using hc
    generalize chk l = x at *
    have HM := Lib.hid hmk
    have HCK := Lib.hid hck
    clear hmk hc hnil hck hl
    go_enter Try.func6, Try.ntmps6
    go_wp2_with fail
    refine HM.out.mono ?_
    rintro e w1 ⟨rfl, rfl⟩
    go_wp2_with fail
    refine HCK.out.mono ?_
    rintro e w2 ⟨rfl, rfl⟩
    go_wp2_with fail
    refine (awake_any _).mono ?_
    rintro e w3 ⟨rfl, hB3⟩
    have HF := Lib.hid hB3.belowNew
    go_wp2
    go_ret
    exact ⟨rfl, HF.out⟩
end Go.Proofs.Ytmafcmfafcjokaa
