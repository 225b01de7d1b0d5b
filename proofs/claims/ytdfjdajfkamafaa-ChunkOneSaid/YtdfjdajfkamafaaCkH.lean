/- The walks of the statements on joining, and that a file of chunks has these chunks. -/
import Derived.Test.YtdfjdajfkamafaaCkG
set_option maxRecDepth 100000
set_option linter.unusedVariables false
namespace Go.Proofs.Ytdfjdajfkamafaa
set_option maxRecDepth 100000
open Go Go.RowKit
theorem own_madeC (w : World) : (w.alloc (.cells #[] 35)).ownsRow w.heap.size 35 2 (.slice (some ⟨w.heap.size, 0, none⟩) 0 0) 0 [] :=
  ⟨rfl, .inr ⟨w.heap.size, 0, #[], rfl, Nat.le_refl _, Is.fresh w 35 #[], Nat.le_refl _, Nat.zero_le _, rfl, rfl⟩⟩
theorem sizeC_len : ∀ (L : List Ck), 12 * L.length ≤ sizeC L
  | [] => Nat.le_refl _
  | c :: L => by
    have := sizeC_len L
    rw [sizeC_cons, List.length_cons]; omega
theorem few_is {L : List Ck} : fewC L = true ↔ sizeC L ≤ 100000 := by unfold fewC; exact decide_eq_true_iff
theorem join_small (L : List Ck) : (joinT L).1.length ≤ 8 + sizeC L := by
  unfold joinT
  split
  · show (signL ++ encs L).length ≤ _
    have h := encs_size L
    have h8 : signL.length = 8 := rfl
    rw [List.length_append, h8]; omega
  · exact Nat.zero_le _
set_option maxHeartbeats 2000000 in
theorem chunkJoins_walk {A : Option Addr} {len cap : Nat} {L : List Ck} {w : World} (hl : CkArg w A len cap L) :
    Calls Try.prog 4 #[.slice A len cap] w fun e w' => e = .returned (.bool true) ∧ Below w.heap.size w w' := by
  obtain ⟨hT, hlc, hcm, hnil, hsz⟩ := hl
  have HA := Lib.hid (fun v => awake7_any v)
  have hfw := few_any w (cap := cap) hT (by omega) hsz
  by_cases hbig : fewC L = false
  · rw [hbig] at hfw
    have HF := Lib.hid hfw
    clear hT hnil hfw hsz hbig
    go_enter Try.func4, Try.ntmps4
    go_wp2_with fail
    refine HF.out.mono ?_
    rintro e w0 ⟨rfl, hB0⟩
    have HB0 := Lib.hid hB0
    clear hB0
    go_wp2_with fail
    refine (HA.out w0).mono ?_
    rintro e w1 ⟨rfl, hB1⟩
    have HB1 := Lib.hid (HB0.out.trans hB1)
    clear hB1
    go_wp2
    go_ret
    exact ⟨rfl, HB1.out.belowC⟩
  · have hfew : fewC L = true := by simpa using hbig
    have hsc := few_is.1 hfew
    have hln := sizeC_len L
    have hLL := hT.1
    have hlen : len ≤ 10000 := by omega
    rw [hfew] at hfw
    have HF := Lib.hid hfw
    obtain ⟨i0, hi0, hz0, hz1, hz2⟩ := info_parts info_ck
    have HLEN := Lib.hid hLL
    have HSC := Lib.hid hsc
    have HNIL := Lib.hid hnil
    have HT := Lib.hid hT
    clear hnil hT hfw hsz hbig hfew hsc hln hLL
    go_enter Try.func4, Try.ntmps4
    go_wp2_with fail
    refine HF.out.mono ?_
    rintro e w0 ⟨rfl, hB0⟩
    have HB0 := Lib.hid hB0
    have HT0 := Lib.hid (HT.out.but hB0)
    have HMADE := Lib.hid (own_madeC w0)
    clear hB0 HT
    go_upto_region 3 with (fail)
    go_cut [3] from 12 to 14 (fun v w1 => ∃ A' c', v = .slice A' len c' ∧ Cks w1 A' len L ∧ But [] w0 w1)
    case first =>
      by_cases h0 : len = 0
      · subst h0
        have HL0 := Lib.hid (show L = [] from List.eq_nil_of_length_eq_zero HLEN.out)
        go_wp2_with (at_builtin; refine wpList_append_fits_any _ rfl _ _ 23 rfl w0.heap.size 35 i0 2 Try.underlying23 hi0 hz1 w0.heap.size 0 0 [] rfl HMADE.out A 0 cap [] rfl rfl (fun e => ⟨rfl, HNIL.out e⟩) (fun ad _ j u hu => by simp at hu) (by simp) (by omega) ?_; intro w1 hown hgrow)
        go_meet
        refine ⟨some ⟨w0.heap.size, 0, none⟩, 0, rfl, ?_, ((But.refl [] w0).alloc _).grown hgrow (fun g e => by injection e with e; subst e; exact .inr (Nat.le_refl _))⟩
        rw [HL0.out]; exact Cks.nil _ _
      · obtain ⟨g, o, _, rfl, hg, _, _, _⟩ := HT0.out.at (show 0 < len by omega)
        have HNW := Lib.hid ((HT0.out.but ((But.refl [] w0).alloc (.cells #[] 35))).news (by omega))
        go_wp2_with (at_builtin; refine wpList_append_own _ rfl _ _ 23 rfl w0.heap.size 35 i0 (.agg #[.string ByteArray.empty, .string ByteArray.empty]) 2 32 Try.underlying23 hi0 hz0 hz1 hz2 rfl (by decide) _ 0 [] rfl HMADE.out ⟨g, o, none⟩ len cap (ckCells L) rfl (by rw [length_ckCells, HLEN.out]) HNW.out ?c2 ?c3 ?c4 ?c5 ?_)
        case c2 =>
          intro u hu
          unfold ckCells at hu
          obtain ⟨x, _, hx⟩ := List.mem_flatMap.1 hu
          simp at hx
          rcases hx with rfl | rfl <;> rfl
        case c3 => unfold maxLen; omega
        case c4 => omega
        case c5 => simp
        intro v' w1 hown hgrow _
        obtain ⟨g4, c4, rfl⟩ : ∃ g4 c4, v' = .slice (some ⟨g4, 0, none⟩) len c4 := by
          rcases hown.2 with ⟨_, e⟩ | ⟨g4, c4, cur, e, _⟩
          · omega
          · exact ⟨g4, c4, by simpa using e⟩
        have hO : OwnC w1 w0.heap.size (.slice (some ⟨g4, 0, none⟩) len c4) L := by
          unfold OwnC
          rw [HLEN.out]
          simpa using hown
        obtain ⟨A5, c5, e5, hK5⟩ := hO.open
        injection e5 with e3 e4 e6
        rw [← e3, HLEN.out] at hK5
        have HK5 := Lib.hid hK5
        have HGR := Lib.hid hgrow
        clear hown hgrow hO hK5 e3 e4 e6
        go_wp2
        go_meet
        exact ⟨some ⟨g4, 0, none⟩, c4, rfl, HK5.out, ((But.refl [] w0).alloc _).grown HGR.out (fun g e => by
          have : w0.heap.size = g := by simpa [Value.ownBlock] using e
          exact .inr (by omega))⟩
    case rest =>
      obtain ⟨A', c', rfl, hO, hB⟩ := hcut
      obtain ⟨w1, rfl⟩ : ∃ w1 : World, w1 = wc := ⟨_, rfl⟩
      have HB := Lib.hid (HB0.out.trans hB)
      have HTO := Lib.hid hO
      have HTL := Lib.hid (HT0.out.but hB)
      clear hB hO HMADE HNIL HB0 HT0
      obtain ⟨x, y, hxy⟩ : ∃ x y, tellJ (joinT L) = .returned (.tuple #[.string x, .int .i64 y]) := ⟨_, _, rfl⟩
      have hE := fun v h => pjoin_any v (A := A') (n := len) (cap := c') (L := L) h (by have := HSC.out; have := sizeD_le L; omega) (by omega)
      have hF := fun v h => ejoin_any v (A := A) (n := len) (cap := cap) (L := L) h (by have := HSC.out; have := sizeD_le L; omega) (by omega)
      simp only [hxy] at hE hF
      have HE := Lib.hid hE
      have HF2 := Lib.hid hF
      clear hxy hE hF
      go_wp2_with fail
      refine (HE.out w1 HTO.out).mono ?_
      rintro e w2 ⟨rfl, hB⟩
      have HB2 := Lib.hid (HB.out.trans hB)
      have HTO2 := Lib.hid (HTO.out.but hB)
      have HTL2 := Lib.hid (HTL.out.but hB)
      clear hB HE HTO HTL
      go_wp2_with fail
      refine (HF2.out w2 HTL2.out).mono ?_
      rintro e w3 ⟨rfl, hB⟩
      have HB3 := Lib.hid (HB2.out.trans hB)
      have hsm := Cks.same (c1 := c') (c2 := cap) (HTO2.out.but hB) (HTL2.out.but hB) (by omega) (by omega)
      rw [show decide (L = L) = true by simp] at hsm
      have HSM := Lib.hid hsm
      clear hB hsm HF2
      go_wp2_with fail
      refine HSM.out.mono ?_
      rintro e w4 ⟨rfl, hB⟩
      have HB4 := Lib.hid (HB3.out.trans hB)
      clear hB
      go_wp2_with fail
      refine (HA.out w4).mono ?_
      rintro e w5 ⟨rfl, hB⟩
      have HB5 := Lib.hid (HB4.out.trans hB)
      clear hB
      go_wp2
      go_ret
      exact ⟨rfl, HB5.out.belowC⟩
end Go.Proofs.Ytdfjdajfkamafaa
