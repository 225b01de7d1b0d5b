/- The walk of the statement that a file of chunks has these chunks. -/
import Derived.Test.YtdfjdajfkamafaaCkH
set_option maxRecDepth 100000
set_option linter.unusedVariables false
namespace Go.Proofs.Ytdfjdajfkamafaa
set_option maxRecDepth 100000
open Go Go.RowKit
theorem sizeC_ok : ∀ (L : List Ck), L.all okC = true → sizeC L ≤ 2 * (encs L).length
  | [], _ => Nat.zero_le _
  | c :: L, h => by
    rw [List.all_cons, Bool.and_eq_true] at h
    have h1 := sizeC_ok L h.2
    have h4 := rightT_length ((okC_iff c).1 h.1).1
    rw [sizeC_cons]
    show _ ≤ 2 * (encC c ++ encs L).length
    rw [List.length_append]
    have : (encC c).length = 8 + c.1.length + c.2.length := by
      unfold encC
      simp only [List.length_append, fourL_length]
      omega
    omega
theorem join_all {L : List Ck} (h : L.all okC = true) : joinT L = (signL ++ encs L, 0) := by unfold joinT; rw [if_pos h]
theorem join_not {L : List Ck} (h : ¬ L.all okC = true) : joinT L = ([], 21) := by unfold joinT; rw [if_neg h]
set_option maxHeartbeats 2000000 in
theorem chunkBack_walk {A : Option Addr} {len cap : Nat} {L : List Ck} {s : ByteArray} {w : World} (hl : CkArg w A len cap L) (hs : s.size ≤ 140737488351232) :
    Calls Try.prog 5 #[.slice A len cap, .string s] w fun e w' => e = .returned (.bool true) ∧ Below w.heap.size w w' := by
  obtain ⟨hT, hlc, hcm, hnil, hsz⟩ := hl
  have HA := Lib.hid (fun v => awake7_any v)
  have HF := Lib.hid (few_any w (cap := cap) hT (by omega) hsz)
  have HT := Lib.hid hT
  have HLEN := Lib.hid hT.1
  have HSL := Lib.hid (show s.data.toList.length = s.size by simp)
  clear hT hnil hsz
  go_enter Try.func5, Try.ntmps5
  go_wp2_with fail
  refine HF.out.mono ?_
  rintro e w0 ⟨rfl, hB0⟩
  have HB0 := Lib.hid hB0
  clear hB0
  obtain ⟨r, hr⟩ : ∃ r, r = fewC L := ⟨_, rfl⟩
  rw [← hr]
  have HRF := Lib.hid hr
  clear hr
  go_upto_if 14 with (fail)
  go_cut [] from 15 to 40 (fun wx => Hid (But [] w wx))
  case first =>
    by_cases hbig : r = false
    · subst hbig
      go_wp2
      go_meet
      exact HB0
    · obtain rfl : r = true := by simpa using hbig
      have hfew : fewC L = true := HRF.out.symm
      have hsc := few_is.1 hfew
      have hln := sizeC_len L
      have hLL := HLEN.out
      have hlen : len ≤ 10000 := by omega
      have HJ := Lib.hid (pjoin_any w0 (cap := cap) (HT.out.but HB0.out) (by have := sizeD_le L; omega) (by omega))
      have HSC := Lib.hid hsc
      clear hbig hfew hsc hln hLL
      by_cases ha : L.all okC = true
      · have hjs := join_small L
        rw [join_all ha] at HJ hjs
        have HSP := Lib.hid (fun v => psplit_any v (F := signL ++ encs L) (by have h1 : (signL ++ encs L).length ≤ 8 + sizeC L := hjs; have := HSC.out; omega))
        rw [split_join ha] at HSP
        obtain ⟨F, hF⟩ : ∃ F, F = signL ++ encs L := ⟨_, rfl⟩
        rw [← hF] at HJ HSP
        unfold tellJ at HJ
        clear hF ha hjs
        go_wp2_with fail
        refine HJ.out.mono ?_
        rintro e w1 ⟨rfl, hB⟩
        have HB1 := Lib.hid (HB0.out.trans hB)
        clear hB
        go_wp2_with fail
        refine (HSP.out w1).mono ?_
        rintro e w2 ⟨v, rfl, hO, hB⟩
        obtain ⟨A2, c2, rfl, hK2⟩ := hO.open
        have HB2 := Lib.hid (HB1.out.trans hB)
        have hsm := Cks.same (c1 := cap) (c2 := c2) (HT.out.but HB2.out) hK2 (by omega) (by show L.length ≤ _; rw [HLEN.out]; omega)
        rw [show decide (L = (L, (0 : Int)).1) = true by simp] at hsm
        have HSM := Lib.hid hsm
        clear hB hsm hO hK2
        go_wp2_with fail
        refine HSM.out.mono ?_
        rintro e w3 ⟨rfl, hB⟩
        have HB3 := Lib.hid (HB2.out.trans hB)
        clear hB
        go_wp2
        go_meet
        exact HB3
      · rw [join_not ha] at HJ
        have HJ2 : Hid (Calls Try.prog 14 #[.slice A len cap] w0 fun e w' => e = .returned (.tuple #[.string ⟨#[]⟩, .int .i64 21]) ∧ But [] w0 w') := HJ
        clear ha HJ
        go_wp2_with fail
        refine HJ2.out.mono ?_
        rintro e w1 ⟨rfl, hB⟩
        have HB1 := Lib.hid (HB0.out.trans hB)
        clear hB
        go_wp2
        go_meet
        exact HB1
  case rest =>
  obtain ⟨w1, rfl⟩ : ∃ w1 : World, w1 = wc := ⟨_, rfl⟩
  have HB := hcut
  clear hcut HF HT
  obtain ⟨q, hq⟩ : ∃ q, q = decide ((s.size : Int) ≤ 100000) := ⟨_, rfl⟩
  have hq' := hq.symm
  have HQ := Lib.hid hq
  clear hq
  go_upto_if 43 with (fail)
  go_cut [] from 44 to 62 (fun wx => Hid (But [] w wx))
  case first =>
    clear hq'
    by_cases h1 : s.size ≤ 100000
    · obtain rfl : q = true := HQ.out.trans (by simp; omega)
      have d1 : decide ((s.size : Int) ≤ 100000) = true := by simp; omega
      have hp := fun v => psplit_any v (F := s.data.toList) (by rw [HSL.out]; omega)
      simp only [strL_of] at hp
      have hfw := split_few s.data.toList
      rw [HSL.out] at hfw
      obtain ⟨R, hR⟩ : ∃ R, R = splT s.data.toList := ⟨_, rfl⟩
      rw [← hR] at hfw
      simp only [← hR] at hp
      obtain ⟨M, er⟩ := R
      have HP := Lib.hid hp
      have HRR := Lib.hid hR.symm
      have hml : M.length ≤ 100000 := by have : M.length ≤ s.size := hfw; omega
      clear hp hR hfw h1
      by_cases he : er = 0
      · subst he
        obtain ⟨ha, he⟩ := join_split HRR.out
        have hjn := join_all ha
        rw [he] at hjn
        have hso := sizeC_ok M ha
        have hel : (encs M).length ≤ s.size := by
          have h := congrArg List.length he
          rw [List.length_append, HSL.out] at h
          omega
        have hs5 : s.size ≤ 100000 := by have h := d1; simp at h; omega
        have HJ := Lib.hid (fun v A c h => pjoin_any v (A := A) (n := M.length) (cap := c) (L := M) h (by have := sizeD_le M; omega) (by omega))
        rw [hjn] at HJ
        unfold tellJ at HJ
        simp only [strL_of] at HJ
        clear ha he hjn hso hel
        go_wp2_with fail
        refine (HP.out w1).mono ?_
        rintro e w2 ⟨v, rfl, hO, hB⟩
        obtain ⟨A2, c2, rfl, hK2⟩ := hO.open
        have HB2 := Lib.hid (HB.out.trans hB)
        have HK2 := Lib.hid hK2
        clear hB hO hK2
        go_wp2_with fail
        refine (HJ.out w2 A2 c2 HK2.out).mono ?_
        rintro e w3 ⟨rfl, hB⟩
        have HB3 := Lib.hid (HB2.out.trans hB)
        clear hB
        go_wp2
        go_meet
        exact HB3
      · have d2 : (er == 0) = false := by simpa using he
        clear he
        go_wp2_with fail
        refine (HP.out w1).mono ?_
        rintro e w2 ⟨v, rfl, hO, hB⟩
        have HB2 := Lib.hid (HB.out.trans hB)
        obtain ⟨A2, c2, rfl, hK2⟩ := hO.open
        clear hB hO hK2
        go_wp2
        go_meet
        exact HB2
    · obtain rfl : q = false := HQ.out.trans (by simp; omega)
      clear h1
      go_wp2
      go_meet
      exact HB
  case rest =>
  obtain ⟨w2, rfl⟩ : ∃ w2 : World, w2 = wc := ⟨_, rfl⟩
  have HB2 := hcut
  clear hcut
  go_wp2_with fail
  refine (HA.out w2).mono ?_
  rintro e w3 ⟨rfl, hB⟩
  have HB3 := Lib.hid (HB2.out.trans hB)
  clear hB
  go_wp2
  go_ret
  exact ⟨rfl, HB3.out.belowC⟩
end Go.Proofs.Ytdfjdajfkamafaa
