/- The program's file of chunks. -/
import Derived.Test.YtdfjdajfkamafaaCkR
import Derived.Test.YtdfjdajfkamafaaBuB
set_option maxRecDepth 100000
set_option linter.unusedVariables false
namespace Go.Proofs.Ytdfjdajfkamafaa
set_option maxRecDepth 100000
open Go Go.RowKit
attribute [local irreducible] strL signL encs crcSum fourL
set_option maxHeartbeats 1000000 in
theorem pjoin_any (w : World) {A : Option Addr} {n cap : Nat} {L : List Ck} (hK : Cks w A n L) (hL : sizeD L ≤ 100000000) (hn : n ≤ 8796093022208) :
    Calls Try.prog 14 #[.slice A n cap] w fun e w' => e = tellJ (joinT L) ∧ But [] w w' := by
  have HLL := Lib.hid hK.1
  have hb0 := Bld.fresh w (base := w.heap.size) (Nat.le_refl _)
  have hB0 := (But.refl [] w).alloc (.cells #[.pointer none, .slice none 0 0] 45)
  have hput := bld_put signL hb0 hB0 (by unfold signL; decide)
  rw [← signL_str] at hput
  have HPUT := Lib.hid hput
  have HK := Lib.hid hK
  have HSL := Lib.hid hL
  clear hK hL hput hB0 hb0
  go_enter Try.func14, Try.ntmps14
  go_wp2_with fail
  refine HPUT.out.mono ?_
  rintro e w1 ⟨rfl, hbl, hB1⟩
  rw [List.nil_append] at hbl
  have HBL0 := Lib.hid hbl
  have HB0 := Lib.hid hB1
  clear hbl hB1 HPUT
  go_wp2_with fail
  go_loopw [11] (fun iv wr => ∃ i : Nat, i ≤ n ∧ iv = .int .i64 i ∧ Hid ((L.take i).all okC = true) ∧ Hid (Bld wr w.heap.size w.heap.size (signL ++ encs (L.take i))) ∧ Hid (But [] w wr)) (fun iv _ => n - (intOf iv).toNat)
  case atStart => exact ⟨0, Nat.zero_le _, rfl, Lib.hid (by rw [List.take_zero]; rfl), Lib.hid (by rw [List.take_zero, show encs [] = [] by unfold encs; rfl, List.append_nil]; exact HBL0.out), HB0⟩
  case round =>
    obtain ⟨i, hi, rfl, HA, HBL, HB⟩ := hrel
    have hBl : (signL ++ encs (L.take i)).length ≤ 100000008 := by
      have h1 := encs_take_ok L i HA.out
      have h2 := HSL.out
      have h8 : signL.length = 8 := by unfold signL; rfl
      rw [List.length_append, h8]; omega
    by_cases hlt : i < n
    · obtain ⟨g, o, c, rfl, hg, hc0, hc1, hat⟩ := HK.out.at hlt
      obtain ⟨t, d⟩ := c
      have hsc := sizeD_at L i (t, d) hat
      have c0 := HB.out.cell hc0 (by simp)
      have c1 := HB.out.cell hc1 (by simp)
      have k0 : (0 : Int) ≤ (i : Int) := by omega
      have k1 : (i : Int) < (n : Int) := by omega
      have hds : (strL d).size = d.length := strL_size d
      obtain ⟨m, hm⟩ : ∃ m, m = d.length := ⟨_, rfl⟩
      rw [← hm] at hds
      have hfi := fun v => pfits_any v (t := t) (m := m)
      have HM := Lib.hid hm
      have HAT := Lib.hid hat
      have HI1 := Lib.hid (Is.fresh wr 35 #[.string (strL t), .string (strL d)])
      have HBL1 := Lib.hid (HBL.out.but ((But.refl [] wr).alloc (.cells #[.string (strL t), .string (strL d)] 35)))
      have HB1 := Lib.hid (HB.out.alloc (.cells #[.string (strL t), .string (strL d)] 35))
      by_cases hok : okC (t, d) = true
      · obtain ⟨hr, hdm⟩ := (okC_iff (t, d)).1 hok
        dsimp only at hr hdm
        have h4 := right_four hr
        have hdl : m ≤ 100000000 := by have h := hsc hr; have := HSL.out; rw [hm]; dsimp only at h; omega
        have hts : (strL t).size = 4 := by rw [strL_size, h4]
        have htd : strL t ++ strL d = strL (t ++ d) := strL_ap t d
        have hcr := fun v => bits_crc (strL (t ++ d)) v (by rw [strL_size, List.length_append, h4, ← hm]; unfold maxLen; omega)
        simp only [strL_list] at hcr
        have hclt := crcSum_lt (t ++ d)
        obtain ⟨q, hq⟩ : ∃ q, q = crcSum (t ++ d) := ⟨_, rfl⟩
        simp only [← hq] at hcr
        rw [← hq] at hclt
        have hf1 := fun v => pnum_any v (n := m) (by omega)
        have hf2 := fun v => pnum_any v (n := q) (by omega)
        have hen : encC (t, d) = fourL m ++ (t ++ (d ++ fourL q)) := by rw [enc_is, hq, hm]
        simp only [hr, decide_eq_true (show m ≤ 2147483647 by omega), Bool.and_true] at hfi
        have HFI := Lib.hid hfi
        have HF1 := Lib.hid hf1
        have HF2 := Lib.hid hf2
        have HCR := Lib.hid hcr
        have HN := Lib.hid (show (L.take (i + 1)).all okC = true by rw [take_next HAT.out, List.all_append, HA.out]; simp [hok])
        have HN2 := Lib.hid (show signL ++ encs (L.take (i + 1)) = ((signL ++ encs (L.take i)) ++ fourL m) ++ (t ++ d) ++ fourL q by rw [take_next HAT.out, encs_snoc, hen]; simp only [List.append_assoc])
        have htdl : (t ++ d).length = 4 + m := by rw [List.length_append, h4, hm]
        have hB4 : (signL ++ encs (L.take i) ++ fourL m).length ≤ 100000012 := by rw [List.length_append, fourL_length]; omega
        have hB5 : (signL ++ encs (L.take i) ++ fourL m ++ (t ++ d)).length ≤ 200000016 := by rw [List.length_append, htdl]; omega
        have kd : (9223372036854775807 < 4 + m) = False := by simp; omega
        have HL1 := Lib.hid hB4
        have HL2 := Lib.hid hB5
        have HL0 := Lib.hid hBl
        have HTD := Lib.hid htdl
        clear hfi hr hf1 hf2 hcr hok hq hen h4 hm hdm hsc hc0 hc1 hat hB4 hB5 hBl htdl HB HBL hg
        go_wp2_with fail
        refine (HFI.out _).mono ?_
        rintro e w1 ⟨rfl, hw⟩
        subst hw
        go_wp2_with fail
        refine (HF1.out _).mono ?_
        rintro e w2 ⟨rfl, hB2⟩
        have HBL2 := Lib.hid (HBL1.out.but hB2)
        have HB2 := Lib.hid (HB1.out.trans hB2)
        clear hB2
        have HP1 := Lib.hid (bld_put (fourL m) HBL2.out HB2.out (by have := HL0.out; rw [fourL_length]; omega))
        go_wp2_with fail
        refine HP1.out.mono ?_
        rintro e w3 ⟨rfl, hbl3, hB3⟩
        have HP2 := Lib.hid (bld_put (t ++ d) hbl3 hB3 (by have := HL1.out; rw [HTD.out]; omega))
        clear hbl3 hB3
        go_wp2_with fail
        refine HP2.out.mono ?_
        rintro e w4 ⟨rfl, hbl4, hB4⟩
        have HBL4 := Lib.hid hbl4
        have HB4 := Lib.hid hB4
        clear hbl4 hB4
        go_wp2_with fail
        refine (HCR.out _).mono ?_
        rintro e w5 ⟨rfl, hw⟩
        subst hw
        go_wp2_with fail
        refine (HF2.out _).mono ?_
        rintro e w6 ⟨rfl, hB6⟩
        have HP3 := Lib.hid (bld_put (fourL q) (HBL4.out.but hB6) (HB4.out.trans hB6) (by have := HL2.out; rw [fourL_length]; omega))
        clear hB6
        go_wp2_with fail
        refine HP3.out.mono ?_
        rintro e w7 ⟨rfl, hbl7, hB7⟩
        rw [← HN2.out] at hbl7
        have HBL7 := Lib.hid hbl7
        have HB7 := Lib.hid hB7
        clear hbl7 hB7
        go_wp2
        go_roundw
        case rel => exact ⟨i + 1, by omega, by go_num, HN, HBL7, HB7⟩
        case measure => simp [intOf]; omega
      · have hok' : okC (t, d) = false := by simpa using hok
        have HN := Lib.hid (join_bad HAT.out hok')
        have hfo : (rightT t && decide (m ≤ 2147483647)) = false := by
          have h := hok'
          unfold okC at h
          rw [hm]; exact h
        simp only [hfo] at hfi
        have HFI := Lib.hid hfi
        clear hfi hok hok' hfo hm hsc hc0 hc1 hat HB HBL hg
        go_wp2_with fail
        refine (HFI.out _).mono ?_
        rintro e w1 ⟨rfl, hw⟩
        subst hw
        go_wp2
        go_ret2
        exact ⟨by rw [HN.out]; unfold tellJ strL; rfl, HB1.out⟩
    · obtain rfl : i = n := by omega
      have HN := Lib.hid (show joinT L = (signL ++ encs (L.take i), 0) by
        have e : L.take i = L := List.take_of_length_le (by rw [HLL.out]; exact Nat.le_refl _)
        have h1 := HA.out
        rw [e] at h1
        unfold joinT
        rw [if_pos h1, e])
      have HTX := Lib.hid (bld_text HBL.out HB.out)
      go_wp2_with fail
      refine HTX.out.mono ?_
      rintro e w1 ⟨rfl, hB1⟩
      have HB1 := Lib.hid hB1
      clear hB1
      go_wp2
      go_ret2
      exact ⟨by rw [HN.out]; rfl, HB1.out⟩
end Go.Proofs.Ytdfjdajfkamafaa
