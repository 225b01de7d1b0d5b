/- The program's first chunk of a text. -/
import Derived.Test.YtdfjdajfkamafaaCkR
import Derived.Test.YtdfjdajfkamafaaCkC
import Derived.Test.YtdfjdajfkamafaaBuA
set_option maxRecDepth 100000
set_option linter.unusedVariables false
namespace Go.Proofs.Ytdfjdajfkamafaa
set_option maxRecDepth 100000
open Go Go.RowKit
/-- The chunk that bytes begin with, what is behind it, or what is wrong with it first. -/
def firstT (s : List UInt8) : Ck × List UInt8 × Int :=
  if s.length < 8 then (([], []), [], 3) else
  if 2147483647 < ofL (s.take 4) ∨ rightT ((s.drop 4).take 4) = false then (([], []), [], 21) else
  if s.length < 12 + ofL (s.take 4) then (([], []), [], 3) else
  if (s.drop (8 + ofL (s.take 4))).take 4 ≠ fourL (crcSum ((s.drop 4).take (4 + ofL (s.take 4)))) then (([], []), [], 22) else
  (((s.drop 4).take 4, (s.drop 8).take (ofL (s.take 4))), s.drop (12 + ofL (s.take 4)), 0)
theorem splK_first {s : List UInt8} (h : s ≠ []) (out : List Ck) : splK s.length s out =
    if (firstT s).2.2 ≠ 0 then ([], (firstT s).2.2) else splK (firstT s).2.1.length (firstT s).2.1 (out ++ [(firstT s).1]) := by
  rw [splK_next h]
  by_cases h1 : s.length < 8
  · have hf : firstT s = (([], []), [], 3) := by unfold firstT; rw [if_pos h1]
    rw [if_pos h1, hf, if_pos (by decide)]
  by_cases h2 : 2147483647 < ofL (s.take 4) ∨ rightT ((s.drop 4).take 4) = false
  · have hf : firstT s = (([], []), [], 21) := by unfold firstT; rw [if_neg h1, if_pos h2]
    rw [if_neg h1, if_pos h2, hf, if_pos (by decide)]
  by_cases h3 : s.length < 12 + ofL (s.take 4)
  · have hf : firstT s = (([], []), [], 3) := by unfold firstT; rw [if_neg h1, if_neg h2, if_pos h3]
    rw [if_neg h1, if_neg h2, if_pos h3, hf, if_pos (by decide)]
  have hq : ((s.drop (8 + ofL (s.take 4))).take 4).length = 4 := by rw [List.length_take, List.length_drop]; omega
  by_cases h4 : ofL ((s.drop (8 + ofL (s.take 4))).take 4) = crcSum ((s.drop 4).take (4 + ofL (s.take 4)))
  · have h5 : (s.drop (8 + ofL (s.take 4))).take 4 = fourL (crcSum ((s.drop 4).take (4 + ofL (s.take 4)))) := by rw [← h4, four_ofL hq]
    have hf : firstT s = (((s.drop 4).take 4, (s.drop 8).take (ofL (s.take 4))), s.drop (12 + ofL (s.take 4)), 0) := by unfold firstT; rw [if_neg h1, if_neg h2, if_neg h3, if_neg (fun hh => hh h5)]
    rw [if_neg h1, if_neg h2, if_neg h3, if_neg (fun hh => hh h4), hf, if_neg (fun hh => hh rfl)]
  · have h5 : ¬ (s.drop (8 + ofL (s.take 4))).take 4 = fourL (crcSum ((s.drop 4).take (4 + ofL (s.take 4)))) := fun e => h4 (by rw [e, ofL_four (crcSum_lt _)])
    have hf : firstT s = (([], []), [], 22) := by unfold firstT; rw [if_neg h1, if_neg h2, if_neg h3, if_pos h5]
    rw [if_neg h1, if_neg h2, if_neg h3, if_pos h4, hf, if_pos (by decide)]
theorem firstT_short {s : List UInt8} (h : s ≠ []) : (firstT s).2.1.length < s.length := by
  have hp : 0 < s.length := List.length_pos_iff.2 h
  unfold firstT
  split
  · exact hp
  split
  · exact hp
  split
  · exact hp
  split
  · exact hp
  · rw [List.length_drop]; omega
theorem But.ofBelowC {w w1 w2 : World} (h : But [] w w1) (k : Below w.heap.size w1 w2) : But [] w w2 :=
  ⟨k.os.trans h.os, k.tape.trans h.tape, k.output.trans h.output, Nat.le_trans h.size k.size, fun i hi _ => (k.block i hi).trans (h.block i hi (by simp))⟩
theorem But.ofBelow1 {w w1 : World} (k : Below w.heap.size w w1) : But [] w w1 := (But.refl [] w).ofBelowC k
theorem pclone_any (w : World) {s : ByteArray} (hs : s.size ≤ 281474976710656) :
    Calls Try.prog 31 #[.string s] w fun e w' => e = .returned (.string s) ∧ But [] w w' := by
  have H := Lib.hid (stringslite_Clone s w hs)
  go_enter Try.func31, Try.ntmps31
  go_wp2_with fail
  refine H.out.mono ?_
  rintro e w1 ⟨rfl, hB⟩
  have HB := Lib.hid (But.ofBelow1 hB)
  clear hB
  go_wp2
  go_ret
  exact ⟨rfl, HB.out⟩
def GotF (w : World) (r : Ck × List UInt8 × Int) (e : Ending) (w' : World) : Prop := e = .returned (.tuple #[ckVal r.1, .string (strL r.2.1), .int .i64 r.2.2]) ∧ But [] w w'
theorem first_ret {w W : World} {b0 : Nat} {tmps : Array Value} {rest : List UInt8} {er : Int} {T D : List UInt8} {r : Ck × List UInt8 × Int}
    (hI : Is W b0 35 #[.string (strL T), .string (strL D)]) (hB : But [] w W) (h2 : tmps[2]? = some (.pointer (some ⟨b0, 0, none⟩))) (h3 : tmps[3]? = some (.string (strL rest))) (h4 : tmps[4]? = some (.int .i64 er)) (hr : r = ((T, D), rest, er)) :
    bodyPost Try.prog Try.f18 (GotF w r) Exit.ret { tmps := tmps, defers := [] } W := by
  have e0 := hI.cell 0
  have e1 := hI.cell 1
  refine bodyPost_ret (v := .tuple #[.agg #[.string (strL T), .string (strL D)], .string (strL rest), .int .i64 er]) ?_ rfl ?_
  · simp [results, Try.results18, go_sem, e0, e1, h2, h3, h4]
  · rw [hr]; exact ⟨rfl, hB⟩
theorem strL_nil : strL [] = ⟨#[]⟩ := rfl
theorem strL_nil' : strL [] = ByteArray.empty := rfl
attribute [local irreducible] strL ofL crcSum rightT fourL
set_option maxHeartbeats 1000000 in
theorem pfirst_any (w : World) {s : List UInt8} (hs : s.length ≤ 1000000000) :
    Calls Try.prog 18 #[.string (strL s)] w (GotF w (firstT s)) := by
  obtain ⟨z, hz⟩ : ∃ z, z = s.length := ⟨_, rfl⟩
  have hsz : (strL s).size = z := by rw [strL_size, hz]
  have hzb : z ≤ 1000000000 := by omega
  have hI0 := Is.fresh w 35 #[.string ByteArray.empty, .string ByteArray.empty]
  have hB0 := (But.refl [] w).alloc (.cells #[.string ByteArray.empty, .string ByteArray.empty] 35)
  obtain ⟨b0, hb0⟩ : ∃ b0, b0 = w.heap.size := ⟨_, rfl⟩
  have HI0 := Lib.hid hI0
  have HB0 := Lib.hid hB0
  by_cases h8 : s.length < 8
  · have d8 : decide ((z : Int) < 8) = true := by simp; omega
    have HN := Lib.hid (show firstT s = (([], []), [], 3) by unfold firstT; rw [if_pos h8])
    clear hI0 hB0 hz h8
    go_enter Try.func18, Try.ntmps18
    go_wp2
    exact first_ret (b0 := w.heap.size) (T := []) (D := []) (rest := []) (er := 3) (by rw [strL_nil]; exact HI0.out) HB0.out rfl (by rw [strL_nil]; rfl) rfl HN.out
  · have d8 : decide ((z : Int) < 8) = false := by simp; omega
    have k4 : ∀ W, (Instr.slice 9 (.string (strL s)) none (some (.int .i64 4)) none).run Try.prog W = .ok (.string (strL (s.take 4))) W := fun W => cut_to s (j := 4) W (by omega)
    have k48 : ∀ W, (Instr.slice 9 (.string (strL s)) (some (.int .i64 4)) (some (.int .i64 8)) none).run Try.prog W = .ok (.string (strL ((s.drop 4).take 4))) W := fun W => cut_mid s (i := 4) (j := 8) (by omega) W (by omega)
    have hv := fun v => pvalue_any v (s := s.take 4) (by rw [List.length_take]; omega)
    have hn4 : ofL (s.take 4) < 4294967296 := ofL_lt4 (by rw [List.length_take]; omega)
    obtain ⟨n, hn⟩ : ∃ n, n = ofL (s.take 4) := ⟨_, rfl⟩
    rw [← hn] at hn4
    simp only [← hn] at hv
    obtain ⟨T, hT⟩ : ∃ T, T = (s.drop 4).take 4 := ⟨_, rfl⟩
    simp only [← hT] at k48
    have hfi := fun v => pfits_any v (t := T) (m := n)
    obtain ⟨ok, hok⟩ : ∃ ok, ok = (rightT T && decide (n ≤ 2147483647)) := ⟨_, rfl⟩
    simp only [← hok] at hfi
    have HV := Lib.hid hv
    have HFI := Lib.hid hfi
    have HT := Lib.hid hT
    have HNN := Lib.hid hn
    have HOK := Lib.hid hok
    have H8 := Lib.hid h8
    have HZ := Lib.hid hz
    clear hI0 hB0 hz h8 hv hfi hT hn hok hs
    go_enter Try.func18, Try.ntmps18
    go_wp2
    go_quiet ((go_at_call 30; exact Calls.quiet_of (HV.out _)))
    go_upto_region 4 with (fail)
    obtain ⟨W1, hW1⟩ : ∃ x, x = (w.alloc (.cells #[.string ⟨#[]⟩, .string ⟨#[]⟩] 35)).drewN nq := ⟨_, rfl⟩
    have HI1 := Lib.hid (show Is W1 b0 35 #[.string (strL []), .string (strL [])] by rw [hW1, hb0, strL_nil']; exact HI0.out.drewN nq)
    have HB1 := Lib.hid (show But [] w W1 by rw [hW1]; exact HB0.out.drewN nq)
    have hI1 := HI1.out
    rw [← hb0, ← hW1]
    have c0 := hI1.cell 0
    have c1 := hI1.cell 1
    have f0 := hI1.free 0
    have f1 := hI1.free 1
    have HBB := Lib.hid hb0
    clear hW1 hI1 hb0
    have HE3 := Lib.hid (fun (er : Int) (hr : firstT s = (([], []), [], er)) {tmps : Array Value} (h2 : tmps[2]? = some (.pointer (some ⟨b0, 0, none⟩))) (h3 : tmps[3]? = some (.string ⟨#[]⟩)) (h4 : tmps[4]? = some (.int .i64 er)) {W : World} (hI : Is W b0 35 #[.string (strL []), .string (strL [])]) (hB : But [] w W) =>
      first_ret (er := er) (rest := []) (T := []) (D := []) hI hB h2 (by rw [strL_nil]; exact h3) h4 hr)
    cases ok with
    | false =>
      have HR := Lib.hid (show firstT s = (([], []), [], 21) by
        unfold firstT
        rw [if_neg H8.out, if_pos]
        rw [← HNN.out, ← HT.out]
        have h := HOK.out
        by_cases hb : n ≤ 2147483647
        · rw [decide_eq_true hb, Bool.and_true] at h
          exact Or.inr h.symm
        · exact Or.inl (by omega))
      have HI2 := Lib.hid ((HI1.out.put 0 (.string ⟨#[]⟩)).put 1 (.string ⟨#[]⟩))
      have HB2 := Lib.hid ((HB1.out.setCell (p := ⟨b0, 0, none⟩) (.inr (by rw [HBB.out]; exact Nat.le_refl _)) (.string ⟨#[]⟩)).setCell (p := ⟨b0, 1, none⟩) (.inr (by rw [HBB.out]; exact Nat.le_refl _)) (.string ⟨#[]⟩))
      go_wp2_with (go_at_call 23; refine (HFI.out _).mono ?_; rintro e w1 ⟨rfl, rfl⟩)
      refine HE3.out 21 HR.out ?_ ?_ ?_ (W := _) (by rw [strL_nil]; exact HI2.out) HB2.out <;> rfl
    | true =>
      have hn31 : n ≤ 2147483647 := by
        have h := HOK.out
        rw [eq_comm, Bool.and_eq_true] at h
        exact of_decide_eq_true h.2
      have HP := Lib.hid (show ¬ (2147483647 < ofL (s.take 4) ∨ rightT ((s.drop 4).take 4) = false) by
        have h := HOK.out
        rw [eq_comm, Bool.and_eq_true] at h
        rw [← HNN.out, ← HT.out, h.1]
        rintro (a | a)
        · omega
        · exact absurd a (by decide))
      by_cases h12 : z < 12 + n
      · have d12 : decide ((z : Int) < 8 + (n : Int) + 4) = true := by simp; omega
        have HR := Lib.hid (show firstT s = (([], []), [], 3) by
          unfold firstT
          rw [if_neg H8.out, if_neg HP.out, if_pos]
          rw [← HNN.out, ← HZ.out]; exact h12)
        have HI2 := Lib.hid ((HI1.out.put 0 (.string ⟨#[]⟩)).put 1 (.string ⟨#[]⟩))
        have HB2 := Lib.hid ((HB1.out.setCell (p := ⟨b0, 0, none⟩) (.inr (by rw [HBB.out]; exact Nat.le_refl _)) (.string ⟨#[]⟩)).setCell (p := ⟨b0, 1, none⟩) (.inr (by rw [HBB.out]; exact Nat.le_refl _)) (.string ⟨#[]⟩))
        go_wp2_with (go_at_call 23; refine (HFI.out _).mono ?_; rintro e w1 ⟨rfl, rfl⟩)
        refine HE3.out 3 HR.out ?_ ?_ ?_ (W := _) (by rw [strL_nil]; exact HI2.out) HB2.out <;> rfl
      · have d12 : decide ((z : Int) < 8 + (n : Int) + 4) = false := by simp; omega
        have w8 : IntKind.i64.wrap (8 + (n : Int)) = 8 + (n : Int) := IntWalk.i64_in _ (by omega)
        have w12 : IntKind.i64.wrap (8 + (n : Int) + 4) = 8 + (n : Int) + 4 := IntWalk.i64_in _ (by omega)
        have kq : ∀ W, (Instr.slice 9 (.string (strL s)) (some (.int .i64 (8 + (n : Int)))) (some (.int .i64 (8 + (n : Int) + 4))) none).run Try.prog W = .ok (.string (strL ((s.drop (8 + n)).take 4))) W := fun W => by
          have h := cut_mid s (i := 8 + n) (j := 8 + n + 4) (by omega) W (by have := HZ.out; omega)
          rw [show 8 + n + 4 - (8 + n) = 4 by omega] at h
          simpa using h
        have kc : ∀ W, (Instr.slice 9 (.string (strL s)) (some (.int .i64 4)) (some (.int .i64 (8 + (n : Int)))) none).run Try.prog W = .ok (.string (strL ((s.drop 4).take (4 + n)))) W := fun W => by
          have h := cut_mid s (i := 4) (j := 8 + n) (by omega) W (by have := HZ.out; omega)
          rw [show 8 + n - 4 = 4 + n by omega] at h
          simpa using h
        have kd : ∀ W, (Instr.slice 9 (.string (strL s)) (some (.int .i64 8)) (some (.int .i64 (8 + (n : Int)))) none).run Try.prog W = .ok (.string (strL ((s.drop 8).take n))) W := fun W => by
          have h := cut_mid s (i := 8) (j := 8 + n) (by omega) W (by have := HZ.out; omega)
          rw [show 8 + n - 8 = n by omega] at h
          simpa using h
        have kr : ∀ W, (Instr.slice 9 (.string (strL s)) (some (.int .i64 (8 + (n : Int) + 4))) none none).run Try.prog W = .ok (.string (strL (s.drop (12 + n)))) W := fun W => by
          have h := cut_from s (i := 12 + n) W (by have := HZ.out; omega)
          have e : ((12 + n : Nat) : Int) = 8 + (n : Int) + 4 := by omega
          rw [e] at h
          exact h
        have hcr := fun v => bits_crc (strL ((s.drop 4).take (4 + n))) v (by rw [strL_size, List.length_take, List.length_drop]; unfold maxLen; have := HZ.out; omega)
        simp only [strL_list] at hcr
        have hclt := crcSum_lt ((s.drop 4).take (4 + n))
        obtain ⟨q, hq⟩ : ∃ q, q = crcSum ((s.drop 4).take (4 + n)) := ⟨_, rfl⟩
        simp only [← hq] at hcr
        rw [← hq] at hclt
        have hnm := fun v => pnum_any v (n := q) (by omega)
        obtain ⟨Q, hQ⟩ : ∃ Q, Q = (s.drop (8 + n)).take 4 := ⟨_, rfl⟩
        simp only [← hQ] at kq
        have HCR := Lib.hid hcr
        have HNM := Lib.hid hnm
        have HQ := Lib.hid hQ
        have HCQ := Lib.hid hq
        have H12 := Lib.hid (show ¬ s.length < 12 + ofL (s.take 4) by rw [← HNN.out, ← HZ.out]; exact h12)
        have hqq : strL Q = strL (fourL q) ↔ Q = fourL q := ⟨strL_inj, fun h => by rw [h]⟩
        obtain ⟨X, hX⟩ : ∃ X, X = strL Q := ⟨_, rfl⟩
        obtain ⟨Y, hY⟩ : ∃ X, X = strL (fourL q) := ⟨_, rfl⟩
        rw [← hX, ← hY] at hqq
        simp only [← hX] at kq
        simp only [← hY] at HNM
        have HQQ := Lib.hid hqq
        obtain ⟨D, hD⟩ : ∃ D, D = (s.drop 8).take n := ⟨_, rfl⟩
        simp only [← hD] at kd
        have HD := Lib.hid hD
        clear hcr hnm hQ hq hqq h12 hX hY hD
        go_wp2_with (go_at_call 23; refine (HFI.out _).mono ?_; rintro e w1 ⟨rfl, rfl⟩)
        by_cases hxy : X = Y
        · have HR := Lib.hid (show firstT s = ((T, D), s.drop (12 + n), 0) by
            unfold firstT
            rw [if_neg H8.out, if_neg HP.out, if_neg H12.out, ← HNN.out, ← HT.out, ← HQ.out, ← HCQ.out, if_neg (fun hh => hh (HQQ.out.1 hxy)), HD.out])
          subst hxy
          go_region_with (first | (go_at_call 25; refine (HCR.out _).mono ?_; rintro e w1 ⟨rfl, rfl⟩) | (go_at_call 24; refine (HNM.out _).mono ?_; rintro e w2 ⟨rfl, hB⟩; have HBn := Lib.hid hB; clear hB))
          all_goals
            have HI2 := Lib.hid (((HI1.out.drew).but HBn.out (by simp)))
            have HB2 := Lib.hid ((HB1.out.drew).trans HBn.out)
            obtain ⟨W2, hW2⟩ : ∃ W2, W2 = w2 := ⟨_, rfl⟩
            rw [← hW2] at HI2 HB2
            rw [← hW2]
            clear hW2 HBn c0 c1 f0 f1
            go_simp
            go_upto_region 11 with (fail)
            have HST := Lib.hid (show (strL T).size ≤ 281474976710656 by rw [strL_size, HT.out, List.length_take]; omega)
            have HSD := Lib.hid (show (strL D).size ≤ 281474976710656 by rw [strL_size, HD.out, List.length_take]; omega)
            have HBz := Lib.hid (But.refl [] W2)
            have hb0W : b0 < W2.heap.size := HI2.out.lt
            have hWW : w.heap.size ≤ W2.heap.size := HB2.out.size
            go_cut [8] from 43 to 49 (fun v wc => ∃ g, v = .pointer (some ⟨g, 0, none⟩) ∧ g ≠ b0 ∧ Hid (Is wc g 35 #[.string (strL T), .string (strL D)]) ∧ Hid (Is wc b0 35 #[.string (strL []), .string (strL [])]) ∧ Hid (But [] w wc))
            case first =>
              go_region_with (go_at_call 31; refine (pclone_any _ ?hs).mono ?_; (case hs => first | exact HST.out | exact HSD.out); rintro e wk ⟨rfl, hB⟩; have HBk := Lib.hid hB; (first | have hI := hI.but hB (by simp) | have hI := (Is.fresh _ _ _).but hB (by simp) | have hI := (Is.fresh _ _ _).drew.but hB (by simp) | skip); (try have c0 := hI.cell 0); (try have c1 := hI.cell 1); (try have f0 := hI.free 0); (try have f1 := hI.free 1); (first | have HBz := Lib.hid (HBz.out.trans hB) | have HBz := Lib.hid (HBz.out.drew.trans hB) | have HBz := Lib.hid ((HBz.out.alloc _).trans hB) | have HBz := Lib.hid (((HBz.out.alloc _).drew).trans hB)); have hsz := HBz.out.size; clear hB)
              all_goals (go_wp2; go_meet)
              · exact ⟨_, rfl, by omega, Lib.hid (Is.fresh _ _ _), Lib.hid ((HI2.out.but HBz.out (by simp)).alloc _), Lib.hid ((HB2.out.trans HBz.out).alloc _)⟩
              · exact ⟨_, rfl, by omega, Lib.hid ((hI.put 0 _).put 1 _), Lib.hid (((HI2.out.but HBz.out (by simp)).far (by dsimp only; omega) _).far (by dsimp only; omega) _), Lib.hid (((HB2.out.trans HBz.out).setCell (.inr (by dsimp only; omega)) _).setCell (.inr (by dsimp only; omega)) _)⟩
              · exact ⟨_, rfl, by omega, Lib.hid ((hI.put 0 _).put 1 _), Lib.hid (((HI2.out.but HBz.out (by simp)).far (by dsimp only; omega) _).far (by dsimp only; omega) _), Lib.hid (((HB2.out.trans HBz.out).setCell (.inr (by dsimp only; omega)) _).setCell (.inr (by dsimp only; omega)) _)⟩
            case rest =>
              obtain ⟨g, rfl, hg, HI3, HJ3, HB3⟩ := hcut
              obtain ⟨W3, rfl⟩ : ∃ W3 : World, W3 = wc := ⟨_, rfl⟩
              have c0 := HI3.out.cell 0
              have c1 := HI3.out.cell 1
              have b0c := HJ3.out.cell 0
              have b1c := HJ3.out.cell 1
              have f0 := HJ3.out.free 0
              have f1 := HJ3.out.free 1
              have HI4 := Lib.hid ((HJ3.out.put 0 (.string (strL T))).put 1 (.string (strL D)))
              have HB4 := Lib.hid ((HB3.out.setCell (p := ⟨b0, 0, none⟩) (.inr (by rw [HBB.out]; exact Nat.le_refl _)) (.string (strL T))).setCell (p := ⟨b0, 1, none⟩) (.inr (by rw [HBB.out]; exact Nat.le_refl _)) (.string (strL D)))
              clear HBz
              go_upto_region 12 with (fail)
              go_region
              all_goals
                go_wp2
                refine first_ret (W := _) (b0 := b0) (T := T) (D := D) (rest := s.drop (12 + n)) (er := 0) HI4.out.drew HB4.out.drew ?_ ?_ ?_ HR.out <;> rfl
        · have HR := Lib.hid (show firstT s = (([], []), [], 22) by
            unfold firstT
            rw [if_neg H8.out, if_neg HP.out, if_neg H12.out, ← HNN.out, ← HT.out, ← HQ.out, ← HCQ.out, if_pos (fun hh => hxy (HQQ.out.2 hh))])
          have hne : ¬ X.toList = Y.toList := fun e => hxy (by
            rw [ByteArray.toList_eq, ByteArray.toList_eq] at e
            apply ByteArray.ext; apply Array.ext'; exact e)
          have hne2 : (X.toList == Y.toList) = false := by simpa using hne
          clear hxy
          go_region_with (first | (go_at_call 25; refine (HCR.out _).mono ?_; rintro e w1 ⟨rfl, rfl⟩) | (go_at_call 24; refine (HNM.out _).mono ?_; rintro e w2 ⟨rfl, hB⟩; have HBn := Lib.hid hB; clear hB))
          all_goals
            go_simp
            have HI2 := Lib.hid (((HI1.out.drew).but HBn.out (by simp)))
            have HB2 := Lib.hid ((HB1.out.drew).trans HBn.out)
            have hI2 := HI2.out
            have c0 := hI2.cell 0
            have c1 := hI2.cell 1
            have f0 := hI2.free 0
            have f1 := hI2.free 1
            have HI3 := Lib.hid ((HI2.out.put 0 (.string ⟨#[]⟩)).put 1 (.string ⟨#[]⟩))
            have HB3 := Lib.hid ((HB2.out.setCell (p := ⟨b0, 0, none⟩) (.inr (by rw [HBB.out]; exact Nat.le_refl _)) (.string ⟨#[]⟩)).setCell (p := ⟨b0, 1, none⟩) (.inr (by rw [HBB.out]; exact Nat.le_refl _)) (.string ⟨#[]⟩))
            clear hI2
            go_wp2
            refine HE3.out 22 HR.out ?_ ?_ ?_ (W := _) (by rw [strL_nil]; exact HI3.out) HB3.out <;> rfl
end Go.Proofs.Ytdfjdajfkamafaa
