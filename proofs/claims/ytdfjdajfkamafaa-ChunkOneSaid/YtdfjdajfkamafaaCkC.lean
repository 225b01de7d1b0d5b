/- The document's chunks of a file: the walk. -/
import Derived.Test.YtdfjdajfkamafaaCkB
import Derived.Deep.AppendLies
import Derived.Deep.RegionLaw
import Derived.RegionTactic
set_option maxRecDepth 100000
set_option linter.unusedVariables false
namespace Go.Proofs.Ytdfjdajfkamafaa
set_option maxRecDepth 100000
open Go Go.RowKit
/-- One chunk of what is left. -/
theorem splK_next {s : List UInt8} (h : s ≠ []) (out : List Ck) : splK s.length s out =
    if s.length < 8 then ([], 3) else
    if 2147483647 < ofL (s.take 4) ∨ rightT ((s.drop 4).take 4) = false then ([], 21) else
    if s.length < 12 + ofL (s.take 4) then ([], 3) else
    if ofL ((s.drop (8 + ofL (s.take 4))).take 4) ≠ crcSum ((s.drop 4).take (4 + ofL (s.take 4))) then ([], 22) else
    splK (s.drop (12 + ofL (s.take 4))).length (s.drop (12 + ofL (s.take 4))) (out ++ [((s.drop 4).take 4, (s.drop 8).take (ofL (s.take 4)))]) := by
  have h0 : s.length ≠ 0 := fun e => h (List.length_eq_zero_iff.1 e)
  obtain ⟨f, hf⟩ : ∃ f, s.length = f + 1 := ⟨s.length - 1, by omega⟩
  have hm := splK_more f (s.drop (12 + ofL (s.take 4))).length (s.drop (12 + ofL (s.take 4))) (out ++ [((s.drop 4).take 4, (s.drop 8).take (ofL (s.take 4)))]) (by rw [List.length_drop]; omega) (Nat.le_refl _)
  rw [← hm]
  have e : splK s.length s out = splK (f + 1) s out := by rw [hf]
  rw [e]
  conv => lhs; unfold splK
  rw [if_neg h0]
def strSz : Value → Nat
  | .string s => s.size
  | _ => 0
theorem cut_mid (s : List UInt8) {i j : Nat} (h : i ≤ j) (W : World) (hj : j ≤ s.length) : (Instr.slice 9 (.string (strL s)) (some (.int .i64 (i : Int))) (some (.int .i64 (j : Int))) none).run Try.prog W = .ok (.string (strL ((s.drop i).take (j - i)))) W := by
  rw [run_slice_string W 9 (strL s) .i64 .i64 (i : Int) (j : Int) Try.underlying9 (by omega) (by omega) (by rw [strL_size]; omega), Int.toNat_natCast, Int.toNat_natCast, ext_list, strL_list, List.drop_take]
theorem cut_from (s : List UInt8) {i : Nat} (W : World) (hi : i ≤ s.length) : (Instr.slice 9 (.string (strL s)) (some (.int .i64 (i : Int))) none none).run Try.prog W = .ok (.string (strL (s.drop i))) W := by
  rw [run_slice_string_from_if W 9 (strL s) .i64 (i : Int) Try.underlying9, if_pos (by rw [strL_size]; omega), Int.toNat_natCast, ext_list, strL_list, List.take_of_length_le (by rw [strL_size]; exact Nat.le_refl _)]
theorem cut_to (s : List UInt8) {j : Nat} (W : World) (hj : j ≤ s.length) : (Instr.slice 9 (.string (strL s)) none (some (.int .i64 (j : Int))) none).run Try.prog W = .ok (.string (strL (s.take j))) W := by
  rw [run_slice_string_to_if W 9 (strL s) .i64 (j : Int) Try.underlying9, if_pos (by rw [strL_size]; omega), Int.toNat_natCast, ext_list, strL_list, List.drop_zero]
theorem signL_str : (⟨#[137, 80, 78, 71, 13, 10, 26, 10]⟩ : ByteArray) = strL signL := rfl
theorem take8_ne {s : List UInt8} (h : s.length < 8) : s.take 8 ≠ signL := fun e => by
  have := congrArg List.length e
  rw [List.length_take] at this
  have h8 : signL.length = 8 := rfl
  omega
attribute [local irreducible] strL signL ofL crcSum rightT splK
set_option maxHeartbeats 2000000 in
theorem esplit_any (w : World) {F : List UInt8} (hF : F.length ≤ 1000000000) :
    Calls Try.prog 11 #[.string (strL F)] w (GotC w (splT F)) := by
  obtain ⟨i0, hi0, hz0, hz1, hz2⟩ := info_parts info_ck
  have hsz := strL_size F
  by_cases h8 : F.length < 8
  · have hR : splT F = ([], 20) := by unfold splT; rw [if_pos (take8_ne h8)]
    have HR := Lib.hid hR
    have d8 : decide (((strL F).size : Int) < 8) = true := by rw [hsz]; simp; omega
    clear hsz hR
    go_enter Try.func11, Try.ntmps11
    go_wp2
    go_ret2
    rw [HR.out]
    exact ⟨_, rfl, OwnC.nil _ _, But.refl [] w⟩
  · have d8 : decide (((strL F).size : Int) < 8) = false := by rw [hsz]; simp; omega
    have k8 : ∀ W, (Instr.slice 9 (.string (strL F)) none (some (.int .i64 8)) none).run Try.prog W = .ok (.string (strL (F.take 8))) W := fun W => cut_to F (j := 8) W (by omega)
    have kf : ∀ W, (Instr.slice 9 (.string (strL F)) (some (.int .i64 8)) none none).run Try.prog W = .ok (.string (strL (F.drop 8))) W := fun W => cut_from F (i := 8) W (by omega)
    by_cases hs : F.take 8 = signL
    · have hR : splT F = splK (F.drop 8).length (F.drop 8) [] := by
        unfold splT
        rw [if_neg (by simpa using hs)]
        exact splK_more _ _ _ _ (by rw [List.length_drop]; omega) (Nat.le_refl _)
      have hne : (!(strL (F.take 8)).toList == [137, 80, 78, 71, 13, 10, 26, 10]) = false := by
        rw [ByteArray.toList_eq, strL_list, hs, show signL = [137, 80, 78, 71, 13, 10, 26, 10] by unfold signL; rfl]; rfl
      obtain ⟨G, hG⟩ : ∃ G, G = F.drop 8 := ⟨_, rfl⟩
      have hGl : G.length ≤ 1000000000 := by rw [hG, List.length_drop]; omega
      rw [← hG] at hR kf
      obtain ⟨R, hRR⟩ : ∃ R, R = splT F := ⟨_, rfl⟩
      rw [← hRR] at hR ⊢
      have HR := Lib.hid hR.symm
      clear hsz hs hR hG hRR h8 hF
      go_enter Try.func11, Try.ntmps11
      go_wp2_with fail
      go_loopw [4, 5, 6] (fun sv ov _ wr => ∃ (s : List UInt8) (L : List Ck), sv = .string (strL s) ∧ s.length ≤ 1000000000 ∧ L.length + s.length ≤ 1000000000 ∧ Hid (splK s.length s L = R) ∧ Hid (OwnC wr w.heap.size ov L) ∧ Hid (But [] w wr)) (fun sv _ _ _ => strSz sv)
      case atStart => exact ⟨G, [], rfl, hGl, by simpa using hGl, HR, Lib.hid (OwnC.nil _ _), Lib.hid (But.refl [] w)⟩
      case round =>
        obtain ⟨s, L, rfl, hsl, hLs, HK, HO, HB⟩ := hrel
        obtain ⟨z, hz⟩ : ∃ z, z = s.length := ⟨_, rfl⟩
        have hsz : (strL s).size = z := by rw [strL_size, hz]
        have hzb : z ≤ 1000000000 := by omega
        by_cases h0 : s = []
        · obtain rfl : z = 0 := by rw [hz, h0]; rfl
          have HN := Lib.hid (show R = (L, 0) by rw [← HK.out, h0]; unfold splK; rfl)
          clear h0 hz
          go_wp2
          go_ret2
          rw [HN.out]
          exact ⟨_, rfl, HO.out, HB.out⟩
        · have hpos : 0 < s.length := List.length_pos_iff.2 h0
          have d0 : decide (0 < z) = true := by simp; omega
          have hnx := splK_next h0 L
          rw [HK.out] at hnx
          by_cases h8 : s.length < 8
          · have d8 : decide ((z : Int) < 8) = true := by simp; omega
            rw [if_pos h8] at hnx
            have HN := Lib.hid hnx
            clear h0 hz hnx hpos h8
            go_wp2
            go_ret2
            rw [HN.out]
            exact ⟨_, rfl, OwnC.nil _ _, HB.out⟩
          · have d8 : decide ((z : Int) < 8) = false := by simp; omega
            rw [if_neg h8] at hnx
            have k4 : ∀ W, (Instr.slice 9 (.string (strL s)) none (some (.int .i64 4)) none).run Try.prog W = .ok (.string (strL (s.take 4))) W := fun W => cut_to s (j := 4) W (by omega)
            have k48 : ∀ W, (Instr.slice 9 (.string (strL s)) (some (.int .i64 4)) (some (.int .i64 8)) none).run Try.prog W = .ok (.string (strL ((s.drop 4).take 4))) W := fun W => cut_mid s (i := 4) (j := 8) (by omega) W (by omega)
            have hof := fun v => eof_any v (s := strL (s.take 4)) (by rw [strL_size, List.length_take]; omega)
            have hrt := fun v => eright_any v (t := strL ((s.drop 4).take 4))
            simp only [strL_list] at hof hrt
            have hn4 : ofL (s.take 4) < 4294967296 := ofL_lt4 (by rw [List.length_take]; omega)
            obtain ⟨n, hn⟩ : ∃ n, n = ofL (s.take 4) := ⟨_, rfl⟩
            rw [← hn] at hnx hn4
            simp only [← hn] at hof
            obtain ⟨T, hT⟩ : ∃ T, T = (s.drop 4).take 4 := ⟨_, rfl⟩
            rw [← hT] at hnx
            simp only [← hT] at hrt k48
            have HOF := Lib.hid hof
            have HRT := Lib.hid hrt
            have HK4 := Lib.hid k4
            have HK48 := Lib.hid k48
            by_cases hbig : 2147483647 < n
            · have db : decide ((2147483647 : Int) < (n : Int)) = true := by simp; omega
              rw [if_pos (Or.inl hbig)] at hnx
              have HN := Lib.hid hnx
              clear h0 hz hnx hpos hof hrt hn hT k48 h8
              go_wp2_with fail
              refine (HOF.out wr).mono ?_
              rintro e w1 ⟨rfl, rfl⟩
              go_wp2
              go_ret2
              rw [HN.out]
              exact ⟨_, rfl, OwnC.nil _ _, HB.out⟩
            · have db : decide ((2147483647 : Int) < (n : Int)) = false := by simp; omega
              by_cases hr : rightT T = false
              · rw [if_pos (Or.inr hr)] at hnx
                have HN := Lib.hid hnx
                rw [hr] at HRT
                clear h0 hz hnx hpos hof hrt hn hT h8
                go_wp2_with fail
                refine (HOF.out wr).mono ?_
                rintro e w1 ⟨rfl, rfl⟩
                go_wp2_with fail
                refine (HRT.out wr).mono ?_
                rintro e w1 ⟨rfl, rfl⟩
                go_wp2
                go_ret2
                rw [HN.out]
                exact ⟨_, rfl, OwnC.nil _ _, HB.out⟩
              · have hr' : rightT T = true := by simpa using hr
                rw [hr'] at HRT
                rw [if_neg (fun h => h.elim hbig hr)] at hnx
                by_cases h12 : s.length < 12 + n
                · have d12 : decide ((z : Int) < 12 + (n : Int)) = true := by simp; omega
                  rw [if_pos h12] at hnx
                  have HN := Lib.hid hnx
                  clear h0 hz hnx hpos hof hrt hn hT h8 hr hr'
                  go_wp2_with fail
                  refine (HOF.out wr).mono ?_
                  rintro e w1 ⟨rfl, rfl⟩
                  go_wp2_with fail
                  refine (HRT.out wr).mono ?_
                  rintro e w1 ⟨rfl, rfl⟩
                  go_wp2
                  go_ret2
                  rw [HN.out]
                  exact ⟨_, rfl, OwnC.nil _ _, HB.out⟩
                · have d12 : decide ((z : Int) < 12 + (n : Int)) = false := by simp; omega
                  rw [if_neg h12] at hnx
                  have w8 : IntKind.i64.wrap (8 + (n : Int)) = 8 + (n : Int) := IntWalk.i64_in _ (by omega)
                  have w12 : IntKind.i64.wrap (12 + (n : Int)) = 12 + (n : Int) := IntWalk.i64_in _ (by omega)
                  have kq : ∀ W, (Instr.slice 9 (.string (strL s)) (some (.int .i64 (8 + (n : Int)))) (some (.int .i64 (12 + (n : Int)))) none).run Try.prog W = .ok (.string (strL ((s.drop (8 + n)).take 4))) W := fun W => by
                    have h := cut_mid s (i := 8 + n) (j := 12 + n) (by omega) W (by omega)
                    rw [show 12 + n - (8 + n) = 4 by omega] at h
                    simpa using h
                  have kc : ∀ W, (Instr.slice 9 (.string (strL s)) (some (.int .i64 4)) (some (.int .i64 (8 + (n : Int)))) none).run Try.prog W = .ok (.string (strL ((s.drop 4).take (4 + n)))) W := fun W => by
                    have h := cut_mid s (i := 4) (j := 8 + n) (by omega) W (by omega)
                    rw [show 8 + n - 4 = 4 + n by omega] at h
                    simpa using h
                  have kd : ∀ W, (Instr.slice 9 (.string (strL s)) (some (.int .i64 8)) (some (.int .i64 (8 + (n : Int)))) none).run Try.prog W = .ok (.string (strL ((s.drop 8).take n))) W := fun W => by
                    have h := cut_mid s (i := 8) (j := 8 + n) (by omega) W (by omega)
                    rw [show 8 + n - 8 = n by omega] at h
                    simpa using h
                  have kr : ∀ W, (Instr.slice 9 (.string (strL s)) (some (.int .i64 (12 + (n : Int)))) none none).run Try.prog W = .ok (.string (strL (s.drop (12 + n)))) W := fun W => by
                    have h := cut_from s (i := 12 + n) W (by omega)
                    simpa using h
                  have hq := fun v => eof_any v (s := strL ((s.drop (8 + n)).take 4)) (by rw [strL_size, List.length_take]; omega)
                  have hcr := fun v => ref_crc (strL ((s.drop 4).take (4 + n))) v (by rw [strL_size, List.length_take, List.length_drop]; unfold maxLen; omega)
                  simp only [strL_list] at hq hcr
                  obtain ⟨a, ha⟩ : ∃ a, a = ofL ((s.drop (8 + n)).take 4) := ⟨_, rfl⟩
                  obtain ⟨b, hb⟩ : ∃ b, b = crcSum ((s.drop 4).take (4 + n)) := ⟨_, rfl⟩
                  rw [← ha, ← hb] at hnx
                  simp only [← ha] at hq
                  simp only [← hb] at hcr
                  have HQ := Lib.hid hq
                  have HCR := Lib.hid hcr
                  have n12 : 12 + n ≤ 1000000000 := by omega
                  by_cases hab : a = b
                  · obtain ⟨A1, c1, rfl, _⟩ := HO.out.open
                    have dab : ((a : Int) != (b : Int)) = false := by rw [hab]; simp
                    rw [if_neg (by simpa using hab)] at hnx
                    have hsn : (s.drop (12 + n)).length < s.length := by rw [List.length_drop]; omega
                    have hsn1 : (s.drop (12 + n)).length ≤ 1000000000 := by omega
                    have hsn2 : (L ++ [(T, (s.drop 8).take n)]).length + (s.drop (12 + n)).length ≤ 1000000000 := by rw [List.length_append, List.length_singleton]; omega
                    have hLn : L.length ≤ 1000000000 := by omega
                    have hzs : (strL (s.drop (12 + n))).size < z := by rw [strL_size, hz]; exact hsn
                    obtain ⟨D, hD⟩ : ∃ D, D = (s.drop 8).take n := ⟨_, rfl⟩
                    obtain ⟨E, hE⟩ : ∃ E, E = s.drop (12 + n) := ⟨_, rfl⟩
                    rw [← hD, ← hE] at hnx
                    rw [← hD] at hsn2
                    simp only [← hD] at kd
                    rw [← hE] at hsn1 hsn2 hzs
                    simp only [← hE] at kr
                    have HN := Lib.hid hnx.symm
                    have HOd := Lib.hid (HO.out.but ((But.refl [] wr).drew))
                    have HBd := Lib.hid (HB.out.drew)
                    clear h0 hz hnx hpos hof hrt hn hT h8 hr hr' hq hcr ha hb hab h12 hsn hD hE
                    go_wp2_with fail
                    refine (HOF.out wr).mono ?_
                    rintro e w1 ⟨rfl, rfl⟩
                    go_wp2_with fail
                    refine (HRT.out wr).mono ?_
                    rintro e w1 ⟨rfl, rfl⟩
                    go_upto_region 13 with (fail)
                    go_region_with (first | (go_at_call 19; refine (HQ.out _).mono ?_; rintro e w1 ⟨rfl, rfl⟩) | (go_at_call 21; refine (HCR.out _).mono ?_; rintro e w1 ⟨rfl, rfl⟩))
                    obtain ⟨wd, hwd⟩ : ∃ x, x = wr.drew := ⟨_, rfl⟩
                    rw [← hwd] at HOd HBd ⊢
                    clear hwd
                    have hbs := HBd.out.size
                    go_upto_region 15 with (fail)
                    go_region_law (go_loud (refine step_append_lies _ (by rfl) _ _ _ (by rfl) w.heap.size 35 i0 (.agg #[.string ByteArray.empty, .string ByteArray.empty]) 2 32 Try.underlying23 hi0 hz0 hz1 hz2 rfl (by omega) (.slice A1 L.length c1) L.length (ckCells L) (by rfl) ((World.ownsRow.alloc HOd.out _).drew) ⟨wd.heap.size, 0, none⟩ 1 1 [.string (strL T), .string (strL D)] (by rfl) (by rfl) (World.news_of_block (cs := #[.string (strL T), .string (strL D)]) (t := 35) (fr := (0, 0)) (heap_alloc_new wd _)) (by simp [Value.oneCell']) (by omega) (by unfold maxLen; omega) (by omega) (by simp; omega) (wd.heap.size + 1) (by simp) ?_; intro gg cap w4 hown2 hgrow hat _; have HP := Lib.hid (OwnC.pushedD (x := (T, D)) HBd.out HOd.out hown2 hgrow); clear hown2 hgrow hat))
                    go_wp2
                    go_roundw
                    case rel => exact ⟨E, L ++ [(T, D)], rfl, hsn1, hsn2, HN, Lib.hid HP.out.1, Lib.hid HP.out.2⟩
                    case measure => show (strL E).size < (strL s).size; rw [hsz]; exact hzs
                  · have dab : ((a : Int) != (b : Int)) = true := by simp; omega
                    rw [if_pos hab] at hnx
                    have HN := Lib.hid hnx
                    clear h0 hz hnx hpos hof hrt hn hT h8 hr hr' hq hcr ha hb hab h12
                    go_wp2_with fail
                    refine (HOF.out wr).mono ?_
                    rintro e w1 ⟨rfl, rfl⟩
                    go_wp2_with fail
                    refine (HRT.out wr).mono ?_
                    rintro e w1 ⟨rfl, rfl⟩
                    go_upto_region 13 with (fail)
                    go_region_with (first | (go_at_call 19; refine (HQ.out _).mono ?_; rintro e w1 ⟨rfl, rfl⟩) | (go_at_call 21; refine (HCR.out _).mono ?_; rintro e w1 ⟨rfl, rfl⟩))
                    go_wp2
                    go_ret2
                    rw [HN.out]
                    exact ⟨_, rfl, OwnC.nil _ _, HB.out.drew⟩
    · have hR : splT F = ([], 20) := by unfold splT; rw [if_pos hs]
      have HR := Lib.hid hR
      have hne : (!(strL (F.take 8)).toList == [137, 80, 78, 71, 13, 10, 26, 10]) = true := by
        rw [ByteArray.toList_eq, strL_list, Bool.not_eq_true', beq_eq_false_iff_ne]
        intro e; exact hs (by rw [e]; unfold signL; rfl)
      clear hsz hR hs
      go_enter Try.func11, Try.ntmps11
      go_wp2
      go_ret2
      rw [HR.out]
      exact ⟨_, rfl, OwnC.nil _ _, But.refl [] w⟩
end Go.Proofs.Ytdfjdajfkamafaa
