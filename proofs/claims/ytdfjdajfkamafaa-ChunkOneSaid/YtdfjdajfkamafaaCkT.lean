/- The program's chunks of a file. -/
import Derived.Test.YtdfjdajfkamafaaCkS
set_option maxRecDepth 100000
set_option linter.unusedVariables false
namespace Go.Proofs.Ytdfjdajfkamafaa
set_option maxRecDepth 100000
open Go Go.RowKit
theorem prefix_no {F : List UInt8} (h : ¬ F.take 8 = signL) : Lib.hasPrefix F signL = false := by
  unfold Lib.hasPrefix
  rw [Bool.eq_false_iff]
  intro e
  obtain ⟨r, hr⟩ := List.isPrefixOf_iff_prefix.1 e
  exact h (by rw [← hr]; exact List.take_left' rfl)
theorem prefix_yes {F : List UInt8} (h : F.take 8 = signL) : Lib.hasPrefix F signL = true := by
  unfold Lib.hasPrefix
  exact List.isPrefixOf_iff_prefix.2 ⟨F.drop 8, by rw [← h, List.take_append_drop]⟩
theorem trim_yes {F : List UInt8} (h : F.take 8 = signL) : Lib.trimPrefix F signL = F.drop 8 := by
  have := prefix_yes h
  unfold Lib.trimPrefix
  simp [this]
  rfl
theorem str_empty_ne {s : List UInt8} (h : s ≠ []) : ¬ (strL s).toList = [] := by
  rw [ByteArray.toList_eq, strL_list]; exact h
theorem str_empty_no {s : List UInt8} (h : s ≠ []) : (strL s).toList.isEmpty = false := by
  simpa using str_empty_ne h
theorem str_empty_eq : (strL []).toList = [] := by rw [ByteArray.toList_eq, strL_list]
attribute [local irreducible] strL signL splK firstT
set_option maxHeartbeats 1000000 in
theorem psplit_any (w : World) {F : List UInt8} (hF : F.length ≤ 1000000000) :
    Calls Try.prog 10 #[.string (strL F)] w (GotC w (splT F)) := by
  obtain ⟨i0, hi0, hz0, hz1, hz2⟩ := info_parts info_ck
  have hcp := strings_CutPrefix (strL F) ⟨#[137, 80, 78, 71, 13, 10, 26, 10]⟩ w
  rw [signL_str, strL_list, strL_list] at hcp
  by_cases hs : F.take 8 = signL
  · have hR : splT F = splK (F.drop 8).length (F.drop 8) [] := by
      unfold splT
      rw [if_neg (by simpa using hs)]
      exact splK_more _ _ _ _ (by rw [List.length_drop]; omega) (Nat.le_refl _)
    rw [prefix_yes hs, trim_yes hs] at hcp
    rw [show (⟨(F.drop 8).toArray⟩ : ByteArray) = strL (F.drop 8) by unfold strL; rfl, ← signL_str] at hcp
    obtain ⟨G, hG⟩ : ∃ G, G = F.drop 8 := ⟨_, rfl⟩
    have hGl : G.length ≤ 1000000000 := by rw [hG, List.length_drop]; omega
    rw [← hG] at hR hcp
    obtain ⟨R, hRR⟩ : ∃ R, R = splT F := ⟨_, rfl⟩
    rw [← hRR] at hR ⊢
    have HR := Lib.hid hR.symm
    have HCP := Lib.hid hcp
    clear hs hR hG hRR hF hcp
    go_enter Try.func10, Try.ntmps10
    go_wp2_with fail
    refine HCP.out.mono ?_
    rintro e w1 ⟨rfl, hw⟩
    obtain rfl : w = w1 := hw.symm
    go_wp2_with fail
    go_loopw [4, 6] (fun sv ov wr => ∃ (s : List UInt8) (L : List Ck), sv = .string (strL s) ∧ s.length ≤ 1000000000 ∧ L.length + s.length ≤ 1000000000 ∧ Hid (splK s.length s L = R) ∧ Hid (OwnC wr w.heap.size ov L) ∧ Hid (But [] w wr)) (fun sv _ _ => strSz sv)
    case atStart => exact ⟨G, [], rfl, hGl, by simpa using hGl, HR, Lib.hid (OwnC.nil _ _), Lib.hid (But.refl [] w)⟩
    case round =>
      obtain ⟨s, L, rfl, hsl, hLs, HK, HO, HB⟩ := hrel
      by_cases h0 : s = []
      · subst h0
        have de := str_empty_eq
        have HN := Lib.hid (show R = (L, 0) by rw [← HK.out]; unfold splK; rfl)
        go_wp2
        go_ret2
        rw [HN.out]
        exact ⟨_, rfl, HO.out, HB.out⟩
      · have dm := str_empty_ne h0
        have dn := str_empty_no h0
        have hnx := splK_first h0 L
        rw [HK.out] at hnx
        have hsh := firstT_short h0
        have hfi := fun v => pfirst_any v hsl
        unfold GotF at hfi
        obtain ⟨r, hr⟩ : ∃ r, r = firstT s := ⟨_, rfl⟩
        rw [← hr] at hnx hsh
        simp only [← hr] at hfi
        obtain ⟨⟨T, D⟩, E, er⟩ := r
        have HFI := Lib.hid hfi
        have hss : (strL s).size = s.length := strL_size s
        have hes : (strL E).size = E.length := strL_size E
        have HSH := Lib.hid hsh
        have HSS := Lib.hid hss
        have HES := Lib.hid hes
        clear hr h0 hfi hss hes
        by_cases he : er = 0
        · subst he
          have HN := Lib.hid (show splK E.length E (L ++ [(T, D)]) = R by rw [hnx]; rfl)
          clear hnx
          go_wp2_with fail
          refine (HFI.out wr).mono ?_
          rintro e w1 ⟨rfl, hB⟩
          unfold ckVal
          have HB1 := Lib.hid ((HB.out.trans hB).alloc (.cells #[.string (strL T), .string (strL D)] 35))
          have HO1 := Lib.hid (HO.out.but (hB.alloc (.cells #[.string (strL T), .string (strL D)] 35)))
          have hI1 := Is.fresh w1 35 #[.string (strL T), .string (strL D)]
          clear hB
          obtain ⟨A1, cc, rfl, _⟩ := HO.out.open
          obtain ⟨w2, hw2⟩ : ∃ w2, w2 = w1.alloc (.cells #[.string (strL T), .string (strL D)] 35) := ⟨_, rfl⟩
          rw [← hw2] at HB1 HO1 hI1
          have hbs := HB1.out.size
          go_upto_region 7 with (fail)
          rw [← hw2]
          have c0 := hI1.cell 0
          have c1 := hI1.cell 1
          obtain ⟨g1, hg1⟩ : ∃ g, g = w1.heap.size := ⟨_, rfl⟩
          rw [← hg1] at c0 c1 ⊢
          clear hw2 hg1 hI1
          have hLn : L.length ≤ 1000000000 := by omega
          have hle : E.length ≤ 1000000000 := by have := HSH.out; omega
          have hle2 : (L ++ [(T, D)]).length + E.length ≤ 1000000000 := by have := HSH.out; rw [List.length_append, List.length_singleton]; omega
          have hms : (strL E).size < (strL s).size := by rw [HES.out, HSS.out]; exact HSH.out
          clear HB HO
          go_wp2_with (at_builtin; refine wpList_append_lies _ rfl _ _ _ rfl w.heap.size 35 i0 (.agg #[.string ByteArray.empty, .string ByteArray.empty]) 2 32 Try.underlying23 hi0 hz0 hz1 hz2 rfl (by omega) (.slice A1 L.length cc) L.length (ckCells L) (by rfl) (World.ownsRow.alloc HO1.out _) ⟨w2.heap.size, 0, none⟩ 1 1 [.string (strL T), .string (strL D)] (by rfl) (by rfl) (World.news_of_block (cs := #[.string (strL T), .string (strL D)]) (t := 35) (fr := (0, 0)) (heap_alloc_new w2 _)) (by simp [Value.oneCell']) (by omega) (by unfold maxLen; omega) (by omega) (by simp; omega) (w2.heap.size + 1) (by simp) ?_)
          intro gg cap w4 hown2 hgrow hat _
          have HP := Lib.hid (OwnC.pushed (x := (T, D)) HB1.out HO1.out hown2 hgrow)
          clear hown2 hgrow hat
          go_wp2
          go_roundw
          case rel => exact ⟨E, L ++ [(T, D)], rfl, hle, hle2, HN, Lib.hid HP.out.1, Lib.hid HP.out.2⟩
          case measure => exact hms
        · have HN := Lib.hid (show R = ([], er) by rw [hnx]; exact if_pos he)
          have dne : (er != 0) = true := by simpa using he
          clear hnx he
          go_wp2_with fail
          refine (HFI.out wr).mono ?_
          rintro e w1 ⟨rfl, hB⟩
          unfold ckVal
          have HB1 := Lib.hid ((HB.out.trans hB).alloc (.cells #[.string (strL T), .string (strL D)] 35))
          clear hB
          go_wp2
          go_ret2
          rw [HN.out]
          exact ⟨_, rfl, OwnC.nil _ _, HB1.out⟩
  · have hR : splT F = ([], 20) := by unfold splT; rw [if_pos hs]
    have HR := Lib.hid hR
    rw [prefix_no hs, ← signL_str] at hcp
    have HCP := Lib.hid hcp
    clear hs hR hF hcp
    go_enter Try.func10, Try.ntmps10
    go_wp2_with fail
    refine HCP.out.mono ?_
    rintro e w1 ⟨rfl, hw⟩
    obtain rfl : w = w1 := hw.symm
    go_wp2
    go_ret2
    rw [HR.out]
    exact ⟨_, rfl, OwnC.nil _ _, But.refl [] w⟩
end Go.Proofs.Ytdfjdajfkamafaa
