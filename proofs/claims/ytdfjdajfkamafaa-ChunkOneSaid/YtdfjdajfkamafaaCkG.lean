/- The chapter's examples of chunks; the walks of the statements on splitting and on kinds. -/
import Derived.Test.YtdfjdajfkamafaaCkQ
set_option maxRecDepth 100000
set_option linter.unusedVariables false
namespace Go.Proofs.Ytdfjdajfkamafaa
set_option maxRecDepth 100000
open Go Go.RowKit
/-- One chunk in a block of its own. -/
theorem one_ck (w : World) (t d : List UInt8) : Cks (w.alloc (.cells #[.string (strL t), .string (strL d)] 35)) (some ⟨w.heap.size, 0, none⟩) 1 [(t, d)] :=
  ⟨rfl, fun _ => ⟨w.heap.size, 0, rfl, by simp, fun i hi => by
    have h0 : i = 0 := by simpa using hi
    subst h0
    exact ⟨by rw [World.cell?_alloc_mark]; rfl, by rw [World.cell?_alloc_mark]; rfl⟩⟩⟩
theorem join_iend : joinT [([73, 69, 78, 68], [])] = ([137, 80, 78, 71, 13, 10, 26, 10, 0, 0, 0, 0, 73, 69, 78, 68, 174, 66, 96, 130], 0) := by decide +kernel
theorem split_sign : splT [137, 80, 78, 71, 13, 10, 26, 10] = ([], 0) := by decide +kernel
theorem split_none : splT [] = ([], 20) := by decide +kernel
set_option maxHeartbeats 1000000 in
theorem awake7_any (w : World) : Calls Try.prog 9 #[] w fun e w' => e = .returned (.bool true) ∧ But [] w w' := by
  have hJ : Calls Try.prog 14 #[.slice (some ⟨w.heap.size, 0, none⟩) 1 1] (w.alloc (.cells #[.string ⟨#[73, 69, 78, 68]⟩, .string ⟨#[]⟩] 35)) fun e w' => e = .returned (.tuple #[.string ⟨#[137, 80, 78, 71, 13, 10, 26, 10, 0, 0, 0, 0, 73, 69, 78, 68, 174, 66, 96, 130]⟩, .int .i64 0]) ∧ But [] (w.alloc (.cells #[.string ⟨#[73, 69, 78, 68]⟩, .string ⟨#[]⟩] 35)) w' := by
    have h := pjoin_any _ (cap := 1) (one_ck w [73, 69, 78, 68] []) (by decide) (by decide)
    rw [join_iend] at h
    exact h
  have hS : ∀ v, Calls Try.prog 10 #[.string ⟨#[137, 80, 78, 71, 13, 10, 26, 10]⟩] v (GotC v ([], 0)) := fun v => by
    have h := psplit_any v (F := [137, 80, 78, 71, 13, 10, 26, 10]) (by decide)
    rw [split_sign] at h
    exact h
  have hE : ∀ v, Calls Try.prog 10 #[.string ⟨#[]⟩] v (GotC v ([], 20)) := fun v => by
    have h := psplit_any v (F := []) (by decide)
    rw [split_none] at h
    exact h
  have HJ := Lib.hid hJ
  have HS := Lib.hid hS
  have HE := Lib.hid hE
  have HB0 := Lib.hid ((But.refl [] w).alloc (.cells #[.string ⟨#[73, 69, 78, 68]⟩, .string ⟨#[]⟩] 35))
  clear hJ hS hE
  go_enter Try.func9, Try.ntmps9
  go_wp2_with fail
  refine HJ.out.mono ?_
  rintro e w1 ⟨rfl, hB⟩
  have HB1 := Lib.hid (HB0.out.trans hB)
  clear hB
  go_wp2_with fail
  refine (HS.out w1).mono ?_
  rintro e w2 ⟨v, rfl, hO, hB⟩
  obtain ⟨A2, c2, rfl, _⟩ := hO.open
  have HB2 := Lib.hid (HB1.out.trans hB)
  clear hB hO
  go_wp2_with fail
  refine (HE.out w2).mono ?_
  rintro e w3 ⟨v, rfl, hO, hB⟩
  have HB3 := Lib.hid (HB2.out.trans hB)
  clear hB hO
  go_wp2
  go_ret
  exact ⟨rfl, HB3.out⟩
set_option maxHeartbeats 1000000 in
theorem chunkSplits_walk {s : ByteArray} {w : World} (hs : s.size ≤ 140737488351232) :
    Calls Try.prog 3 #[.string s] w fun e w' => e = .returned (.bool true) ∧ Below w.heap.size w w' := by
  have HA := Lib.hid (fun v => awake7_any v)
  by_cases h1 : 100000 < s.size
  · have d : decide ((100000 : Int) < (s.size : Int)) = true := by simp; omega
    clear h1
    go_enter Try.func3, Try.ntmps3
    go_wp2_with fail
    refine (HA.out _).mono ?_
    rintro e w1 ⟨rfl, hB⟩
    have HB1 := Lib.hid hB
    clear hB
    go_wp2
    go_ret
    exact ⟨rfl, HB1.out.belowC⟩
  · have d : decide ((100000 : Int) < (s.size : Int)) = false := by simp; omega
    have hl : s.data.toList.length ≤ 100000 := by rw [show s.data.toList.length = s.size by simp]; omega
    have hp := fun v => psplit_any v (F := s.data.toList) (by omega)
    have hq := fun v => esplit_any v (F := s.data.toList) (by omega)
    simp only [strL_of] at hp hq
    have hsl := split_few s.data.toList
    obtain ⟨R, hR⟩ : ∃ R, R = splT s.data.toList := ⟨_, rfl⟩
    simp only [← hR] at hp hq
    rw [← hR] at hsl
    obtain ⟨L, er⟩ := R
    have hLn : L.length ≤ 100000 := by have : L.length ≤ s.data.toList.length := hsl; omega
    have HP := Lib.hid hp
    have HQ := Lib.hid hq
    have de : (er == er) = true := by simp
    clear hp hq hR hl h1 hsl
    go_enter Try.func3, Try.ntmps3
    go_wp2_with fail
    refine (HP.out w).mono ?_
    rintro e w1 ⟨v, rfl, hO, hB⟩
    obtain ⟨A1, c1, rfl, hK1⟩ := hO.open
    have HB1 := Lib.hid hB
    have HK1 := Lib.hid hK1
    clear hB hO hK1
    go_wp2_with fail
    refine (HQ.out w1).mono ?_
    rintro e w2 ⟨v, rfl, hO, hB⟩
    obtain ⟨A2, c2, rfl, hK2⟩ := hO.open
    have hsm := Cks.same (c1 := c1) (c2 := c2) (HK1.out.but hB) hK2 (by show L.length ≤ _; omega) (by show L.length ≤ _; omega)
    rw [show decide ((L, er).1 = (L, er).1) = true by simp] at hsm
    have HB2 := Lib.hid (HB1.out.trans hB)
    have HSM := Lib.hid hsm
    clear hB hO hsm hK2
    go_wp2_with fail
    refine HSM.out.mono ?_
    rintro e w3 ⟨rfl, hB⟩
    have HB3 := Lib.hid (HB2.out.trans hB)
    clear hB
    go_wp2_with fail
    refine (HA.out _).mono ?_
    rintro e w4 ⟨rfl, hB⟩
    have HB4 := Lib.hid (HB3.out.trans hB)
    clear hB
    go_wp2
    go_ret
    exact ⟨rfl, HB4.out.belowC⟩
set_option maxHeartbeats 1000000 in
theorem chunkKinds_walk {s : ByteArray} {w : World} (hs : s.size ≤ 140737488351232) :
    Calls Try.prog 7 #[.string s] w fun e w' => e = .returned (.bool true) ∧ Below w.heap.size w w' := by
  have HA := Lib.hid (fun v => awake7_any v)
  have hc := fun v => pcrit_any v (s := s) hs
  have hl : s.data.toList.length = s.size := by simp
  by_cases h0 : s.size = 0
  · have d0 : decide (0 < s.size) = false := decide_eq_false (by omega)
    have hf : critT s.data.toList = false := by rw [show s.data.toList = [] from List.eq_nil_of_length_eq_zero (by omega)]; rfl
    simp only [hf] at hc
    have HC := Lib.hid hc
    clear hc hf
    go_enter Try.func7, Try.ntmps7
    go_wp2_with fail
    refine (HC.out w).mono ?_
    rintro e w1 ⟨rfl, rfl⟩
    go_wp2_with fail
    refine (HA.out _).mono ?_
    rintro e w4 ⟨rfl, hB⟩
    have HB4 := Lib.hid hB
    clear hB
    go_wp2
    go_ret
    exact ⟨rfl, HB4.out.belowC⟩
  · have d0 : decide (0 < s.size) = true := decide_eq_true (by omega)
    have hpos : 0 < s.size := by omega
    have k0 : ∀ W, (Instr.index 9 (.string s) (.int .i64 0)).run Try.prog W = .ok (.int .u8 ((s.data.toList[0]'(by rw [hl]; exact hpos)).toNat : Nat)) W := fun W => byteC_run (k := 0) hpos W
    have hcr := critT_at (l := s.data.toList) (by rw [hl]; exact hpos)
    obtain ⟨x, hx⟩ : ∃ x, x = (s.data.toList[0]'(by rw [hl]; exact hpos)).toNat := ⟨_, rfl⟩
    rw [← hx] at hcr
    simp only [← hx] at k0
    simp only [hcr] at hc
    have HC := Lib.hid hc
    clear hx hcr hc
    by_cases h1 : 65 ≤ x
    · have d1 : decide ((65 : Int) ≤ (x : Int)) = true := by simp; omega
      by_cases h2 : x ≤ 90
      · have d2 : decide ((x : Int) ≤ 90) = true := by simp; omega
        have d3 : decide (65 ≤ x ∧ x ≤ 90) = true := decide_eq_true ⟨h1, h2⟩
        rw [d3] at HC
        clear h1 h2 d3
        go_enter Try.func7, Try.ntmps7
        go_wp2_with fail
        refine (HC.out w).mono ?_
        rintro e w1 ⟨rfl, rfl⟩
        go_wp2_with fail
        refine (HA.out _).mono ?_
        rintro e w4 ⟨rfl, hB⟩
        have HB4 := Lib.hid hB
        clear hB
        go_wp2
        go_ret
        exact ⟨rfl, HB4.out.belowC⟩
      · have d2 : decide ((x : Int) ≤ 90) = false := by simp; omega
        have d3 : decide (65 ≤ x ∧ x ≤ 90) = false := decide_eq_false (fun h => h2 h.2)
        rw [d3] at HC
        clear h1 h2 d3
        go_enter Try.func7, Try.ntmps7
        go_wp2_with fail
        refine (HC.out w).mono ?_
        rintro e w1 ⟨rfl, rfl⟩
        go_wp2_with fail
        refine (HA.out _).mono ?_
        rintro e w4 ⟨rfl, hB⟩
        have HB4 := Lib.hid hB
        clear hB
        go_wp2
        go_ret
        exact ⟨rfl, HB4.out.belowC⟩
    · have d1 : decide ((65 : Int) ≤ (x : Int)) = false := by simp; omega
      have d3 : decide (65 ≤ x ∧ x ≤ 90) = false := decide_eq_false (fun h => h1 h.1)
      rw [d3] at HC
      clear h1 d3
      go_enter Try.func7, Try.ntmps7
      go_wp2_with fail
      refine (HC.out w).mono ?_
      rintro e w1 ⟨rfl, rfl⟩
      go_wp2_with fail
      refine (HA.out _).mono ?_
      rintro e w4 ⟨rfl, hB⟩
      have HB4 := Lib.hid hB
      clear hB
      go_wp2
      go_ret
      exact ⟨rfl, HB4.out.belowC⟩
end Go.Proofs.Ytdfjdajfkamafaa
