/- The walk of the statement on the lengths of symbols that stand so often. -/
import Derived.Test.YtmafcmfafcjokaaRLimit
namespace Go.Proofs.Ytmafcmfafcjokaa
open Go Go.RowKit

set_option maxRecDepth 100000 in
theorem rlimit_early {w : World} {A : Option Addr} {len cap : Nat} {most : Int} (hb : most < 1 ∨ 15 < most ∨ 288 < len) :
    Calls Try.prog 31 #[.int .i64 most, .slice A len cap] w (GotNone w) := by
  by_cases h3 : 288 < len
  · have d1 : decide (288 < len) = true := by simpa using h3
    have d2 : decide ((288 : Int) < (len : Int)) = true := by simp; omega
    clear hb
    go_enter Try.func31, Try.ntmps31
    go_wp2
    go_ret2
    exact ⟨rfl, But.refl _ _⟩
  · have d1 : decide (288 < len) = false := by simp; omega
    have d2 : decide ((288 : Int) < (len : Int)) = false := by simp; omega
    by_cases h1 : most < 1
    · have d3 : decide (most < 1) = true := by simpa using h1
      clear hb h1 h3
      go_enter Try.func31, Try.ntmps31
      go_wp2
      go_ret2
      exact ⟨rfl, But.refl _ _⟩
    · have d3 : decide (most < 1) = false := by simp; omega
      have d4 : decide (15 < most) = true := by simp; omega
      clear hb h1 h3
      go_enter Try.func31, Try.ntmps31
      go_wp2
      go_ret2
      exact ⟨rfl, But.refl _ _⟩

set_option maxRecDepth 100000 in
set_option maxHeartbeats 2000000 in
theorem rlimit_bad {w : World} {A : Option Addr} {len cap M : Nat} {l : List Int} (hl : Ints w A len l) (hM1 : 1 ≤ M) (hM2 : M ≤ 15) (h288 : len ≤ 288) (hbad : okCounts l = false ∨ 2 ^ M < (csOf l len).length) :
    Calls Try.prog 31 #[.int .i64 (M : Int), .slice A len cap] w (GotNone w) := by
  have hlen := hl.1
  have HL := Lib.hid hl
  have HLEN := Lib.hid hlen
  have HBAD := Lib.hid hbad
  have d0 : decide (288 < len) = false := by simp; omega
  have d1 : decide ((M : Int) < 1) = false := by simp; omega
  have d2 : decide ((15 : Int) < (M : Int)) = false := by simp; omega
  have d3 : decide ((288 : Int) < (len : Int)) = false := by simp; omega
  clear hl hlen hbad
  go_enter Try.func31, Try.ntmps31
  go_wp2
  clear d0 d3
  go_loop [6, 7] (fun mv iv => ∃ k : Nat, k ≤ len ∧ iv = .int .i64 k ∧ mv = .int .i64 (csOf l k).length ∧ okCounts (l.take k) = true) (fun _ iv => len - (intOf iv).toNat)
  case atStart => exact ⟨0, Nat.zero_le _, rfl, rfl, rfl⟩
  case round =>
    obtain ⟨k, hk, rfl, rfl, hok⟩ := hrel
    have hcl := length_coins0 l k
    have hce := length_csOf l k
    by_cases hlt : k < len
    · obtain ⟨g, o, rfl, hg, hc⟩ := HL.out.at hlt
      have hgd : l.getD k 0 = l[k]'(by have := HLEN.out; omega) := getD_in _
      have hs : (csOf l (k + 1)).length = if 0 < l.getD k 0 then (csOf l k).length + 1 else (csOf l k).length := by
        rw [length_csOf, length_csOf]
        show (if 0 < l.getD k 0 then _ else _ : List (Nat × Nat)).length = _
        split
        · simp
        · rfl
      have hok2 := okCounts_snoc (l.take k) (l[k]'(by have := HLEN.out; omega))
      rw [← lens_take (l := l) (k := k) (by have := HLEN.out; omega), hok, Bool.true_and] at hok2
      rw [hgd] at hs
      generalize l[k]'(by have := HLEN.out; omega) = x at *
      have HS := Lib.hid hs
      have HOK := Lib.hid hok2
      have hb : (csOf l k).length ≤ 288 := by omega
      generalize (csOf l k).length = c at *
      clear hcl hce hs hgd hok hok2
      by_cases hr : 0 ≤ x ∧ x ≤ 1000000000
      · have n0 : decide (x < 0) = false := by simp; omega
        have n1 : decide ((1000000000 : Int) < x) = false := by simp; omega
        have HO2 := Lib.hid (show okCounts (l.take (k + 1)) = true by rw [HOK.out]; simpa [okCount] using hr)
        clear hr
        by_cases hx : 0 < x
        · go_wp2
          go_round
          case rel => exact ⟨k + 1, by omega, by go_num, by rw [HS.out, if_pos hx]; go_num, HO2.out⟩
          case measure => simp [intOf]; omega
        · go_wp2
          go_round
          case rel => exact ⟨k + 1, by omega, by go_num, by rw [HS.out, if_neg hx], HO2.out⟩
          case measure => simp [intOf]; omega
      · by_cases hn : x < 0
        · have n0 : decide (x < 0) = true := by simpa using hn
          clear hr
          go_wp2
          go_ret2
          exact ⟨rfl, But.refl _ _⟩
        · have n0 : decide (x < 0) = false := by simp; omega
          have n1 : decide ((1000000000 : Int) < x) = true := by simp; omega
          clear hr
          go_wp2
          go_ret2
          exact ⟨rfl, But.refl _ _⟩
    · have hke : len = k := by omega
      subst hke
      rw [List.take_of_length_le (by have := HLEN.out; omega)] at hok
      have hp : 2 ^ M < (csOf l len).length := by
        rcases HBAD.out with h | h
        · rw [hok] at h; cases h
        · exact h
      obtain ⟨n, hn⟩ : ∃ n, n = (csOf l len).length := ⟨_, rfl⟩
      rw [← hn] at hce hp ⊢
      obtain ⟨p, hpp⟩ : ∃ p : Nat, p = 2 ^ M := ⟨_, rfl⟩
      rw [← hpp] at hp
      have h15 : 2 ^ M ≤ 2 ^ 15 := Nat.pow_le_pow_right (by decide) hM2
      have hp15 : p ≤ 32768 := by rw [hpp]; exact h15
      have hsh : (2 : Int) ^ M = (p : Int) := by rw [hpp]; simp
      have dnp : decide (p < n) = true := by simpa using hp
      clear h15 hcl hce hpp hn hlt hok
      go_wp2
      go_ret2
      exact ⟨rfl, But.refl _ _⟩

set_option maxRecDepth 100000 in
set_option maxHeartbeats 2000000 in
theorem huffLimits_walk {A : Option Addr} {len cap : Nat} {most : Int} {l : List Int} {w : World} (_hn : (Lit.int .i64 most).wf = true) (hl : Ints w A len l) (hb : len * 8 ≤ 140737488351232) (_hnil : A = none → cap = 0) (_hf : Fits l) :
    Calls Try.prog 7 #[.int .i64 most, .slice A len cap] w fun e w' => e = .returned (.bool true) ∧ Below w.heap.size w w' := by
  by_cases hgood : (1 ≤ most ∧ most ≤ 15 ∧ len ≤ 288) ∧ okCounts l = true ∧ (csOf l len).length ≤ 2 ^ most.toNat
  · obtain ⟨⟨hM1, hM2, h288⟩, hok, hp⟩ := hgood
    obtain ⟨M, rfl⟩ : ∃ M : Nat, most = M := ⟨most.toNat, by omega⟩
    rw [Int.toNat_natCast] at hp
    have hlim := limit_list (cap := cap) hl (by omega) (by omega) h288 hok hp rfl
    have HLIM := Lib.hid hlim
    have HOK := Lib.hid hok
    have HP := Lib.hid hp
    have HL := Lib.hid hl
    clear hlim hok hp hl
    go_enter Try.func7, Try.ntmps7
    go_wp2_with fail
    refine HLIM.out.mono ?_
    rintro e w1 ⟨g, rfl, hO1, hB1⟩
    have hr := rlimit_any (cap := cap) (HL.out.but hB1 (by simp)) (by omega) (by omega) h288 HOK.out HP.out
    have HR := Lib.hid hr
    have HI1 := Lib.hid (show Ints w1 (some ⟨g, 0, none⟩) len (lims M l) from hO1.ints)
    have HB1 := Lib.hid hB1
    clear hr hO1 hB1
    go_wp2_with fail
    refine HR.out.mono ?_
    rintro e w2 ⟨g2, rfl, hO2, hB2⟩
    have hs := ints_same (c := len) (d := len) (HI1.out.but hB2 (by simp)) (show Ints w2 (some ⟨g2, 0, none⟩) len (lims M l) from hO2.ints) (by unfold maxLen; omega)
    have HS := Lib.hid hs
    have HB2 := Lib.hid (HB1.out.trans hB2)
    clear hs hO2 hB2
    go_wp2_with fail
    refine HS.out.mono ?_
    rintro e w3 ⟨rfl, nq, rfl⟩
    go_wp2_with fail
    refine (awake_any _).mono ?_
    rintro e w4 ⟨rfl, hB4⟩
    have HF := Lib.hid (((HB2.out.drewN nq).trans hB4).belowNew)
    clear hB4
    go_wp2
    go_ret
    exact ⟨rfl, HF.out⟩
  · have hboth : ∀ W : World, But [] w W → Calls Try.prog 30 #[.int .i64 most, .slice A len cap] W (GotNone W) ∧ Calls Try.prog 31 #[.int .i64 most, .slice A len cap] W (GotNone W) := by
      intro W hW
      by_cases hearly : most < 1 ∨ 15 < most ∨ 288 < len
      · exact ⟨limit_early hearly, rlimit_early hearly⟩
      · obtain ⟨M, rfl⟩ : ∃ M : Nat, most = M := ⟨most.toNat, by omega⟩
        rw [Int.toNat_natCast] at hgood
        have h : okCounts l = false ∨ 2 ^ M < (csOf l len).length := by
          cases e : okCounts l with
          | false => exact .inl rfl
          | true => right; apply Classical.byContradiction; intro hn; exact hgood ⟨⟨by omega, by omega, by omega⟩, e, by omega⟩
        have hl' := hl.but hW (by simp)
        exact ⟨limit_bad hl' (by omega) (by omega) (by omega) h, rlimit_bad hl' (by omega) (by omega) (by omega) h⟩
    have HBO := Lib.hid hboth
    clear hboth hgood hl
    go_enter Try.func7, Try.ntmps7
    go_wp2_with fail
    refine (HBO.out _ (But.refl _ _)).1.mono ?_
    rintro e w1 ⟨rfl, hB1⟩
    have HR := Lib.hid (HBO.out _ hB1).2
    have HB1 := Lib.hid hB1
    clear hB1
    go_wp2_with fail
    refine HR.out.mono ?_
    rintro e w2 ⟨rfl, hB2⟩
    have hs := ints_same (c := 0) (d := 0) (Ints.empty w2 none) (Ints.empty w2 none) (by unfold maxLen; omega)
    have HS := Lib.hid hs
    have HB2 := Lib.hid (HB1.out.trans hB2)
    clear hs hB2
    go_wp2_with fail
    refine HS.out.mono ?_
    rintro e w3 ⟨rfl, nq, rfl⟩
    go_wp2_with fail
    refine (awake_any _).mono ?_
    rintro e w4 ⟨rfl, hB4⟩
    have HF := Lib.hid (((HB2.out.drewN nq).trans hB4).belowNew)
    clear hB4
    go_wp2
    go_ret
    exact ⟨rfl, HF.out⟩
end Go.Proofs.Ytmafcmfafcjokaa
