/- The contract of Limit. -/
import Derived.Test.YtmafcmfafcjokaaCoinsW
import Derived.Test.YtmafcmfafcjokaaCountW
namespace Go.Proofs.Ytmafcmfafcjokaa
open Go Go.RowKit

def okCount (x : Int) : Bool := decide (0 ≤ x ∧ x ≤ 1000000000)
def okCounts (l : List Int) : Bool := l.all okCount
/-- The lengths that Limit tells. -/
def lims (M : Nat) (l : List Int) : List Int :=
  let cs := csOf l l.length
  if cs.length = 0 then List.replicate l.length 0 else
  if cs.length = 1 then (List.replicate l.length 0).set (cs.getD 0 (0, 0)).1 1 else
  lFold cs (cc (cs.map (·.2)) (M - 1) (2 * cs.length - 2)) (List.replicate l.length 0)
theorem length_lims (M : Nat) (l : List Int) : (lims M l).length = l.length := by
  unfold lims; dsimp only; split
  · simp
  · split
    · simp
    · rw [length_lFold]; simp
/-- Whether there is no answer. -/
def limBad (most : Int) (l : List Int) : Prop := most < 1 ∨ 15 < most ∨ 288 < l.length ∨ okCounts l = false ∨ 2 ^ most.toNat < (csOf l l.length).length

/-- An answer, in a slice of the call's own. -/
def GotList (w : World) (len : Nat) (r : List Int) (e : Ending) (w' : World) : Prop :=
  ∃ g, e = .returned (.tuple #[.slice (some ⟨g, 0, none⟩) len len, .int .i64 0]) ∧ OwnI w' w.heap.size (.slice (some ⟨g, 0, none⟩) len len) r ∧ But [] w w'
def GotNone (w : World) (e : Ending) (w' : World) : Prop := e = .returned (.tuple #[.slice none 0 0, .int .i64 1]) ∧ But [] w w'
theorem OwnI.base {w : World} {b1 b2 : Nat} {v : Value} {r : List Int} (h : OwnI w b1 v r) (hb : b2 ≤ b1) : OwnI w b2 v r := by
  refine ⟨h.1, ?_⟩
  rcases h.2 with h2 | ⟨g, cap, cur, hv, hg, r⟩
  · exact .inl h2
  · exact .inr ⟨g, cap, cur, hv, by omega, r⟩

set_option maxRecDepth 100000 in
theorem limit_early {w : World} {A : Option Addr} {len cap : Nat} {most : Int} (hb : most < 1 ∨ 15 < most ∨ 288 < len) :
    Calls Try.prog 30 #[.int .i64 most, .slice A len cap] w (GotNone w) := by
  by_cases h1 : most < 1
  · have d1 : decide (most < 1) = true := by simpa using h1
    clear hb h1
    go_enter Try.func30, Try.ntmps30
    go_wp2
    go_ret2
    exact ⟨rfl, But.refl _ _⟩
  · have d1 : decide (most < 1) = false := by simp; omega
    by_cases h2 : 15 < most
    · have d2 : decide (15 < most) = true := by simpa using h2
      clear hb h1 h2
      go_enter Try.func30, Try.ntmps30
      go_wp2
      go_ret2
      exact ⟨rfl, But.refl _ _⟩
    · have d2 : decide (15 < most) = false := by simp; omega
      have h3 : 288 < len := by omega
      clear hb h1 h2
      go_enter Try.func30, Try.ntmps30
      go_wp2
      go_ret2
      exact ⟨rfl, But.refl _ _⟩

theorem okCounts_snoc (l : List Int) (x : Int) : okCounts (l ++ [x]) = (okCounts l && okCount x) := by simp [okCounts]
theorem bad_of_mem {l : List Int} {x : Int} (h : x ∈ l) (hx : ¬ (0 ≤ x ∧ x ≤ 1000000000)) : okCounts l = false := by
  cases e : okCounts l with
  | false => rfl
  | true =>
    have := List.all_eq_true.1 e x h
    simp only [okCount, decide_eq_true_eq] at this
    exact absurd this hx
theorem coins_le {l : List Int} (h : okCounts l = true) {k : Nat} : ∀ x ∈ (csOf l k).map (·.2), x ≤ 1000000000 := by
  intro x hx
  obtain ⟨c, hc, rfl⟩ := List.mem_map.1 hx
  obtain ⟨_, h2, h3⟩ := mem_csOf.1 hc
  have hlt : c.1 < l.length := by
    apply Classical.byContradiction; intro hn
    rw [List.getD_eq_getElem?_getD, List.getElem?_eq_none (by omega)] at h2; simp at h2
  have := List.all_eq_true.1 h l[c.1] (List.getElem_mem hlt)
  have e : l.getD c.1 0 = l[c.1] := by rw [List.getD_eq_getElem?_getD, List.getElem?_eq_getElem hlt]; rfl
  rw [e] at h3
  simp only [okCount, decide_eq_true_eq] at this
  omega

/-- What Limit tells. -/
def LimitPost (w : World) (len M : Nat) (l : List Int) (e : Ending) (w' : World) : Prop :=
  (okCounts l = true ∧ (csOf l len).length ≤ 2 ^ M ∧ GotList w len (lims M l) e w') ∨ ((okCounts l = false ∨ 2 ^ M < (csOf l len).length) ∧ GotNone w e w')
theorem lims_zero {M k n : Nat} {l : List Int} (hk : l.length = k) (hn : n = (csOf l k).length) (h : n = 0) : lims M l = List.replicate k 0 := by
  subst hk; unfold lims; dsimp only; rw [← hn, if_pos h]
theorem lims_one {M k n : Nat} {l : List Int} (hk : l.length = k) (hn : n = (csOf l k).length) (h : n = 1) : lims M l = (List.replicate k 0).set ((csOf l k).getD 0 (0, 0)).1 1 := by
  subst hk; unfold lims; dsimp only; rw [← hn, if_neg (by omega), if_pos h]
theorem lims_more {M k n : Nat} {l : List Int} (hk : l.length = k) (hn : n = (csOf l k).length) (h : 2 ≤ n) : lims M l = lFold (csOf l k) (cc ((csOf l k).map (·.2)) (M - 1) (2 * n - 2)) (List.replicate k 0) := by
  subst hk; unfold lims; dsimp only; rw [← hn, if_neg (by omega), if_neg (by omega)]

set_option maxRecDepth 100000 in
set_option maxHeartbeats 2000000 in
theorem limit_late {N : Nat} (hN : SortsUpTo N) {w : World} {A : Option Addr} {len cap M : Nat} {l : List Int} (hl : Ints w A len l) (hM1 : 1 ≤ M) (hM2 : M ≤ 15) (h288 : len ≤ 288) (hcN : (coins0 l len).length ≤ N) :
    Calls Try.prog 30 #[.int .i64 (M : Int), .slice A len cap] w (LimitPost w len M l) := by
  obtain ⟨i0, hi0, hz0, hz1, hz2⟩ := info_parts info_int
  have hlen := hl.1
  have d1 : decide ((M : Int) < 1) = false := by simp; omega
  have d2 : decide ((15 : Int) < (M : Int)) = false := by simp; omega
  go_enter Try.func30, Try.ntmps30
  go_wp2
  go_loop [23] (fun i => ∃ k : Nat, k ≤ len ∧ okCounts (l.take k) = true ∧ i = .int .i64 k) (fun i => len - (intOf i).toNat)
  case atStart => exact ⟨0, Nat.zero_le _, rfl, rfl⟩
  case round =>
    obtain ⟨k, hk, hok, rfl⟩ := hrel
    by_cases hlt : k < len
    · obtain ⟨g, o, rfl, hg, hc⟩ := hl.at hlt
      have hts := lens_take (l := l) (k := k) (by omega)
      have HS := Lib.hid hts
      have HX := Lib.hid (show l[k]'(by omega) ∈ l from List.getElem_mem _)
      generalize l[k]'(by omega) = x at *
      clear hl hts
      by_cases hr : 0 ≤ x ∧ x ≤ 1000000000
      · have HO := Lib.hid (show okCounts (l.take (k + 1)) = true by rw [HS.out, okCounts_snoc, hok]; simp [okCount]; omega)
        have n0 : decide (x < 0) = false := by simp; omega
        have n1 : decide ((1000000000 : Int) < x) = false := by simp; omega
        clear hr HS hok HX
        go_wp2
        go_round
        case rel => exact ⟨k + 1, by omega, HO.out, by go_num⟩
        case measure => simp [intOf]; omega
      · have HF := Lib.hid (bad_of_mem HX.out hr)
        clear HS hok HX hlen
        by_cases hn : x < 0
        · go_wp2
          go_ret2
          exact .inr ⟨.inl HF.out, rfl, But.refl _ _⟩
        · have n0 : decide (x < 0) = false := by simp; omega
          have n1 : 1000000000 < x := by omega
          go_wp2
          go_ret2
          exact .inr ⟨.inl HF.out, rfl, But.refl _ _⟩
    · obtain rfl : k = len := by omega
      rw [List.take_of_length_le (by omega)] at hok
      have hcoins := coinsOf_any (cap := cap) hN hl h288 hcN
      have HC := Lib.hid hcoins
      clear hcoins
      go_wp2_with fail
      refine HC.out.mono ?_
      rintro e w1 ⟨A1, c1, rfl, hC1, hA1, hB1⟩
      obtain ⟨n, hn⟩ : ∃ n, n = (csOf l k).length := ⟨_, rfl⟩
      rw [← hn] at hC1 ⊢
      have hn288 : n ≤ 288 := by rw [hn, length_csOf]; have := length_coins0 l k; omega
      have h2M : 2 ^ M ≤ 2 ^ 15 := Nat.pow_le_pow_right (by decide) hM2
      obtain ⟨p, hp⟩ : ∃ p : Nat, p = 2 ^ M := ⟨_, rfl⟩
      have hp15 : p ≤ 32768 := by rw [hp]; exact h2M
      have hsh : (2 : Int) ^ M = (p : Int) := by rw [hp]; simp
      have HP := Lib.hid hp
      have HN1 := Lib.hid hn
      clear hp hn h2M HC hl
      by_cases hbig : p < n
      · have HF := Lib.hid (show 2 ^ M < (csOf l k).length by rw [← HN1.out, ← HP.out]; exact hbig)
        have hd : decide (p < n) = true := by simpa using hbig
        go_wp2
        go_ret2
        exact .inr ⟨.inr HF.out, rfl, hB1⟩
      · have hd : decide (p < n) = false := by simpa using hbig
        have HG := Lib.hid (show (csOf l k).length ≤ 2 ^ M by rw [← HN1.out, ← HP.out]; omega)
        have HOK := Lib.hid hok
        have HLEN := Lib.hid hlen
        have hbs1 := hB1.size
        have hbig2 : n ≤ p := by omega
        clear hok hlen hbig
        by_cases hn0 : n = 0
        · have HL0 := Lib.hid (lims_zero (M := M) HLEN.out HN1.out hn0)
          subst hn0
          go_wp2_with (at_make; refine wpList_make_full _ rfl _ _ 22 rfl w1.heap.size 3 i0 _ 1 Try.underlying22 hi0 hz0 hz1 _ _ _ _ k rfl rfl (by omega) (by omega) (by rw [hz2]; omega) (by unfold maxLen; omega) (by simp) ?_; intro w2 hown hgrow)
          have hO2 := OwnI.made hown
          have hB2 : But [] w1 w2 := (But.refl [] w1).grown hgrow (by simp)
          go_ret2
          exact .inl ⟨HOK.out, HG.out, w1.heap.size, rfl, by rw [HL0.out]; exact hO2.base hbs1, hB1.trans hB2⟩
        · by_cases hn1 : n = 1
          · have HL1 := Lib.hid (lims_one (M := M) HLEN.out HN1.out hn1)
            subst hn1
            obtain ⟨g, o, rfl, hg, hc0, hc1⟩ := hC1.at (show 0 < 1 by omega)
            have hcl := hC1.1
            have hsy := (mem_csOf.1 (List.getElem_mem (show 0 < (csOf l k).length by omega))).1
            have hgd : (csOf l k).getD 0 (0, 0) = (csOf l k)[0]'(by omega) := by rw [List.getD_eq_getElem?_getD, List.getElem?_eq_getElem (by omega)]; rfl
            rw [← hgd] at hc0 hc1 hsy
            generalize ((csOf l k).getD 0 (0, 0)).1 = sy at *
            rw [Nat.zero_mul, Nat.add_zero] at hc0 hc1
            have s0 : (0 : Int) ≤ (sy : Int) := by omega
            have s1 : (sy : Int) < (k : Int) := by omega
            have hp1 : decide ((p : Int) < 1) = false := by simp; omega
            clear hgd hcl hC1
            go_upto_region 13 with (at_make; refine wpList_make_full _ rfl _ _ 22 rfl w1.heap.size 3 i0 _ 1 Try.underlying22 hi0 hz0 hz1 _ _ _ _ k rfl rfl (by omega) (by omega) (by rw [hz2]; omega) (by unfold maxLen; omega) (by simp) ?_; intro w2 hown hgrow)
            have hO2 := OwnI.made hown
            have hB2 : But [] w1 w2 := (But.refl [] w1).grown hgrow (by simp)
            replace hc0 := hB2.cell hc0 (by simp)
            replace hc1 := hB2.cell hc1 (by simp)
            have hce := hO2.cell (show sy < (List.replicate k (0 : Int)).length by simp; omega)
            have hcf := hO2.free sy
            have HO2 := Lib.hid hO2
            have HB2 := Lib.hid hB2
            clear hown hgrow hO2 hB2
            go_wp2
            go_ret2
            exact .inl ⟨HOK.out, HG.out, w1.heap.size, rfl, by rw [HL1.out]; exact (HO2.out.set sy 1).base hbs1, (hB1.trans HB2.out).setCell (.inr hbs1) _⟩
          · have hn2 : 2 ≤ n := by omega
            have HLM := Lib.hid (lims_more (M := M) HLEN.out HN1.out hn2)
            obtain ⟨K, rfl⟩ : ∃ K, M = K + 1 := ⟨M - 1, by omega⟩
            have hws : (csOf l k).map (·.2) = (csOf l k).map (·.2) := rfl
            have hMb : ∀ x ∈ (csOf l k).map (·.2), x ≤ 1000000000 := coins_le HOK.out
            go_upto_region 13 with (at_make; refine wpList_make_full _ rfl _ _ 22 rfl w1.heap.size 3 i0 _ 1 Try.underlying22 hi0 hz0 hz1 _ _ _ _ k rfl rfl (by omega) (by omega) (by rw [hz2]; omega) (by unfold maxLen; omega) (by simp) ?_; intro w2 hown hgrow)
            have hO2 := OwnI.made hown
            have hB2 : But [] w1 w2 := (But.refl [] w1).grown hgrow (by simp)
            have hC2 := hC1.but hB2 (by simp)
            have hbs2 := hB2.size
            have hgl := World.ownsRow.lt hO2 w1.heap.size rfl
            have hoff : Off A1 w1.heap.size := fun a e => by
              obtain ⟨g', o', e', hg', _⟩ := hC1.2 (by omega)
              rw [e] at e'; injection e' with e'; rw [e']; show g' ≠ _; omega
            have hrows := rowsOf_any (cap := c1) (most := K + 1) rfl hC2 hn288 (by omega) hM2 hMb
            have HR := Lib.hid hrows
            have HO2 := Lib.hid hO2
            have HB2 := Lib.hid hB2
            clear hown hgrow hO2 hB2 hrows hws
            go_wp2_with fail
            refine HR.out.mono ?_
            rintro e w3 ⟨g3, c3, L, rfl, hL3, hS3, hRA3, hB3⟩
            have hO3 := HO2.out.but hB3 (by simp)
            have hC3 := hC2.but hB3 (by simp)
            have hsym : ∀ x ∈ csOf l k, x.1 < k := fun x hx => (mem_csOf.1 hx).1
            have hS4 : OwnS w3 w1.heap.size (.slice (some ⟨g3, 0, none⟩) (K + 1) c3) L := by
              refine ⟨hS3.1, ?_⟩
              rcases hS3.2 with ⟨e, _⟩ | ⟨g', cap', cur, e, hg', r⟩
              · cases e
              · exact .inr ⟨g', cap', cur, e, by omega, r⟩
            have hRA4 : RowsAre w3 w1.heap.size ((csOf l k).map (·.2)) L := fun q hq => by
              obtain ⟨g', e', ho'⟩ := hRA3 q hq
              exact ⟨g', e', ho'.base hbs2⟩
            have hcount := countCoins_any (cap := c1) (K := K) (R1 := K + 1) rfl rfl hO3 hC3 hoff hn288 hn2 (by omega) (by have := HG.out; have := HN1.out; omega) hL3 hS4 hRA4 hsym (fun x hx => by
              have := List.eq_of_mem_replicate hx; omega)
            have HCT := Lib.hid hcount
            have HB3 := Lib.hid hB3
            clear hcount hO3 hC3 hC2 hS3 hS4 hRA3 hRA4 hL3 hB3 hsym hoff hMb HR
            go_wp2_with fail
            refine HCT.out.mono ?_
            rintro e w4 ⟨rfl, hO4, hB4⟩
            have hfin : But [] w w4 := ((hB1.trans HB2.out).trans HB3.out).fresh hB4 (fun i hi => by
              obtain rfl : i = w1.heap.size := by simpa using hi
              exact hbs1)
            have HFIN := Lib.hid hfin
            have HO4 := Lib.hid hO4
            clear hfin hO4 hB4 HCT
            go_wp2
            go_ret2
            exact .inl ⟨HOK.out, HG.out, w1.heap.size, rfl, by rw [HLM.out]; exact HO4.out.base hbs1, HFIN.out⟩
end Go.Proofs.Ytmafcmfafcjokaa
