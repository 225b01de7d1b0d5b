/- The contract of the document's Next. -/
import Derived.Test.YtobmghjpfkdooaaDoorNextW
import Derived.Test.YtobmghjpfkdooaaDoorRMake
namespace Go.Proofs.YtobmghjpfkdooaaDoor
set_option maxRecDepth 100000
open Go Go.RowKit

theorem find_hit {l : List Int} {n c k : Nat} (hk : k < l.length) (hb : ∀ j < k, ¬ (l.getD j 0 = (n : Int) ∧ (codes l).getD j 0 = (c : Int)))
    (hf : l.getD k 0 = (n : Int) ∧ (codes l).getD k 0 = (c : Int)) : findS l n c = some k := by
  unfold findS
  have e : List.range l.length = List.range k ++ (k :: List.range' (k + 1) (l.length - (k + 1))) := by
    rw [List.range_eq_range', List.range_eq_range']
    have h1 := List.range'_append_1 (s := 0) (m := k) (n := l.length - k)
    rw [show k + (l.length - k) = l.length from by omega] at h1
    rw [← h1, Nat.zero_add, show l.length - k = (l.length - (k + 1)) + 1 from by omega, List.range'_succ]
  rw [e, List.find?_append, List.find?_eq_none.2 (fun x hx => by simpa using fun h => fun h2 => hb x (List.mem_range.1 hx) ⟨by simpa using h, by simpa using h2⟩), Option.none_or, List.find?_cons_of_pos]
  simp only [decide_eq_true_eq]
  exact hf
theorem find_miss {l : List Int} {n c : Nat} (hb : ∀ j < l.length, ¬ (l.getD j 0 = (n : Int) ∧ (codes l).getD j 0 = (c : Int))) : findS l n c = none := by
  unfold findS
  exact List.find?_eq_none.2 fun x hx => by
    have := hb x (List.mem_range.1 hx)
    simpa using fun h => fun h2 => this ⟨by simpa using h, by simpa using h2⟩
theorem longest_le (l : List Int) : longest l ≤ 15 := by
  unfold longest; split
  · omega
  · split <;> omega

attribute [local irreducible] ord was cntW inN gN findS nextG longest ordTo codes
def GotRNext (w : World) (b : Nat) (l : List Int) (s : ByteArray) (p : Nat) (e : Ending) (w' : World) : Prop :=
  ∃ q, nextS l s p = q ∧ e = .returned (.tuple #[.int .i64 (q.1 : Nat), .int .i64 q.2.1]) ∧ FS w' b s q.2.2 ∧ But [b] w w'
theorem gotRNext_of {w : World} {b : Nat} {l : List Int} {s : ByteArray} {p x pp : Nat} {err : Int} {q : Nat × Int × Nat} {e : Ending} {w' : World} (h : nextS l s p = q) (h2 : (x, err, pp) = q)
    (he : e = .returned (.tuple #[.int .i64 (x : Nat), .int .i64 err])) (hr : FS w' b s pp) (hB : But [b] w w') : GotRNext w b l s p e w' := by
  subst h2
  exact ⟨_, h, he, hr, hB⟩
/-- No symbol below k has this length and this code. -/
def NoneBelow (l : List Int) (n c k : Nat) : Prop := ∀ j < k, ¬ (l.getD j 0 = (n : Int) ∧ (codes l).getD j 0 = (c : Int))

set_option maxRecDepth 100000 in
set_option maxHeartbeats 1000000 in
theorem rnext_any {w : World} {bt b p : Nat} {l : List Int} {s : ByteArray} (hc : chk l = 0) (hR : FS w b s p) (hs : s.size ≤ 140737488355328) (hb : ∀ w', But [b] w w' → RT w' bt l) :
    Calls Tryd.prog 36 #[.pointer (some ⟨bt, 0, none⟩), .pointer (some ⟨b, 0, none⟩)] w (GotRNext w b l s p) := by
  obtain ⟨h288, hok, -, -⟩ := chk_zero hc
  obtain ⟨Al, cl, Ac, cc, hI, hIl, _⟩ := hb w (But.refl _ _)
  have k0 : w.cell? ⟨bt, 0, none⟩ = some (.slice Al l.length cl) := hI.cell 0
  have hsum := ref_sum (cap := cl) hIl h288 hok
  have hlong : longest l = if many l = 0 then 0 else if many l = 1 ∧ top l = 1 then 1 else 15 := by unfold longest; rfl
  have hl15 := longest_le l
  have hlen : l.length = l.length := rfl
  generalize ksum l = S at *
  have HSUM := Lib.hid hsum
  have HR := Lib.hid hR
  have HB := Lib.hid hb
  have HOK := Lib.hid hok
  have HSZ := Lib.hid hs
  clear hsum hR hb hI hIl hc hok hs hlen
  generalize hM : many l = M at *
  generalize hT : top l = T at *
  clear hM hT
  have hcase : (M = 0 ∧ ((M : Int) == 0) = true ∧ ((M : Int) == 1) = false ∧ longest l = 0) ∨ (M ≠ 0 ∧ ((M : Int) == 0) = false ∧ ((M : Int) == 1) = true ∧ (T == 1) = true ∧ longest l = 1)
      ∨ (M ≠ 0 ∧ ((M : Int) == 0) = false ∧ ((M : Int) == 1) = true ∧ (T == 1) = false ∧ longest l = 15) ∨ (M ≠ 0 ∧ ((M : Int) == 0) = false ∧ ((M : Int) == 1) = false ∧ longest l = 15) := by
    by_cases h0 : M = 0
    · left; exact ⟨h0, by simp [h0], by simp [h0], by rw [hlong, if_pos h0]⟩
    · by_cases h1 : M = 1
      · by_cases h2 : T = 1
        · right; left; exact ⟨h0, by simp [h0], by simp [h1], by simp [h2], by rw [hlong, if_neg h0, if_pos ⟨h1, h2⟩]⟩
        · right; right; left; exact ⟨h0, by simp [h0], by simp [h1], by simp [h2], by rw [hlong, if_neg h0, if_neg (by omega)]⟩
      · right; right; right; exact ⟨h0, by simp [h0], by simp; omega, by rw [hlong, if_neg h0, if_neg (by omega)]⟩
  clear hlong
  generalize hL : longest l = L at *
  have HL := Lib.hid hL
  clear hL
  go_enter Tryd.func36, Tryd.ntmps36
  rcases hcase with ⟨c1, c2, c3, c4⟩ | ⟨c1, c2, c3, c5, c4⟩ | ⟨c1, c2, c3, c5, c4⟩ | ⟨c1, c2, c3, c4⟩
  all_goals
    go_wp2_with fail
    refine HSUM.out.mono ?_
    rintro e w1 ⟨rfl, rfl⟩
    go_upto_region 7 with (fail)
    go_cut [9, 10] from 32 to 78 (fun v c wx => v = .int .i64 (L : Nat) ∧ c = .int .i64 0 ∧ w = wx)
    case first =>
      go_wp2
      go_meet
      exact ⟨by rw [c4]; rfl, rfl, rfl⟩
    case rest =>
      obtain ⟨rfl, rfl, rfl⟩ := hcut
      try clear c5
      clear c1 c2 c3 c4
      go_wp2
      go_loopw [10, 11] (fun cv nv wr => ∃ n m c p1 : Nat, m = n + 1 ∧ n ≤ L ∧ cv = .int .i64 c ∧ nv = .int .i64 m ∧ c < 2 ^ n ∧ nextG l s (L - n) m c p1 = nextS l s p ∧ FS wr b s p1 ∧ But [b] w wr) (fun _ nv _ => (17 - intOf nv).toNat)
      case atStart => exact ⟨0, 1, 0, p, rfl, Nat.zero_le _, rfl, rfl, by decide, by rw [← HL.out]; exact nextS_eq _ _ _, HR.out, But.refl _ _⟩
      case round =>
        obtain ⟨n, m, c, p1, hm, hn, rfl, rfl, hc2, hG, hR1, hB1⟩ := hrel
        generalize hNS : nextS l s p = q at *
        have HNS := Lib.hid hNS
        have HM := Lib.hid hm
        clear hNS
        by_cases hlt : m ≤ L
        · have hn14 : n ≤ 14 := by omega
          have hm15 : m ≤ 15 := by omega
          have hpow := Nat.pow_le_pow_right (n := 2) (by decide) hn14
          have hc14 : c < 16384 := by omega
          have hgo : ∀ v, v < 2 → 2 * c + v < 2 ^ m := fun v hv => by rw [hm, Nat.pow_succ]; omega
          obtain ⟨f, hf⟩ : ∃ f, L - n = f + 1 := ⟨L - n - 1, by omega⟩
          have hf2 : L - m = f := by omega
          rw [hf] at hG
          have hbits := hR1.bits HSZ.out 1
          have hv2 : bitsVal s p1 1 < 2 := by
            unfold bitsVal; split
            · exact bitsAt_lt _ _ 1
            · decide
          rw [nextG_succ] at hG
          have HF2 := Lib.hid hf2
          have HGO := Lib.hid (hgo _ hv2)
          clear hf hf2 hR1 hpow hm hc2 hgo
          by_cases hE : bitsErr s p1 1 = 0
          · rw [if_neg (by simpa using hE)] at hG
            rw [hE] at hbits
            generalize bitsVal s p1 1 = v at *
            generalize bitsGo s p1 1 = p2 at *
            have HBITS := Lib.hid hbits
            clear hbits hE
            obtain ⟨code, hcode⟩ : ∃ code, code = 2 * c + v := ⟨_, rfl⟩
            rw [← hcode] at hG HGO
            have ecode : 2 * (c : Int) + (v : Int) = (code : Int) := by omega
            have HG := Lib.hid hG
            have HE := Lib.hid ecode
            clear hG hcode
            generalize hLL : l.length = LL at *
            have HLL := Lib.hid hLL
            go_wp2_with fail
            refine HBITS.out.mono ?_
            rintro e w2 ⟨rfl, hR2, hB2⟩
            have hB3 := hB1.trans hB2
            obtain ⟨Al, cl, Ac, cc, hI, hIl, hIc⟩ := HB.out _ hB3
            rw [HLL.out] at hI hIl hIc
            have q0 : w2.cell? ⟨bt, 0, none⟩ = some (.slice Al LL cl) := hI.cell 0
            have q1 : w2.cell? ⟨bt, 1, none⟩ = some (.slice Ac LL cc) := hI.cell 1
            have HR2 := Lib.hid hR2
            have HIL := Lib.hid hIl
            have HIC := Lib.hid hIc
            clear hI hR2 hIl hIc hLL k0
            obtain ⟨wo, rfl⟩ : ∃ wo : World, wo = wr := ⟨_, rfl⟩
            go_wp2
            go_loopw [14] (fun iv wr => ∃ k : Nat, k ≤ LL ∧ iv = .int .i64 k ∧ NoneBelow l m code k ∧ w2 = wr) (fun iv _ => LL - (intOf iv).toNat)
            case atStart => exact ⟨0, Nat.zero_le _, rfl, fun j hj => absurd hj (Nat.not_lt_zero _), rfl⟩
            case round =>
              obtain ⟨k, hk, rfl, hnb, rfl⟩ := hrel
              have HNB := Lib.hid hnb
              clear hnb ecode
              by_cases hkl : k < LL
              · obtain ⟨g, o, rfl, _, hcell⟩ := HIL.out.at hkl
                obtain ⟨g2, o2, rfl, _, hcell2⟩ := HIC.out.at hkl
                have e1 : l.getD k 0 = l[k]'(by have := HLL.out; omega) := getD_get _
                have e2 : (codes l).getD k 0 = (codes l)[k]'(by have := HIC.out.1; omega) := getD_get _
                generalize l[k]'(by have := HLL.out; omega) = x at *
                generalize (codes l)[k]'(by have := HIC.out.1; omega) = y at *
                have HE1 := Lib.hid e1
                have HE2 := Lib.hid e2
                clear e1 e2
                have hz0 : (0 : Int) ≤ (k : Int) := by omega
                have hz1 : (k : Int) < (LL : Int) := by omega
                by_cases hx : x = (m : Int)
                · have bx : (x == (m : Int)) = true := by simpa using hx
                  by_cases hy : y = (code : Int)
                  · have by' : (y == (code : Int)) = true := by simpa using hy
                    have hfound := find_hit (by have := HLL.out; omega) HNB.out ⟨HE1.out.trans hx, HE2.out.trans hy⟩
                    have hg := HG.out
                    rw [hfound] at hg
                    have HX := Lib.hid hg
                    clear hg hfound hx hy
                    go_wp2
                    go_ret2
                    exact gotRNext_of HNS.out HX.out rfl HR2.out hB3
                  · have by' : (y == (code : Int)) = false := by simpa using hy
                    have HNY := Lib.hid hy
                    clear hy hx
                    go_wp2
                    go_roundw
                    case rel =>
                      refine ⟨k + 1, by omega, by go_num, fun j hj => ?_, by trivial⟩
                      by_cases hjk : j = k
                      · subst hjk; exact fun h => HNY.out (HE2.out.symm.trans h.2)
                      · exact HNB.out j (by omega)
                    case measure => simp [intOf]; omega
                · have bx : (x == (m : Int)) = false := by simpa using hx
                  have HNX := Lib.hid hx
                  clear hx
                  go_wp2
                  go_roundw
                  case rel =>
                    refine ⟨k + 1, by omega, by go_num, fun j hj => ?_, by trivial⟩
                    by_cases hjk : j = k
                    · subst hjk; exact fun h => HNX.out (HE1.out.symm.trans h.1)
                    · exact HNB.out j (by omega)
                  case measure => simp [intOf]; omega
              · obtain rfl : k = LL := by omega
                have hg := HG.out
                rw [find_miss (by rw [HLL.out]; exact HNB.out)] at hg
                have HX := Lib.hid hg
                clear hg
                go_wp2
                go_roundw
                case rel => exact ⟨m, m + 1, code, p2, rfl, hlt, rfl, by go_num, HGO.out, by rw [HF2.out]; exact HX.out, HR2.out, hB3⟩
                case measure => simp [intOf]; omega
          · rw [if_pos hE] at hG
            have hgo : bitsGo s p1 1 = p1 := by unfold bitsGo; rw [if_neg hE]
            rw [hgo] at hbits
            have hEb : (bitsErr s p1 1 != 0) = true := by simpa using hE
            generalize bitsVal s p1 1 = v at *
            generalize bitsErr s p1 1 = E at *
            have HBITS := Lib.hid hbits
            have HG := Lib.hid hG
            clear hbits hG hgo
            go_wp2_with fail
            refine HBITS.out.mono ?_
            rintro e w2 ⟨rfl, hR2, hB2⟩
            have HR2 := Lib.hid hR2
            clear hR2
            go_wp2
            go_ret2
            exact gotRNext_of HNS.out HG.out rfl HR2.out (hB1.trans hB2)
        · have hnL : L - n = 0 := by omega
          rw [hnL, nextG_zero] at hG
          have HG := Lib.hid hG
          have HR1 := Lib.hid hR1
          clear hG hR1 hm hnL
          go_wp2
          go_ret2
          exact gotRNext_of HNS.out HG.out rfl HR1.out hB1
end Go.Proofs.YtobmghjpfkdooaaDoor
