/- Several texts in one: CodesW, RMake, ZlD, RNext, RfA, RfB (what Unwraps reach of them). -/
import Derived.Test.YtghegmbafbpnjaaGreatDoorPm01
import Derived.Test.YtghegmbafbpnjaaGreatDoorPm02
import Derived.Test.YtghegmbafbpnjaaGreatDoorPm03
import Derived.Test.YtghegmbafbpnjaaGreatDoorPm04
import Derived.Test.YtghegmbafbpnjaaGreatDoorPm05
import Derived.Test.YtghegmbafbpnjaaGreatDoorPm06
import Derived.Test.YtghegmbafbpnjaaGreatDoorPm07
import Derived.Test.YtghegmbafbpnjaaGreatDoorPm08
import Derived.Test.YtghegmbafbpnjaaGreatDoorPm09
import Derived.Test.YtghegmbafbpnjaaGreatDoorPm10
import Derived.Test.YtghegmbafbpnjaaGreatDoorPm11
import Derived.Test.YtghegmbafbpnjaaGreatDoorPm12
import Derived.Test.YtghegmbafbpnjaaGreatDoorPm13
import Derived.Test.YtghegmbafbpnjaaGreatDoorPm14
import Derived.Test.YtghegmbafbpnjaaGreatDoorPm15
import Derived.Test.YtghegmbafbpnjaaGreatDoorPm16
import Derived.Test.YtghegmbafbpnjaaGreatDoorPm17
import Derived.Test.YtghegmbafbpnjaaGreatDoorPm18
import Derived.Test.YtghegmbafbpnjaaGreatDoorPm20
import Derived.Test.YtghegmbafbpnjaaGreatDoorPm21
import Derived.Below
import Derived.BigQuiet
import Derived.BigRegion
import Derived.Deep.AppendLies
import Derived.Deep.CutRange
import Derived.Deep.DeepCutAuto
import Derived.Deep.Draws
import Derived.Deep.LoopGhost
import Derived.Deep.QuietTactic
import Derived.Deep.RegionLaw
import Derived.Deep.RegionWith
import Derived.Deep.Slices
import Derived.Handy
import Derived.Laws.BitsAllLaws
import Derived.Laws.BitsLemmas
import Derived.Laws.IdiomStrings
import Derived.Laws.OwnMore
import Derived.Laws.Rows
import Derived.Lib.AppendStr
import Derived.Lib.Hide
import Derived.Lib.Strings
import Derived.LoopIn
import Derived.LoopNIn
import Derived.OneCell
import Derived.OpenShut
import Derived.Outline
import Derived.OwnWalk
import Derived.OwnWalkIn
import Derived.ProofKit
import Derived.RangeFuncBound
import Derived.RangeFuncCalls
import Derived.RangeFuncLeaves
import Derived.RangeFuncNested
import Derived.RegionTactic
import Derived.Shelf.Abstract
import Derived.Shelf.RegionOpen
import Derived.Shelf.SlSortCmp.QuietGrown
import Derived.StillTailTactics
import Derived.TacticsInMore
import Derived.Test.YtghegmbafbpnjaaGreatDoorChecked
import Derived.WalkKit
import Derived.WalkLawsBesides
import Derived.WalkSpells
set_option maxRecDepth 100000
set_option linter.unusedVariables false
namespace Go.Proofs.YtghegmbafbpnjaaGreatDoor
set_option maxRecDepth 100000
open Go Go.RowKit
set_option maxHeartbeats 1000000 in
theorem ref_codes_err {w : World} {A : Option Addr} {len cap : Nat} {l : List Int} (hl : Ints w A len l) (hm : len ≤ maxLen) (hc : chk l ≠ 0) :
    Calls Tryz.prog 85 #[.slice A len cap] w fun e w' => e = .returned (.tuple #[.slice none 0 0, .int .i64 (chk l)]) ∧ w = w' := by
  have hck := ref_check (cap := cap) hl hm
  generalize chk l = x at *
  have HC := Lib.hid hck
  have hx : (x != 0) = true := by simpa using hc
  clear hck hm hc
  go_enter Tryz.func85, Tryz.ntmps85
  go_wp2_with fail
  refine HC.out.mono ?_
  rintro e w' ⟨rfl, rfl⟩
  go_wp2_with fail
  go_ret2
  exact ⟨rfl, rfl⟩
end Go.Proofs.YtghegmbafbpnjaaGreatDoor
namespace Go.Proofs.YtghegmbafbpnjaaGreatDoor
set_option maxRecDepth 100000
open Go Go.RowKit
set_option maxHeartbeats 1000000 in
theorem rmake_err {w : World} {A : Option Addr} {len cap : Nat} {l : List Int} (hl : Ints w A len l) (hm : len ≤ maxLen) (hc : chk l ≠ 0) :
    Calls Tryz.prog 51 #[.slice A len cap] w fun e w' => e = .returned (.tuple #[.pointer none, .int .i64 (chk l)]) ∧ w = w' := by
  have hck := ref_codes_err (cap := cap) hl hm hc
  generalize chk l = x at *
  have HC := Lib.hid hck
  have hx : (x != 0) = true := by simpa using hc
  clear hck hm hc
  go_enter Tryz.func51, Tryz.ntmps51
  go_wp2_with fail
  refine HC.out.mono ?_
  rintro e w' ⟨rfl, rfl⟩
  go_wp2_with fail
  go_ret2
  exact ⟨rfl, rfl⟩
end Go.Proofs.YtghegmbafbpnjaaGreatDoor
set_option maxRecDepth 100000
set_option linter.unusedVariables false
namespace Go.Proofs.YtghegmbafbpnjaaGreatDoor
set_option maxRecDepth 100000
open Go Go.RowKit
theorem ofL_snoc (l : List UInt8) (b : UInt8) : ofL (l ++ [b]) = 256 * ofL l + b.toNat := by
  unfold ofL; rw [List.foldl_append]; rfl
theorem ofL_small : ∀ (n : Nat) (l : List UInt8), l.length = n → n ≤ 7 → ofL l < 256 ^ n
  | 0, l, h, _ => by rw [List.length_eq_zero_iff.1 h]; decide
  | n + 1, l, h, h7 => by
    have hne : l ≠ [] := fun e => by rw [e] at h; simp at h
    rw [← List.dropLast_concat_getLast hne, ofL_snoc]
    have ih := ofL_small n l.dropLast (by rw [List.length_dropLast, h]; rfl) (by omega)
    have hb := (l.getLast hne).toNat_lt
    rw [Nat.pow_succ]
    omega
set_option maxHeartbeats 1000000 in
theorem eof_any (w : World) {s : ByteArray} (hs : s.size ≤ 7) :
    Calls Tryz.prog 19 #[.string s] w fun e w' => e = .returned (.int .i64 (ofL s.data.toList)) ∧ w = w' := by
  have hsm : ∀ k, k < s.size → ofL (s.data.toList.take k) < 281474976710656 := fun k hk => by
    have h := ofL_small k (s.data.toList.take k) (by rw [List.length_take, show s.data.toList.length = s.size by simp]; omega) (by omega)
    have h2 : 256 ^ k ≤ 256 ^ 6 := Nat.pow_le_pow_right (by decide) (by omega)
    omega
  have HSM := Lib.hid hsm
  clear hsm
  go_enter Tryz.func19, Tryz.ntmps19
  go_wp2
  go_loop [3, 4] (fun n i => ∃ k : Nat, k ≤ s.size ∧ i = .int .i64 k ∧ n = .int .i64 (ofL (s.data.toList.take k))) (fun _ i => s.size - (intOf i).toNat)
  case atStart => exact ⟨0, Nat.zero_le _, rfl, rfl⟩
  case round =>
    obtain ⟨k, hk, rfl, rfl⟩ := hrel
    by_cases hk2 : k < s.size
    · have hb := s[k].toNat_lt
      have hts := take_snoc s k hk2
      have h0 := HSM.out k hk2
      have HS : Hid (ofL (s.data.toList.take (k + 1)) = 256 * ofL (s.data.toList.take k) + s[k].toNat) := by rw [hts, ofL_snoc]; exact rfl
      obtain ⟨x, hx⟩ : ∃ x, x = ofL (s.data.toList.take k) := ⟨_, rfl⟩
      rw [← hx] at HS h0 ⊢
      clear hts hx
      go_wp2
      go_round
      case rel => exact ⟨k + 1, by omega, by go_num, by rw [HS.out]; go_num⟩
      case measure => simp [intOf]; omega
    · have e : s.data.toList.take k = s.data.toList := by rw [show k = s.size from by omega]; exact take_all s
      rw [e]
      clear e
      go_wp2
      go_ret
      exact ⟨rfl, rfl⟩
end Go.Proofs.YtghegmbafbpnjaaGreatDoor
namespace Go.Proofs.YtghegmbafbpnjaaGreatDoor
set_option maxRecDepth 100000
open Go Go.RowKit
theorem find_hit {l : List Int} {n c k : Nat} (hk : k < l.length) (hb : ∀ j < k, ¬ (l.getD j 0 = (n : Int) ∧ (codes l).getD j 0 = (c : Int)))
    (hf : l.getD k 0 = (n : Int) ∧ (codes l).getD k 0 = (c : Int)) : findS l n c = some k := by
  unfold findS
  have e : List.range l.length = List.range k ++ (k :: List.range' (k + 1) (l.length - (k + 1))) := by
    rw [List.range_eq_range', List.range_eq_range']
    have h1 := List.range'_append_1 (s := 0) (m := k) (n := l.length - k)
    rw [show k + (l.length - k) = l.length from by omega] at h1
    rw [← h1, Nat.zero_add, show l.length - k = (l.length - (k + 1)) + 1 from by omega, List.range'_succ]
  rw [e, List.find?_append, List.find?_eq_none.2 (fun x hx => by simpa using fun h => fun h2 => hb x (List.mem_range.1 hx) ⟨by simpa using h, by simpa using h2⟩), Option.none_or, List.find?_cons_of_pos]
  simp only [decide_eq_true_eq]
  exact hf
theorem find_miss {l : List Int} {n c : Nat} (hb : ∀ j < l.length, ¬ (l.getD j 0 = (n : Int) ∧ (codes l).getD j 0 = (c : Int))) : findS l n c = none := by
  unfold findS
  exact List.find?_eq_none.2 fun x hx => by
    have := hb x (List.mem_range.1 hx)
    simpa using fun h => fun h2 => this ⟨by simpa using h, by simpa using h2⟩
theorem longest_le (l : List Int) : longest l ≤ 15 := by
  unfold longest; split
  · omega
  · split <;> omega

attribute [local irreducible] ord was cntW inN gN findS nextG longest ordTo codes
def GotRNext (w : World) (b : Nat) (l : List Int) (s : ByteArray) (p : Nat) (e : Ending) (w' : World) : Prop :=
  ∃ q, nextS l s p = q ∧ e = .returned (.tuple #[.int .i64 (q.1 : Nat), .int .i64 q.2.1]) ∧ FS w' b s q.2.2 ∧ But [b] w w'
theorem gotRNext_of {w : World} {b : Nat} {l : List Int} {s : ByteArray} {p x pp : Nat} {err : Int} {q : Nat × Int × Nat} {e : Ending} {w' : World} (h : nextS l s p = q) (h2 : (x, err, pp) = q)
    (he : e = .returned (.tuple #[.int .i64 (x : Nat), .int .i64 err])) (hr : FS w' b s pp) (hB : But [b] w w') : GotRNext w b l s p e w' := by
  subst h2
  exact ⟨_, h, he, hr, hB⟩
/-- No symbol below k has this length and this code. -/
def NoneBelow (l : List Int) (n c k : Nat) : Prop := ∀ j < k, ¬ (l.getD j 0 = (n : Int) ∧ (codes l).getD j 0 = (c : Int))

set_option maxRecDepth 100000 in
set_option maxHeartbeats 1000000 in
theorem rnext_any {w : World} {bt b p : Nat} {l : List Int} {s : ByteArray} (hc : chk l = 0) (hR : FS w b s p) (hs : s.size ≤ 140737488355328) (hb : ∀ w', But [b] w w' → RT w' bt l) :
    Calls Tryz.prog 95 #[.pointer (some ⟨bt, 0, none⟩), .pointer (some ⟨b, 0, none⟩)] w (GotRNext w b l s p) := by
  obtain ⟨h288, hok, -, -⟩ := chk_zero hc
  obtain ⟨Al, cl, Ac, cc, hI, hIl, _⟩ := hb w (But.refl _ _)
  have k0 : w.cell? ⟨bt, 0, none⟩ = some (.slice Al l.length cl) := hI.cell 0
  have hsum := ref_sum (cap := cl) hIl h288 hok
  have hlong : longest l = if many l = 0 then 0 else if many l = 1 ∧ top l = 1 then 1 else 15 := by unfold longest; rfl
  have hl15 := longest_le l
  have hlen : l.length = l.length := rfl
  generalize ksum l = S at *
  have HSUM := Lib.hid hsum
  have HR := Lib.hid hR
  have HB := Lib.hid hb
  have HOK := Lib.hid hok
  have HSZ := Lib.hid hs
  clear hsum hR hb hI hIl hc hok hs hlen
  generalize hM : many l = M at *
  generalize hT : top l = T at *
  clear hM hT
  have hcase : (M = 0 ∧ ((M : Int) == 0) = true ∧ ((M : Int) == 1) = false ∧ longest l = 0) ∨ (M ≠ 0 ∧ ((M : Int) == 0) = false ∧ ((M : Int) == 1) = true ∧ (T == 1) = true ∧ longest l = 1)
      ∨ (M ≠ 0 ∧ ((M : Int) == 0) = false ∧ ((M : Int) == 1) = true ∧ (T == 1) = false ∧ longest l = 15) ∨ (M ≠ 0 ∧ ((M : Int) == 0) = false ∧ ((M : Int) == 1) = false ∧ longest l = 15) := by
    by_cases h0 : M = 0
    · left; exact ⟨h0, by simp [h0], by simp [h0], by rw [hlong, if_pos h0]⟩
    · by_cases h1 : M = 1
      · by_cases h2 : T = 1
        · right; left; exact ⟨h0, by simp [h0], by simp [h1], by simp [h2], by rw [hlong, if_neg h0, if_pos ⟨h1, h2⟩]⟩
        · right; right; left; exact ⟨h0, by simp [h0], by simp [h1], by simp [h2], by rw [hlong, if_neg h0, if_neg (by omega)]⟩
      · right; right; right; exact ⟨h0, by simp [h0], by simp; omega, by rw [hlong, if_neg h0, if_neg (by omega)]⟩
  clear hlong
  generalize hL : longest l = L at *
  have HL := Lib.hid hL
  clear hL
  go_enter Tryz.func95, Tryz.ntmps95
  rcases hcase with ⟨c1, c2, c3, c4⟩ | ⟨c1, c2, c3, c5, c4⟩ | ⟨c1, c2, c3, c5, c4⟩ | ⟨c1, c2, c3, c4⟩
  all_goals
    go_wp2_with fail
    refine HSUM.out.mono ?_
    rintro e w1 ⟨rfl, rfl⟩
    go_upto_region 7 with (fail)
    go_cut [9, 10] from 32 to 78 (fun v c wx => v = .int .i64 (L : Nat) ∧ c = .int .i64 0 ∧ w = wx)
    case first =>
      go_wp2
      go_meet
      exact ⟨by rw [c4]; rfl, rfl, rfl⟩
    case rest =>
      obtain ⟨rfl, rfl, rfl⟩ := hcut
      try clear c5
      clear c1 c2 c3 c4
      go_wp2
      go_loopw [10, 11] (fun cv nv wr => ∃ n m c p1 : Nat, m = n + 1 ∧ n ≤ L ∧ cv = .int .i64 c ∧ nv = .int .i64 m ∧ c < 2 ^ n ∧ nextG l s (L - n) m c p1 = nextS l s p ∧ FS wr b s p1 ∧ But [b] w wr) (fun _ nv _ => (17 - intOf nv).toNat)
      case atStart => exact ⟨0, 1, 0, p, rfl, Nat.zero_le _, rfl, rfl, by decide, by rw [← HL.out]; exact nextS_eq _ _ _, HR.out, But.refl _ _⟩
      case round =>
        obtain ⟨n, m, c, p1, hm, hn, rfl, rfl, hc2, hG, hR1, hB1⟩ := hrel
        generalize hNS : nextS l s p = q at *
        have HNS := Lib.hid hNS
        have HM := Lib.hid hm
        clear hNS
        by_cases hlt : m ≤ L
        · have hn14 : n ≤ 14 := by omega
          have hm15 : m ≤ 15 := by omega
          have hpow := Nat.pow_le_pow_right (n := 2) (by decide) hn14
          have hc14 : c < 16384 := by omega
          have hgo : ∀ v, v < 2 → 2 * c + v < 2 ^ m := fun v hv => by rw [hm, Nat.pow_succ]; omega
          obtain ⟨f, hf⟩ : ∃ f, L - n = f + 1 := ⟨L - n - 1, by omega⟩
          have hf2 : L - m = f := by omega
          rw [hf] at hG
          have hbits := hR1.bits HSZ.out 1
          have hv2 : bitsVal s p1 1 < 2 := by
            unfold bitsVal; split
            · exact bitsAt_lt _ _ 1
            · decide
          rw [nextG_succ] at hG
          have HF2 := Lib.hid hf2
          have HGO := Lib.hid (hgo _ hv2)
          clear hf hf2 hR1 hpow hm hc2 hgo
          by_cases hE : bitsErr s p1 1 = 0
          · rw [if_neg (by simpa using hE)] at hG
            rw [hE] at hbits
            generalize bitsVal s p1 1 = v at *
            generalize bitsGo s p1 1 = p2 at *
            have HBITS := Lib.hid hbits
            clear hbits hE
            obtain ⟨code, hcode⟩ : ∃ code, code = 2 * c + v := ⟨_, rfl⟩
            rw [← hcode] at hG HGO
            have ecode : 2 * (c : Int) + (v : Int) = (code : Int) := by omega
            have HG := Lib.hid hG
            have HE := Lib.hid ecode
            clear hG hcode
            generalize hLL : l.length = LL at *
            have HLL := Lib.hid hLL
            go_wp2_with fail
            refine HBITS.out.mono ?_
            rintro e w2 ⟨rfl, hR2, hB2⟩
            have hB3 := hB1.trans hB2
            obtain ⟨Al, cl, Ac, cc, hI, hIl, hIc⟩ := HB.out _ hB3
            rw [HLL.out] at hI hIl hIc
            have q0 : w2.cell? ⟨bt, 0, none⟩ = some (.slice Al LL cl) := hI.cell 0
            have q1 : w2.cell? ⟨bt, 1, none⟩ = some (.slice Ac LL cc) := hI.cell 1
            have HR2 := Lib.hid hR2
            have HIL := Lib.hid hIl
            have HIC := Lib.hid hIc
            clear hI hR2 hIl hIc hLL k0
            obtain ⟨wo, rfl⟩ : ∃ wo : World, wo = wr := ⟨_, rfl⟩
            go_wp2
            go_loopw [14] (fun iv wr => ∃ k : Nat, k ≤ LL ∧ iv = .int .i64 k ∧ NoneBelow l m code k ∧ w2 = wr) (fun iv _ => LL - (intOf iv).toNat)
            case atStart => exact ⟨0, Nat.zero_le _, rfl, fun j hj => absurd hj (Nat.not_lt_zero _), rfl⟩
            case round =>
              obtain ⟨k, hk, rfl, hnb, rfl⟩ := hrel
              have HNB := Lib.hid hnb
              clear hnb ecode
              by_cases hkl : k < LL
              · obtain ⟨g, o, rfl, _, hcell⟩ := HIL.out.at hkl
                obtain ⟨g2, o2, rfl, _, hcell2⟩ := HIC.out.at hkl
                have e1 : l.getD k 0 = l[k]'(by have := HLL.out; omega) := getD_get _
                have e2 : (codes l).getD k 0 = (codes l)[k]'(by have := HIC.out.1; omega) := getD_get _
                generalize l[k]'(by have := HLL.out; omega) = x at *
                generalize (codes l)[k]'(by have := HIC.out.1; omega) = y at *
                have HE1 := Lib.hid e1
                have HE2 := Lib.hid e2
                clear e1 e2
                have hz0 : (0 : Int) ≤ (k : Int) := by omega
                have hz1 : (k : Int) < (LL : Int) := by omega
                by_cases hx : x = (m : Int)
                · have bx : (x == (m : Int)) = true := by simpa using hx
                  by_cases hy : y = (code : Int)
                  · have by' : (y == (code : Int)) = true := by simpa using hy
                    have hfound := find_hit (by have := HLL.out; omega) HNB.out ⟨HE1.out.trans hx, HE2.out.trans hy⟩
                    have hg := HG.out
                    rw [hfound] at hg
                    have HX := Lib.hid hg
                    clear hg hfound hx hy
                    go_wp2
                    go_ret2
                    exact gotRNext_of HNS.out HX.out rfl HR2.out hB3
                  · have by' : (y == (code : Int)) = false := by simpa using hy
                    have HNY := Lib.hid hy
                    clear hy hx
                    go_wp2
                    go_roundw
                    case rel =>
                      refine ⟨k + 1, by omega, by go_num, fun j hj => ?_, by trivial⟩
                      by_cases hjk : j = k
                      · subst hjk; exact fun h => HNY.out (HE2.out.symm.trans h.2)
                      · exact HNB.out j (by omega)
                    case measure => simp [intOf]; omega
                · have bx : (x == (m : Int)) = false := by simpa using hx
                  have HNX := Lib.hid hx
                  clear hx
                  go_wp2
                  go_roundw
                  case rel =>
                    refine ⟨k + 1, by omega, by go_num, fun j hj => ?_, by trivial⟩
                    by_cases hjk : j = k
                    · subst hjk; exact fun h => HNX.out (HE1.out.symm.trans h.1)
                    · exact HNB.out j (by omega)
                  case measure => simp [intOf]; omega
              · obtain rfl : k = LL := by omega
                have hg := HG.out
                rw [find_miss (by rw [HLL.out]; exact HNB.out)] at hg
                have HX := Lib.hid hg
                clear hg
                go_wp2
                go_roundw
                case rel => exact ⟨m, m + 1, code, p2, rfl, hlt, rfl, by go_num, HGO.out, by rw [HF2.out]; exact HX.out, HR2.out, hB3⟩
                case measure => simp [intOf]; omega
          · rw [if_pos hE] at hG
            have hgo : bitsGo s p1 1 = p1 := by unfold bitsGo; rw [if_neg hE]
            rw [hgo] at hbits
            have hEb : (bitsErr s p1 1 != 0) = true := by simpa using hE
            generalize bitsVal s p1 1 = v at *
            generalize bitsErr s p1 1 = E at *
            have HBITS := Lib.hid hbits
            have HG := Lib.hid hG
            clear hbits hG hgo
            go_wp2_with fail
            refine HBITS.out.mono ?_
            rintro e w2 ⟨rfl, hR2, hB2⟩
            have HR2 := Lib.hid hR2
            clear hR2
            go_wp2
            go_ret2
            exact gotRNext_of HNS.out HG.out rfl HR2.out (hB1.trans hB2)
        · have hnL : L - n = 0 := by omega
          rw [hnL, nextG_zero] at hG
          have HG := Lib.hid hG
          have HR1 := Lib.hid hR1
          clear hG hR1 hm hnL
          go_wp2
          go_ret2
          exact gotRNext_of HNS.out HG.out rfl HR1.out hB1
end Go.Proofs.YtghegmbafbpnjaaGreatDoor
namespace Go.Proofs.YtghegmbafbpnjaaGreatDoor
set_option maxRecDepth 100000
open Go Go.RowKit
def run {α : Type} (er : Int) (m : Rd α) (s : ByteArray) (p : Nat) : Except Int (α × Nat) := if er ≠ 0 then .error er else m s p
section
variable {α β : Type} {er er1 e : Int} {m : Rd α} {s : ByteArray} {p q : Nat} {a : α}
theorem run_off (h : er ≠ 0) : run er m s p = .error er := if_pos h
theorem run_on : run 0 m s p = m s p := if_neg (by simp)
theorem run_bind {f : α → Rd β} (h : run er m s p = run er1 (rPure a) s q) : run er (rBind m f) s p = run er1 (f a) s q := by
  by_cases h0 : er = 0
  · subst h0
    rw [run_on] at h ⊢
    by_cases h1 : er1 = 0
    · subst h1
      rw [run_on] at h ⊢
      exact bind_val h
    · rw [run_off h1] at h ⊢
      exact bind_err h
  · rw [run_off h0] at h ⊢
    by_cases h1 : er1 = 0
    · subst h1
      rw [run_on] at h
      cases h
    · rw [run_off h1] at h ⊢
      injection h with h
      rw [h]
end
section
variable {w w' w1 : World} {b rb : Nat} {og : Option Nat} {s : ByteArray} {p q : Nat} {M er : Int} {L : List UInt8}
theorem SR.at (h : SR w b rb og s p M L er) : ∃ A c, Is w b 56 #[.pointer (some ⟨rb, 0, none⟩), .slice A L.length c, .int .i64 M, .int .i64 er] ∧ w.ownsRow (b + 1) 5 1 (.slice A L.length c) L.length (cellsOf L) ∧ (Value.slice A L.length c).ownBlock = og := by
  obtain ⟨ov, h1, h2, h3⟩ := h.cells
  rcases h2.2 with ⟨rfl, e⟩ | ⟨g, cap, cur, rfl, _⟩
  · have : L = [] := by cases L with
      | nil => rfl
      | cons x l => simp at e
    subst this
    exact ⟨none, 0, h1, h2, h3⟩
  · exact ⟨_, _, h1, h2, h3⟩
theorem SR.in0 (h : SR w b rb og s p M L er) : w.cell? ⟨b, 0, none⟩ = some (.pointer (some ⟨rb, 0, none⟩)) := by
  obtain ⟨ov, h1, _⟩ := h.cells; exact h1.cell 0
theorem SR.in2 (h : SR w b rb og s p M L er) : w.cell? ⟨b, 2, none⟩ = some (.int .i64 M) := by
  obtain ⟨ov, h1, _⟩ := h.cells; exact h1.cell 2
theorem SR.in3 (h : SR w b rb og s p M L er) : w.cell? ⟨b, 3, none⟩ = some (.int .i64 er) := by
  obtain ⟨ov, h1, _⟩ := h.cells; exact h1.cell 3
theorem SR.free (h : SR w b rb og s p M L er) (i : Nat) : w.frozen? ⟨b, i, none⟩ = false := by
  obtain ⟨ov, h1, _⟩ := h.cells; exact h1.free i
/-- The stream when its reader alone has moved. -/
theorem SR.read {S : List Nat} (h : SR w b rb og s p M L er) (hR : FS w' rb s q) (hB : But S w w') (hS : ∀ k ∈ S, k = rb ∨ w.heap.size ≤ k) : SR w' b rb og s q M L er := by
  have hlt := h.lt
  have hout := h.out
  have hr := h.hr
  have hb : b ∉ S := fun hk => by rcases hS b hk with e | e <;> omega
  obtain ⟨ov, h1, h2, h3⟩ := h.cells
  refine ⟨hR, h.hr, h.hs, h.hM, h.hL, ov, h1.but hB hb, ownsRow_but h2 hB fun g hg hk => ?_, h3⟩
  have := hout g (h3 ▸ hg)
  rcases hS g hk with e | e <;> omega
theorem SR.alloc (h : SR w b rb og s p M L er) (o : Obj) : SR (w.alloc o) b rb og s p M L er := h.but ((But.refl [] w).alloc o) (by simp)
theorem SR.drewN (h : SR w b rb og s p M L er) (n : Nat) : SR (w.drewN n) b rb og s p M L er := h.but ((But.refl [] w).drewN n) (by simp)
theorem SR.drew (h : SR w b rb og s p M L er) : SR w.drew b rb og s p M L er := h.but ((But.refl [] w).drew) (by simp)
theorem out_neR {A : Option Addr} {k c : Nat} {xs : List Value} (h : w.ownsRow (b + 1) 5 1 (.slice A k c) k xs) : (Value.slice A k c).ownBlock ≠ some b := fun e => by
  have := (h.lt b e).1; omega
/-- The stream when something was met. -/
theorem SR.met (h : SR w b rb og s p M L er) (x : Int) : SR (w.setCell ⟨b, 3, none⟩ (.int .i64 x)) b rb og s p M L x ∧ Mv b rb w (w.setCell ⟨b, 3, none⟩ (.int .i64 x)) og og := by
  have hr := h.hr
  have hlt := h.lt
  obtain ⟨A, c, h1, h2, h3⟩ := h.at
  have hB : But [b] w (w.setCell ⟨b, 3, none⟩ (.int .i64 x)) := (But.refl [b] w).setCell (.inl (by simp)) _
  refine ⟨⟨h.rs.but hB (by simp; omega), h.hr, h.hs, h.hM, h.hL, _, ?_, ?_, h3⟩, ⟨hB.more (by simp [Foot]), fun g e => .inl e⟩⟩
  · simpa using h1.put 3 (.int .i64 x)
  · exact ownsRow_setCell_other h2 (a := ⟨b, 3, none⟩) (out_neR h2) _
/-- What a step of the reader leaves. -/
theorem SR.step {S : List Nat} (h : SR w b rb og s p M L er) (hR : FS w1 rb s q) (hB : But S w w1) (hS : ∀ k ∈ S, k = rb ∨ w.heap.size ≤ k) (x : Int) :
    SR (w1.setCell ⟨b, 3, none⟩ (.int .i64 x)) b rb og s q M L x ∧ Mv b rb w (w1.setCell ⟨b, 3, none⟩ (.int .i64 x)) og og ∧ w1.cell? ⟨b, 3, none⟩ = some (.int .i64 er) ∧ w1.frozen? ⟨b, 3, none⟩ = false := by
  have h1 := h.read hR hB hS
  have h2 := h1.met x
  refine ⟨h2.1, (Mv.of hB fun k hk => ?_).trans h2.2, h1.in3, h1.free 3⟩
  rcases hS k hk with e | e
  · left; simp [Foot, e]
  · right; exact e

/-- A step told a number. -/
def GotRN (w : World) (b rb : Nat) (og : Option Nat) (s : ByteArray) (p : Nat) (M : Int) (L : List UInt8) (er : Int) (m : Rd Nat) (P : Nat → Int → Nat → Prop) (e : Ending) (w' : World) : Prop :=
  ∃ (v : Nat) (er' : Int) (q : Nat), e = .returned (.int .i64 v) ∧ SR w' b rb og s q M L er' ∧ Mv b rb w w' og og ∧ run er m s p = run er' (rPure v) s q ∧ P v er' q
theorem bitsGo_le (s : ByteArray) (p : Nat) (n : Int) : p ≤ bitsGo s p n := by unfold bitsGo; split <;> omega
set_option maxHeartbeats 1000000 in
theorem SR.bits (h : SR w b rb og s p M L er) (n : Nat) :
    Calls Tryz.prog 31 #[.pointer (some ⟨b, 0, none⟩), .int .i64 n] w (GotRN w b rb og s p M L er (rBits n) fun v er' q => v < 2 ^ n ∧ p ≤ q ∧ (er' = 0 → er = 0)) := by
  have h0 := h.in0
  have h3 := h.in3
  by_cases her : er = 0
  · subst her
    have hb := h.rs.bits (by have := h.hs; omega) (n : Int)
    have hst := fun w1 (hR : FS w1 rb s (bitsGo s p n)) (hB : But [rb] w w1) => h.step hR hB (fun k hk => .inl (by simpa using hk)) (bitsErr s p n)
    have hv := bitsVal_lt s p n
    have hg := bitsGo_le s p n
    have hrun : run 0 (rBits n) s p = run (bitsErr s p n) (rPure (bitsVal s p n)) s (bitsGo s p n) := by
      rw [run_on]
      by_cases he : bitsErr s p n = 0
      · rw [rBits_val he, he]; rfl
      · rw [rBits_err he, run_off he]
    generalize bitsErr s p (n : Int) = E at *
    generalize bitsVal s p (n : Int) = V at *
    generalize bitsGo s p (n : Int) = G at *
    have HB := Lib.hid hb
    have HST := Lib.hid hst
    have HV := Lib.hid hv
    have HRUN := Lib.hid hrun
    have HG := Lib.hid hg
    clear hb hst hv hrun h hg
    go_enter Tryz.func31, Tryz.ntmps31
    go_wp2_with fail
    refine HB.out.mono ?_
    rintro e w1 ⟨rfl, hR, hB⟩
    obtain ⟨s1, s2, s3, s4⟩ := HST.out w1 hR hB
    have S1 := Lib.hid s1
    have S2 := Lib.hid s2
    clear hR hB s1 s2
    go_wp2
    go_ret
    exact ⟨V, E, G, rfl, S1.out, S2.out, HRUN.out, HV.out, HG.out, fun _ => by trivial⟩
  · have d : (er != 0) = true := by simpa using her
    have H := Lib.hid h
    have HER := Lib.hid her
    clear h her
    go_enter Tryz.func31, Tryz.ntmps31
    go_wp2
    go_ret
    exact ⟨0, er, p, rfl, H.out, Mv.refl _ _ _ _, by rw [run_off HER.out, run_off HER.out], Nat.two_pow_pos n, Nat.le_refl _, fun e => e⟩
/-- A step told bytes. -/
def GotRB (w : World) (b rb : Nat) (og : Option Nat) (s : ByteArray) (p : Nat) (M : Int) (L : List UInt8) (er : Int) (m : Rd ByteArray) (e : Ending) (w' : World) : Prop :=
  ∃ (v : ByteArray) (er' : Int) (q : Nat), e = .returned (.string v) ∧ SR w' b rb og s q M L er' ∧ Mv b rb w w' og og ∧ run er m s p = run er' (rPure v) s q ∧ (er' = 0 → er = 0)
set_option maxHeartbeats 1000000 in
theorem SR.bytes (h : SR w b rb og s p M L er) (n : Nat) (hn : n ≤ 1000000) :
    Calls Tryz.prog 65 #[.pointer (some ⟨b, 0, none⟩), .int .i64 n] w (GotRB w b rb og s p M L er (rBytes n)) := by
  have h0 := h.in0
  have h3 := h.in3
  by_cases her : er = 0
  · subst her
    have hb := h.rs.bytes (by have := h.hs; omega) (n : Int) (by omega)
    have hst := fun w1 (hR : FS w1 rb s (bytesGo s p n)) (hB : But [rb] w w1) => h.step hR hB (fun k hk => .inl (by simpa using hk)) (bytesErr s p n)
    have hrun : run 0 (rBytes n) s p = run (bytesErr s p n) (rPure (bytesVal s p n)) s (bytesGo s p n) := by
      rw [run_on]
      by_cases he : bytesErr s p n = 0
      · rw [rBytes_val he, he]; rfl
      · rw [rBytes_err he, run_off he]
    generalize bytesErr s p (n : Int) = E at *
    generalize bytesVal s p (n : Int) = V at *
    generalize bytesGo s p (n : Int) = G at *
    have HB := Lib.hid hb
    have HST := Lib.hid hst
    have HRUN := Lib.hid hrun
    clear hb hst hrun h
    go_enter Tryz.func65, Tryz.ntmps65
    go_wp2_with fail
    refine HB.out.mono ?_
    rintro e w1 ⟨rfl, hR, hB⟩
    obtain ⟨s1, s2, s3, s4⟩ := HST.out w1 hR hB
    have S1 := Lib.hid s1
    have S2 := Lib.hid s2
    clear hR hB s1 s2
    go_wp2
    go_ret
    exact ⟨V, E, G, rfl, S1.out, S2.out, HRUN.out, fun _ => by trivial⟩
  · have d : (er != 0) = true := by simpa using her
    have H := Lib.hid h
    have HER := Lib.hid her
    clear h her
    go_enter Tryz.func65, Tryz.ntmps65
    go_wp2
    go_ret
    exact ⟨⟨#[]⟩, er, p, rfl, H.out, Mv.refl _ _ _ _, by rw [run_off HER.out, run_off HER.out], fun e => e⟩
/-- A pointer to the table of lengths. -/
def HasRT (b rb : Nat) (og : Option Nat) (w : World) (x : Option Addr) (l : List Int) : Prop := chk l = 0 ∧ ∃ bt, x = some ⟨bt, 0, none⟩ ∧ Keep (Foot b rb og) w fun w' => RT w' bt l
theorem HasRT.mv {og1 : Option Nat} {x : Option Addr} {l : List Int} (h : HasRT b rb og w x l) (hM : Mv b rb w w1 og og1) : HasRT b rb og1 w1 x l := by
  obtain ⟨h1, bt, rfl, h2⟩ := h
  exact ⟨h1, bt, rfl, hM.keep h2⟩
set_option maxHeartbeats 1000000 in
theorem SR.next {x : Option Addr} {l : List Int} (h : SR w b rb og s p M L er) (hT : er = 0 → HasRT b rb og w x l) :
    Calls Tryz.prog 67 #[.pointer (some ⟨b, 0, none⟩), .pointer x] w (GotRN w b rb og s p M L er (rNext l) fun _ er' q => er' = 0 → er = 0 ∧ p < q) := by
  have h0 := h.in0
  have h3 := h.in3
  by_cases her : er = 0
  · subst her
    obtain ⟨hc, bt, rfl, hK⟩ := hT rfl
    have hb := rnext_any (bt := bt) hc h.rs (by have := h.hs; omega) (fun w' hw => hK w' (hw.more (by simp [Foot])))
    have hst := fun (q : Nat) (x : Int) w1 (hR : FS w1 rb s q) (hB : But [rb] w w1) => h.step hR hB (fun k hk => .inl (by simpa using hk)) x
    have hp := h.rs.1
    have HB := Lib.hid hb
    have HST := Lib.hid hst
    have HP := Lib.hid hp
    clear hb hst h hK hT hp
    go_enter Tryz.func67, Tryz.ntmps67
    go_wp2_with fail
    refine HB.out.mono ?_
    rintro e w1 ⟨⟨V, E, G⟩, hq, rfl, hR, hB⟩
    obtain ⟨s1, s2, s3, s4⟩ := HST.out G E w1 hR hB
    have S1 := Lib.hid s1
    have S2 := Lib.hid s2
    have HQ := Lib.hid hq
    clear hR hB s1 s2 hq
    go_wp2
    go_ret
    refine ⟨V, E, G, rfl, S1.out, S2.out, ?_, fun e => ⟨by trivial, ?_⟩⟩
    · rw [run_on]
      by_cases he : E = 0
      · subst he
        rw [rNext_val HQ.out]; rfl
      · rw [rNext_err HQ.out he, run_off he]
    · subst e
      exact (rNext_adv' l HP.out (rNext_val HQ.out)).1
  · have d : (er != 0) = true := by simpa using her
    have H := Lib.hid h
    have HER := Lib.hid her
    clear h her hT
    go_enter Tryz.func67, Tryz.ntmps67
    go_wp2
    go_ret
    exact ⟨0, er, p, rfl, H.out, Mv.refl _ _ _ _, by rw [run_off HER.out, run_off HER.out], fun e => absurd e HER.out⟩
/-- A table was asked for. -/
def GotRP (w : World) (b rb : Nat) (og : Option Nat) (s : ByteArray) (p : Nat) (M : Int) (L : List UInt8) (er : Int) (l : List Int) (e : Ending) (w' : World) : Prop :=
  ∃ (x : Option Addr) (er' : Int), e = .returned (.pointer x) ∧ SR w' b rb og s p M L er' ∧ Mv b rb w w' og og ∧ (∀ (α : Type) (m : Rd α), run er (rWhen (chk l ≠ 0) (chk l) m) s p = run er' m s p) ∧ (er' = 0 → er = 0 ∧ HasRT b rb og w' x l)
set_option maxHeartbeats 1000000 in
theorem SR.table {A : Option Addr} {n c : Nat} {l : List Int} (h : SR w b rb og s p M L er) (hl : er = 0 → Ints w A n l ∧ n * 8 ≤ 140737488351232 ∧ (A = none → c = 0)) :
    Calls Tryz.prog 66 #[.pointer (some ⟨b, 0, none⟩), .slice A n c] w (GotRP w b rb og s p M L er l) := by
  have h0 := h.in0
  have h3 := h.in3
  by_cases her : er = 0
  · subst her
    obtain ⟨hI, h8, hnil⟩ := hl rfl
    have hst := fun (x : Int) w1 (hB : But [] w w1) => h.step (h.rs.but hB (by simp)) hB (by simp) x
    have hfoot := h.foot
    by_cases hc : chk l = 0
    · have hb := rmake_new (cap := c) hI h8 hnil hc
      have HB := Lib.hid hb
      have HST := Lib.hid hst
      have HF := Lib.hid hfoot
      have HC := Lib.hid hc
      clear hb hst h hI hnil hl hc hfoot
      go_enter Tryz.func66, Tryz.ntmps66
      go_wp2_with fail
      refine HB.out.mono ?_
      rintro e w1 ⟨bt, rfl, hN, hB⟩
      obtain ⟨s1, s2, s3, s4⟩ := HST.out 0 w1 hB
      have hK : Keep (Foot b rb og) (w1.setCell ⟨b, 3, none⟩ (.int .i64 0)) fun w' => RT w' bt l := fun w' hw =>
        ((hN.but ((But.refl [b] w1).setCell (.inl (by simp)) _) (fun k hk => HF.out k (by obtain rfl : k = b := by simpa using hk
                                                                                          simp [Foot]))).but hw HF.out).rt
      have S1 := Lib.hid s1
      have S2 := Lib.hid s2
      have HK := Lib.hid hK
      clear hB s1 s2 hN hK
      go_wp2
      go_ret
      exact ⟨_, 0, rfl, S1.out, S2.out, fun α m => by rw [run_on, run_on, when_not (by simpa using HC.out)], fun _ => ⟨rfl, HC.out, bt, rfl, HK.out⟩⟩
    · have hb := rmake_err (cap := c) hI (by unfold maxLen; omega) hc
      have hst := hst (chk l) w (But.refl _ _)
      have HB := Lib.hid hb
      have HST := Lib.hid hst
      have HC := Lib.hid hc
      clear hb hst h hI hnil hl hc hfoot
      generalize hE : chk l = E at *
      have HE := Lib.hid hE
      clear hE
      go_enter Tryz.func66, Tryz.ntmps66
      go_wp2_with fail
      refine HB.out.mono ?_
      rintro e w1 ⟨rfl, rfl⟩
      obtain ⟨s1, s2, s3, s4⟩ := HST.out
      have S1 := Lib.hid s1
      have S2 := Lib.hid s2
      clear s1 s2
      go_wp2
      go_ret
      exact ⟨none, E, rfl, S1.out, S2.out, fun α m => by rw [run_on, HE.out, when_yes HC.out, run_off HC.out], fun e => absurd e HC.out⟩
  · have d : (er != 0) = true := by simpa using her
    have H := Lib.hid h
    have HER := Lib.hid her
    clear h her hl
    go_enter Tryz.func66, Tryz.ntmps66
    go_wp2
    go_ret
    exact ⟨none, er, rfl, H.out, Mv.refl _ _ _ _, fun α m => by rw [run_off HER.out, run_off HER.out], fun e => absurd e HER.out⟩
end
end Go.Proofs.YtghegmbafbpnjaaGreatDoor
namespace Go.Proofs.YtghegmbafbpnjaaGreatDoor
set_option maxRecDepth 100000
open Go Go.RowKit
theorem wordOf_at {a : ByteArray} (h : a.size = 2) : wordOf a = (a[0]'(by omega)).toNat + 256 * (a[1]'(by omega)).toNat := by
  unfold wordOf
  have hz : a.data.toList.length = a.size := Array.length_toList
  rw [List.getD_eq_getElem?_getD, List.getD_eq_getElem?_getD, List.getElem?_eq_getElem (show 0 < a.data.toList.length by omega), List.getElem?_eq_getElem (show 1 < a.data.toList.length by omega), byte_at a 0 (by omega), byte_at a 1 (by omega)]
  simp only [Option.getD_some]
theorem wordOf_lt (a : ByteArray) : wordOf a < 65536 := by
  unfold wordOf
  have h1 := (a.data.toList.getD 0 0).toNat_lt
  have h2 := (a.data.toList.getD 1 0).toNat_lt
  omega
theorem parts_nat {x y n : Nat} (hx : x < 256) (hy : y < 256) (hn : n = x + 256 * y) : ∃ z : Nat, wrap64 (256 * (y : Int)) = (z : Int) ∧ wrap64 ((x : Int) + (z : Int)) = (n : Int) := by
  obtain ⟨z, hz⟩ : ∃ z : Nat, z = 256 * y := ⟨_, rfl⟩
  rw [← hz] at hn
  have e : (z : Int) = 256 * (y : Int) := by omega
  refine ⟨z, ?_, ?_⟩
  · rw [← e]; exact IntWalk.wrap64_in _ ⟨by omega, by omega⟩
  · exact (IntWalk.wrap64_in _ ⟨by omega, by omega⟩).trans (by omega)
theorem word_parts (a : ByteArray) (ha : a.size = 2) : ∃ z0 z1 zz n : Nat, wordOf a = n ∧ n < 65536 ∧ wrap64 (((a[0]'(by omega)).toNat : Nat) : Int) = (z0 : Int) ∧ wrap64 (((a[1]'(by omega)).toNat : Nat) : Int) = (z1 : Int) ∧
    wrap64 (256 * (z1 : Int)) = (zz : Int) ∧ wrap64 ((z0 : Int) + (zz : Int)) = (n : Int) := by
  have h := wordOf_at ha
  have hlt := wordOf_lt a
  have x0 := (a[0]'(by omega)).toNat_lt
  have x1 := (a[1]'(by omega)).toNat_lt
  obtain ⟨z, h1, h2⟩ := parts_nat x0 x1 h
  exact ⟨(a[0]'(by omega)).toNat, (a[1]'(by omega)).toNat, z, wordOf a, rfl, hlt, IntWalk.wrap64_in _ ⟨by omega, by omega⟩, IntWalk.wrap64_in _ ⟨by omega, by omega⟩, h1, h2⟩
theorem ne_word {m n : Nat} (hn : n < 65536) (h : m ≠ 65535 - n) : ((m : Int) != 65535 - (n : Int)) = true := by simp; omega
theorem eq_word {m n : Nat} (hn : n < 65536) (h : ¬ m ≠ 65535 - n) : ((m : Int) != 65535 - (n : Int)) = false := by simp; omega
attribute [local irreducible] wordOf
section
variable {w w' w1 : World} {b rb : Nat} {og : Option Nat} {s : ByteArray} {p q : Nat} {M er : Int} {L : List UInt8}
/-- The stream when its bytes have grown. -/
theorem SR.put (h : SR w b rb og s p M L er) {A A2 : Option Addr} {c k c2 : Nat} {w1 w2 : World} {L2 : List UInt8} (hB1 : But [] w w1)
    (hi : Is w b 56 #[.pointer (some ⟨rb, 0, none⟩), .slice A L.length c, .int .i64 M, .int .i64 er]) (hog : (Value.slice A L.length c).ownBlock = og)
    (hg : w1.grownBy w2 (Value.slice A L.length c).ownBlock) (ho : w2.ownsRow (b + 1) 5 1 (.slice A2 k c2) k (cellsOf L2)) (hk : L2.length = k)
    (hat : ∀ g, (Value.slice A2 k c2).ownBlock = some g → (Value.slice A L.length c).ownBlock = some g ∨ w.heap.size ≤ g) (hL2 : (L2.length : Int) ≤ max M 0) :
    SR (w2.setCell ⟨b, 1, none⟩ (.slice A2 k c2)) b rb (Value.slice A2 k c2).ownBlock s p M L2 er ∧ Mv b rb w (w2.setCell ⟨b, 1, none⟩ (.slice A2 k c2)) og (Value.slice A2 k c2).ownBlock := by
  have hout := h.out
  have hlt := h.lt
  have hr := h.hr
  subst hk
  have hB2 : But (b :: rb :: og.toList) w w2 := (hB1.more (by simp)).grown hg (fun g e => .inl (by rw [hog] at e; simp [e]))
  have hB3 : But og.toList w w2 := (hB1.more (by simp)).grown hg (fun g e => .inl (by rw [hog] at e; simp [e]))
  have hfar : ∀ x, x ≤ b → x ∉ og.toList := fun x hx hm => by
    have := (hout x (by simpa using hm)).1; omega
  have hB4 : But (b :: rb :: og.toList) w (w2.setCell ⟨b, 1, none⟩ (.slice A2 L2.length c2)) := hB2.setCell (.inl (by simp)) _
  have hB5 : But (b :: og.toList) w (w2.setCell ⟨b, 1, none⟩ (.slice A2 L2.length c2)) := (hB3.more (fun k hk => List.mem_cons_of_mem _ hk)).setCell (.inl (by simp)) _
  have hnb : ∀ x, x < b → x ∉ b :: og.toList := fun x hx hm => by
    rcases List.mem_cons.1 hm with e | e
    · omega
    · exact hfar x (by omega) e
  refine ⟨⟨h.rs.but hB5 (hnb rb hr), hr, h.hs, h.hM, hL2, _, ?_, ?_, rfl⟩, ⟨hB4, fun g e => ?_⟩⟩
  · simpa using (hi.but hB3 (hfar b (Nat.le_refl _))).put 1 (.slice A2 L2.length c2)
  · exact ownsRow_setCell_other ho (a := ⟨b, 1, none⟩) (out_neR ho) _
  · rcases hat g e with h1 | h1
    · exact .inl (hog ▸ h1)
    · exact .inr h1
/-- A method that tells nothing: what stands behind it. -/
def GotRU (w : World) (b rb : Nat) (og : Option Nat) (s : ByteArray) (p : Nat) (M : Int) (er : Int) (m : Rd (List UInt8)) (e : Ending) (w' : World) : Prop :=
  ∃ (er' : Int) (L' : List UInt8) (q : Nat) (og' : Option Nat), e = .returned (.tuple #[]) ∧ SR w' b rb og' s q M L' er' ∧ Mv b rb w w' og og' ∧ run er m s p = run er' (rPure L') s q
set_option maxHeartbeats 1000000 in
theorem rstored_any (h : SR w b rb og s p M L er) :
    Calls Tryz.prog 32 #[.pointer (some ⟨b, 0, none⟩)] w (GotRU w b rb og s p M er (storedR M L)) := by
  obtain ⟨R, hR⟩ : ∃ R, R = run er (storedR M L) s p := ⟨_, rfl⟩
  have hb := h.bytes 2 (by omega)
  have HR := Lib.hid hR
  have HB := Lib.hid hb
  clear hR hb h
  go_enter Tryz.func32, Tryz.ntmps32
  go_wp2_with fail
  refine HB.out.mono ?_
  rintro e w1 ⟨a, er1, q1, rfl, hS1, hM1, hr1, hz1⟩
  have hb := hS1.bytes 2 (by omega)
  have HB := Lib.hid hb
  have HM1 := Lib.hid hM1
  have HR1 := Lib.hid hr1
  have HZ1 := Lib.hid hz1
  clear hM1 hr1 hz1 hS1 hb
  go_wp2_with fail
  refine HB.out.mono ?_
  rintro e w2 ⟨c, er2, q2, rfl, hS2, hM2, hr2, hz2⟩
  have hk : R = run er2 (rWhen (wordOf c ≠ 65535 - wordOf a) 14 (rBind (rBytes (wordOf a)) fun x => rWhen (M < (L.length : Int) + (wordOf a : Nat)) 5 (rPure (L ++ x.data.toList)))) s q2 := by
    rw [HR.out]; exact (run_bind HR1.out).trans (run_bind hr2)
  have HM2 := Lib.hid (HM1.out.trans hM2)
  have HK := Lib.hid hk
  have h3 := hS2.in3
  by_cases her2 : er2 = 0
  · subst her2
    have her1 := hz2 rfl
    subst her1
    have her := HZ1.out rfl
    subst her
    have ha : a.size = 2 := by
      have h := HR1.out
      rw [run_on, run_on] at h
      have := bytes_len h
      rw [← this]; exact Array.length_toList.symm
    have hc : c.size = 2 := by
      rw [run_on, run_on] at hr2
      have := bytes_len hr2
      rw [← this]; exact Array.length_toList.symm
    obtain ⟨z0, z1, zz, n, hn, hna, f0, f1, f2, f3⟩ := word_parts a ha
    obtain ⟨v0, v1, vv, m, hm, hnc, g0, g1, g2, g3⟩ := word_parts c hc
    have HN := Lib.hid hn
    have HMM := Lib.hid hm
    have hk2 : R = run 0 (rWhen (m ≠ 65535 - n) 14 (rBind (rBytes n) fun x => rWhen (M < (L.length : Int) + (n : Nat)) 5 (rPure (L ++ x.data.toList)))) s q2 := by
      subst hn hm
      exact hk
    have HK := Lib.hid hk2
    clear hk2 hn hm hr2 hz2 hk hM2
    have e1 : wrap64 (65535 - (n : Int)) = 65535 - (n : Int) := IntWalk.wrap64_in _ ⟨by omega, by omega⟩
    by_cases hne : m ≠ 65535 - n
    · have d := ne_word hna hne
      have hk3 : R = .error 14 := by rw [HK.out, run_on, when_yes hne]
      have HK3 := Lib.hid hk3
      have HS2 := Lib.hid hS2
      have fr := hS2.free 3
      clear hne hk3 hS2 HR1 HZ1 HN HMM HK HB
      go_wp2
      go_quiet (fail)
      go_wp2
      go_quiet (fail)
      go_wp2
      go_returns
      exact ⟨14, L, q2, og, rfl, ((HS2.out.drewN _).met 14).1, (HM2.out.trans (Mv.drewN _)).trans ((HS2.out.drewN _).met 14).2, by rw [← HR.out, HK3.out]; rfl⟩
    · have d := eq_word hna hne
      have hk3 : R = run 0 (rBind (rBytes n) fun x => rWhen (M < (L.length : Int) + (n : Nat)) 5 (rPure (L ++ x.data.toList))) s q2 := by rw [HK.out, run_on, run_on, when_not hne]
      have HK3 := Lib.hid hk3
      have HS2 := Lib.hid hS2
      clear hne hk3 hS2 HR1 HZ1 HN HMM HK HB
      go_wp2
      go_quiet (fail)
      go_wp2
      go_quiet (fail)
      go_wp2_with fail
      refine ((HS2.out.drewN _).bytes n (by omega)).mono ?_
      rintro e w3 ⟨x, er3, q3, rfl, hS3, hM3, hr3, hz3⟩
      have hk4 : R = run er3 (rWhen (M < (L.length : Int) + (n : Nat)) 5 (rPure (L ++ x.data.toList))) s q3 := by
        rw [HK3.out]; exact run_bind hr3
      have HM3 := Lib.hid ((HM2.out.trans (Mv.drewN _)).trans hM3)
      have HK4 := Lib.hid hk4
      have h1 := hS3.in3
      have h2 := hS3.in2
      obtain ⟨A, cA, hi, hown, hog⟩ := hS3.at
      have h0 : w3.cell? ⟨b, 1, none⟩ = some (.slice A L.length cA) := hi.cell 1
      have fr := hS3.free 3
      have hLb : L.length ≤ 100000 := by have := hS3.hL; have := hS3.hM; omega
      have hLL := hS3.hL
      clear hM3 hk4 f0 f1 f2 g0 g1 g2 g3 e1 d HM2 HK3 HS2 h3
      by_cases her3 : er3 = 0
      · subst her3
        have hzx : x.size = n := by
          rw [run_on, run_on] at hr3
          have := bytes_len hr3
          rw [← this]; exact Array.length_toList.symm
        have HXL := Lib.hid hzx
        have hxb : x.size ≤ 65536 := by omega
        have e2 : wrap64 ((L.length : Int) + (n : Int)) = (L.length : Int) + (n : Int) := IntWalk.wrap64_in _ ⟨by omega, by omega⟩
        have HS3 := Lib.hid hS3
        clear hr3 hz3 hzx
        by_cases hbig : M < (L.length : Int) + (n : Int)
        · have d : decide (M < (L.length : Int) + (n : Int)) = true := by simpa using hbig
          have hk5 : R = .error 5 := by rw [HK4.out, run_on, when_yes hbig]
          have HK5 := Lib.hid hk5
          clear hbig hk5 hS3 hi hown hog HK4
          go_wp2
          go_quiet (fail)
          go_wp2
          go_returns
          exact ⟨5, L, q3, og, rfl, ((HS3.out.drewN _).met 5).1, (HM3.out.trans (Mv.drewN _)).trans ((HS3.out.drewN _).met 5).2, by rw [← HR.out, HK5.out]; rfl⟩
        · have d : decide (M < (L.length : Int) + (n : Int)) = false := by simpa using hbig
          have hk5 : R = run 0 (rPure (L ++ x.data.toList)) s q3 := by rw [HK4.out, run_on, run_on, when_not hbig]
          have HK5 := Lib.hid hk5
          have HBIG := Lib.hid hbig
          clear hbig hk5 hS3 hi hown hog HK4 h0 h1 h2 fr
          have h1' : ∀ k, (w3.drewN k).cell? ⟨b, 3, none⟩ = some (.int .i64 0) := fun k => (HS3.out.drewN k).in3
          have h1 := HS3.out.in3
          have h2 := HS3.out.in2
          obtain ⟨A, cA, hi, hown, hog⟩ := HS3.out.at
          have h0 : w3.cell? ⟨b, 1, none⟩ = some (.slice A L.length cA) := hi.cell 1
          have hlt := HS3.out.lt
          clear h1'
          have HI := Lib.hid hi
          have HOG := Lib.hid hog
          have HNE := Lib.hid (out_neR hown)
          have HOWN0 := Lib.hid hown
          clear hi hog hown
          go_wp2
          go_quiet (fail)
          have hS4 := HS3.out.drewN nq
          have HM4 := Lib.hid (HM3.out.trans (Mv.drewN nq))
          have HI4 := Lib.hid (HI.out.drewN nq)
          have hown : (w3.drewN nq).ownsRow (b + 1) 5 1 (.slice A L.length cA) L.length (cellsOf L) := HOWN0.out
          have k0 : (w3.drewN nq).cell? ⟨b, 1, none⟩ = some (.slice A L.length cA) := HI4.out.cell 1
          have k3 : (w3.drewN nq).cell? ⟨b, 3, none⟩ = some (.int .i64 0) := HI4.out.cell 3
          have hlt := hS4.lt
          have HS4 := Lib.hid hS4
          clear hS4 h0 h1 h2 HS3 HI HOWN0 HM3
          generalize w3.drewN nq = w4 at *
          obtain ⟨i0, hi0, hz0, hz1, hz2⟩ := info_parts info_u8
          go_wp2_with (at_builtin; go_loud (refine wpList_append_str _ rfl _ _ 40 9 rfl (b + 1) 5 i0 Tryz.underlying40 Tryz.underlying9 hi0 hz0 hz1 hz2 (.slice A L.length cA) L.length (cellsOf L) rfl hown x rfl (by omega) hlt ?_; intro A2 c2 w5 hown2 hgrow hat; have hi2 := HI4.out.grown hgrow (Ne.symm HNE.out); have g0 : w5.cell? ⟨b, 1, none⟩ = some (.slice A L.length cA) := hi2.cell 1; have g1 : w5.frozen? ⟨b, 1, none⟩ = false := hi2.free 1; have HOWN := Lib.hid hown2; have HGROW := Lib.hid hgrow; have HAT := Lib.hid hat; clear hi2 hown2 hgrow hat))
          go_returns
          have hl2 : (L ++ x.data.toList).length = L.length + x.size := by rw [List.length_append]; rfl
          have hp := HS4.out.put (L2 := L ++ x.data.toList) (But.refl [] _) HI4.out HOG.out HGROW.out (by rw [cellsOf_append]; exact HOWN.out) hl2 HAT.out (by have := HBIG.out; rw [hl2, HXL.out]; omega)
          exact ⟨0, _, q3, _, rfl, hp.1, HM4.out.trans hp.2, by rw [← HR.out, HK5.out]⟩
      · have d : (er3 == 0) = false := by simpa using her3
        have hk5 : R = .error er3 := by rw [HK4.out, run_off her3]
        have HK5 := Lib.hid hk5
        have HER := Lib.hid her3
        have HS3 := Lib.hid hS3
        clear her3 hk5 hS3 hi hown hog HK4 hr3 hz3
        go_wp2
        go_quiet (fail)
        go_wp2
        go_returns
        exact ⟨er3, L, q3, og, rfl, HS3.out.drewN _, HM3.out.trans (Mv.drewN _), by rw [← HR.out, HK5.out, run_off HER.out]⟩
  · have d : (er2 != 0) = true := by simpa using her2
    have HER := Lib.hid her2
    have HS2 := Lib.hid hS2
    clear her2 hS2 hr2 hz2 hk hM2
    go_wp2
    go_returns
    exact ⟨er2, L, q2, og, rfl, HS2.out, HM2.out, by rw [← HR.out, HK.out, run_off HER.out, run_off HER.out]⟩
end
end Go.Proofs.YtghegmbafbpnjaaGreatDoor
