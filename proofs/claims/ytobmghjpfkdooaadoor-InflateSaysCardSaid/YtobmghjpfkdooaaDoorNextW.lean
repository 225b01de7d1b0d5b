/- The contract of the program's Next. -/
import Derived.Test.YtobmghjpfkdooaaDoorNextM
namespace Go.Proofs.YtobmghjpfkdooaaDoor
set_option maxRecDepth 100000
open Go Go.RowKit

theorem was_ok (l : List Int) : was l (ord l) ≤ 15 := was_le (r := []) (by simp)
theorem was_most (l : List Int) : (was l (ord l) : Int) ≤ top l := by
  have h0 := top_nonneg l
  unfold was
  cases e : (ord l).getLast? with
  | none => exact h0
  | some t =>
    have ht := ord_len (List.mem_of_getLast? e)
    have hm := top_mem l _ (List.getElem_mem ht.1)
    rw [← getD_get ht.1] at hm
    show (((l.getD t 0).toNat : Nat) : Int) ≤ top l
    omega
theorem was_none {l : List Int} (hok : ∀ x ∈ l, 0 ≤ x ∧ x ≤ 15) (h : was l (ord l) = 0) : ksum l = 0 := by
  have : ord l = [] := List.eq_nil_iff_forall_not_mem.2 fun s hs => by
    have h1 := was_top l s hs
    have h2 := ord_len hs
    omega
  rw [← kp_ord hok, this]; rfl
theorem chk_okay {l : List Int} (h : chk l = 0) : ∀ x ∈ l, 0 ≤ x ∧ x ≤ 15 := by
  obtain ⟨h1, h2, h3, h4⟩ := chk_zero h
  unfold okLens at h2
  intro x hx
  have := List.all_eq_true.1 h2 x hx
  unfold okLen at this
  simpa using this
theorem longest_many {l : List Int} (h : ksum l = 32768) : longest l = 15 := by
  have := ksum_many l
  unfold longest
  rw [if_neg (by omega), if_neg (by omega)]
theorem top_longest {l : List Int} (hc : chk l = 0) : was l (ord l) ≤ longest l := by
  obtain ⟨h1, h2, h3, h4⟩ := chk_zero hc
  have hw := was_most l
  have hw15 := was_ok l
  rcases h4 with h | h | h
  · rw [longest_many h]; exact hw15
  · have := (one_sum l h2 h).2
    omega
  · have := (single_iff l h2).1 h
    unfold longest
    rw [if_neg (by omega), if_pos this]; omega
/-- Behind the last length nothing is left, unless the codes are single or empty. -/
theorem next_end {l : List Int} (hc : chk l = 0) {c : Nat} (h1 : gN l (was l (ord l)) ≤ c) (h2 : c < 2 ^ was l (ord l)) : longest l = was l (ord l) := by
  have hok := chk_okay hc
  obtain ⟨_, hl, _, h4⟩ := chk_zero hc
  have hw := was_most l
  have hw15 := was_ok l
  have hlo := top_longest hc
  rcases h4 with h | h | h
  · exfalso
    have e := kp_gN l (was l (ord l)) hw15
    rw [ord_was l hw15, kp_ord hok, h] at e
    have e2 : 2 ^ was l (ord l) * 2 ^ (15 - was l (ord l)) = 32768 := by
      rw [← Nat.pow_add, show was l (ord l) + (15 - was l (ord l)) = 15 from by omega]
    have := Nat.eq_of_mul_eq_mul_right (Nat.two_pow_pos (15 - was l (ord l))) (e2.trans e)
    omega
  · have : longest l = 0 := by unfold longest; rw [if_pos h]
    omega
  · have ht := (single_iff l hl).1 h
    have : longest l = 1 := by unfold longest; rw [if_neg (by omega), if_pos ht]
    by_cases h0 : was l (ord l) = 0
    · have := was_none hok h0
      omega
    · omega

theorem nextG_zero (l : List Int) (s : ByteArray) (n c p : Nat) : nextG l s 0 n c p = (0, 12, p) := rfl
theorem nextG_succ (l : List Int) (s : ByteArray) (f n c p : Nat) : nextG l s (f + 1) n c p = if bitsErr s p 1 ≠ 0 then (0, bitsErr s p 1, p) else
    match findS l n (2 * c + bitsVal s p 1) with
    | some i => (i, 0, bitsGo s p 1)
    | none => nextG l s f (n + 1) (2 * c + bitsVal s p 1) (bitsGo s p 1) := rfl
theorem ordTo_none (l : List Int) : (ordTo l 0).length = 0 := rfl
theorem nextS_eq (l : List Int) (s : ByteArray) (p : Nat) : nextG l s (longest l - 0) (0 + 1) 0 p = nextS l s p := rfl
attribute [local irreducible] ord was cntW inN gN findS nextG longest ordTo
def GotNext (w : World) (b d : Nat) (l : List Int) (s : ByteArray) (p : Nat) (e : Ending) (w' : World) : Prop :=
  ∃ q, nextS l s p = q ∧ e = .returned (.tuple #[.int .i64 (q.1 : Nat), .int .i64 q.2.1]) ∧ RS w' b d s q.2.2 ∧ But [b] w w'

theorem gotNext_of {w : World} {b d : Nat} {l : List Int} {s : ByteArray} {p x pp : Nat} {err : Int} {q : Nat × Int × Nat} {e : Ending} {w' : World} (h : nextS l s p = q) (h2 : (x, err, pp) = q)
    (he : e = .returned (.tuple #[.int .i64 (x : Nat), .int .i64 err])) (hr : RS w' b d s pp) (hB : But [b] w w') : GotNext w b d l s p e w' := by
  subst h2
  exact ⟨_, h, he, hr, hB⟩

set_option maxRecDepth 100000 in
set_option maxHeartbeats 200000 in
theorem next_any {w : World} {bt b d p : Nat} {l : List Int} {s : ByteArray} (hc : chk l = 0) (hR : RS w b d s p) (hs : s.size ≤ 140737488355328) (hb : ∀ w', But [b] w w' → TT w' bt l) :
    Calls Tryd.prog 18 #[.pointer (some ⟨bt, 0, none⟩), .pointer (some ⟨b, 0, none⟩)] w (GotNext w b d l s p) := by
  have hsum := chk_zero hc
  have hlo := top_longest hc
  have hlen := length_ord l
  have hwok := was_ok l
  obtain ⟨h288, -, -, -⟩ := hsum
  have HC := Lib.hid hc
  have HR := Lib.hid hR
  have HB := Lib.hid hb
  clear hc hR hb
  go_enter Tryd.func18, Tryd.ntmps18
  go_wp2
  go_loopw [6, 7, 8, 9] (fun cv fv bv nv wr => ∃ n c p1 : Nat, n ≤ was l (ord l) ∧ cv = .int .i64 c ∧ fv = .int .i64 (2 * gN l n : Nat) ∧ bv = .int .i64 ((ordTo l n).length : Nat) ∧ nv = .int .i64 (n + 1 : Nat) ∧ gN l n ≤ c ∧ c < 2 ^ n ∧
    nextG l s (longest l - n) (n + 1) c p1 = nextS l s p ∧ RS wr b d s p1 ∧ But [b] w wr) (fun _ _ _ nv _ => (17 - intOf nv).toNat)
  case atStart => 
    exact ⟨0, 0, p, Nat.zero_le _, rfl, by rw [gN_zero]; rfl, by rw [ordTo_none]; rfl, rfl, by rw [gN_zero]; exact Nat.le_refl _, by decide, nextS_eq _ _ _, HR.out, But.refl _ _⟩
  case round =>
    obtain ⟨n, c, p1, hn, rfl, rfl, rfl, rfl, hc1, hc2, hG, hR1, hB1⟩ := hrel
    obtain ⟨Ao, co, Al, cl, Ac, cc, hI, hIo, _, _⟩ := HB.out _ hB1
    have k17 : wr.cell? ⟨bt, 17, none⟩ = some (.int .i64 (was l (ord l) : Nat)) := hI.cell 17
    clear HR hI hIo
    generalize hNS : nextS l s p = q at *
    have HNS := Lib.hid hNS
    clear hNS
    have HG := Lib.hid hG
    have HC1 := Lib.hid hc1
    have HC2 := Lib.hid hc2
    clear hG hc1 hc2
    have hend : n = was l (ord l) → longest l = n := fun e => by
      have h1 := HC1.out
      have h2 := HC2.out
      rw [e] at h1 h2 ⊢
      exact next_end HC.out h1 h2
    have HEND := Lib.hid hend
    clear hend
    by_cases hlt : n < was l (ord l)
    · have hn14 : n < 15 := by omega
      have hpow := Nat.pow_le_pow_right (n := 2) (by decide) (show n ≤ 14 by omega)
      have hc14 : c < 16384 := by have := HC2.out; omega
      have hG14 : gN l n ≤ c := HC1.out
      have hsucc := gN_succ l n hn14
      have hcnt : cntW l (ord l) (n + 1) = (inN l (n + 1)).length := cntW_ord l (by omega) (by omega)
      have hmle := cntW_le l (ord l) (n + 1)
      have hbl := length_ordTo l n
      have hbl288 : (ordTo l n).length ≤ 288 := by
        obtain ⟨r, hr⟩ := ord_split l hn14
        have := congrArg List.length hr
        rw [List.length_append] at this; omega
      have hm288 : cntW l (ord l) (n + 1) ≤ 288 := by omega
      obtain ⟨f, hf⟩ : ∃ f, longest l - n = f + 1 := ⟨longest l - n - 1, by omega⟩
      have hnx : nextG l s (f + 1) (n + 1) c p1 = q := by rw [← hf]; exact HG.out
      have hf2 : longest l - (n + 1) = f := by omega
      have hbits := hR1.bits hs 1
      have hv2 : bitsVal s p1 1 < 2 := by
        unfold bitsVal; split
        · exact bitsAt_lt _ _ 1
        · decide
      clear HG hf hR1 hpow
      rw [nextG_succ] at hnx
      by_cases hE : bitsErr s p1 1 = 0
      · rw [if_neg (by simpa using hE)] at hnx
        rw [hE] at hbits
        have hgo : 2 * c + bitsVal s p1 1 < 2 ^ (n + 1) := by have := HC2.out; rw [Nat.pow_succ]; omega
        have hfound := fun j (hj : j < (inN l (n + 1)).length) => findS_some (l := l) (n := n) (j := j) hn14 hj
        have hnone := findS_none (l := l) (n := n) (c := 2 * c + bitsVal s p1 1) hn14
        have hidx := fun j (hj : j < (inN l (n + 1)).length) => ord_at l (n := n) (j := j) hn14 hj
        generalize bitsVal s p1 1 = v at *
        generalize bitsGo s p1 1 = p2 at *
        have HBITS := Lib.hid hbits
        have HNX := Lib.hid hnx
        have HFO := Lib.hid hfound
        have HNO := Lib.hid hnone
        have HIX := Lib.hid hidx
        have HGO := Lib.hid hgo
        have HSU := Lib.hid hsucc
        have HCNT := Lib.hid hcnt
        have HBL := Lib.hid hbl
        have HE := Lib.hid hE
        clear hbits hnx hfound hnone hidx hgo hsucc hcnt hbl hE
        generalize hK : was l (ord l) = K at *
        generalize hG : gN l n = G at *
        generalize hBL : (ordTo l n).length = BL at *
        have HK := Lib.hid hK
        have HGG := Lib.hid hG
        have HBB := Lib.hid hBL
        generalize hm0 : cntW l (ord l) (n + 1) = m at *
        generalize hOL : (ord l).length = OL at *
        generalize hLL : l.length = LL at *
        have HM0 := Lib.hid hm0
        have HOL := Lib.hid hOL
        have HLO := Lib.hid hlo
        have HF2 := Lib.hid hf2
        have HMLE := Lib.hid hmle
        have HLEN := Lib.hid hlen
        have HWOK := Lib.hid hwok
        have HSZ := Lib.hid hs
        clear hK hG hBL hm0 hOL hlo hf2 hLL hmle hlen hwok hs

        go_wp2_with fail
        refine HBITS.out.mono ?_
        rintro e w2 ⟨rfl, hR2, hB2⟩
        have hB3 := hB1.trans hB2
        obtain ⟨Ao, co, Al, cl, Ac, cc, hI, hIo, _, _⟩ := HB.out _ hB3
        have qn : w2.cell? ⟨bt, 1 + (n + 1), none⟩ = some (.int .i64 (m : Nat)) := by
          rw [← HM0.out]
          exact (hI.cell (1 + (n + 1))).trans (tab_word _ _ _ _ _ _ (by omega))
        have q0 : w2.cell? ⟨bt, 0, none⟩ = some (.slice Ao OL co) := by
          rw [← HOL.out]
          exact hI.cell 0
        have n0 : (0 : Int) ≤ ((n + 1 : Nat) : Int) := by omega
        have n1 : ((n + 1 : Nat) : Int) < 16 := by omega
        have HR2 := Lib.hid hR2
        have HIO := Lib.hid hIo
        clear hI hIo hR2 k17
        by_cases hfd : 2 * c + v < 2 * G + m
        · obtain ⟨j, hj⟩ : ∃ j, 2 * c + v = 2 * G + j := ⟨2 * c + v - 2 * G, by omega⟩
          have hjm : j < (inN l (n + 1)).length := by have := HCNT.out; omega
          have hx := HIX.out j hjm
          obtain ⟨hlt2, hx2⟩ := List.getElem?_eq_some_iff.1 hx
          obtain ⟨g, o, rfl, hg, hcell⟩ := HIO.out.at hlt2
          rw [List.getElem_map, hx2] at hcell
          have hfo := HFO.out j hjm
          have hnx := HNX.out
          rw [hj, hfo] at hnx
          have hbj : BL + j < OL := by have := HOL.out; omega
          generalize (inN l (n + 1))[j] = x at *
          have HX := Lib.hid hnx
          have ei : ((BL : Int) + ((c : Int) * 2 + (v : Int)) - ((2 * G : Nat) : Int)) = ((BL + j : Nat) : Int) := by omega
          have t0 : (0 : Int) ≤ ((BL + j : Nat) : Int) := by omega
          have t1 : ((BL + j : Nat) : Int) < (OL : Int) := by omega
          have tl : decide ((c : Int) * 2 + (v : Int) < 2 * (G : Int) + (m : Int)) = true := by simp; omega
          rw [show BL + j = BL + (c * 2 + v) - 2 * G from by omega] at hcell
          clear hnx hfo hx hlt2 hx2 hjm
          go_wp2
          go_ret2
          exact gotNext_of HNS.out HX.out rfl HR2.out hB3
        · have hsu := HSU.out
          have hcn := HCNT.out
          have hno := HNO.out (.inr (by omega))
          have hnx := HNX.out
          rw [hno] at hnx
          have HX := Lib.hid hnx
          have hfd2 : 2 * G + m ≤ 2 * c + v := by omega
          have tl : decide ((c : Int) * 2 + (v : Int) < 2 * (G : Int) + (m : Int)) = false := by simp; omega
          clear hnx hno hsu hcn hfd
          go_wp2
          go_roundw
          case rel =>
            have hsu := HSU.out
            have hcn := HCNT.out
            have hbl := HBL.out
            refine ⟨n + 1, 2 * c + v, p2, by omega, ?_, ?_, ?_, ?_, by omega, HGO.out, ?_, HR2.out, hB3⟩
            · congr 1; omega
            · congr 1; omega
            · congr 1; omega
            · congr 1
            · rw [HF2.out]; exact HX.out
          case measure => simp [intOf]; omega
      · rw [if_pos hE] at hnx
        have hgo : bitsGo s p1 1 = p1 := by unfold bitsGo; rw [if_neg hE]
        rw [hgo] at hbits
        have hv0 : bitsVal s p1 1 = 0 := by unfold bitsVal; rw [if_neg hE]
        have hEb : (bitsErr s p1 1 != 0) = true := by simpa using hE
        generalize bitsVal s p1 1 = v at *
        generalize bitsErr s p1 1 = E at *
        have HBITS := Lib.hid hbits
        have HNX := Lib.hid hnx
        clear hbits hnx hsucc hcnt hbl hgo hmle
        generalize was l (ord l) = K at *
        generalize gN l n = G at *
        generalize (ordTo l n).length = BL at *
        go_wp2_with fail
        refine HBITS.out.mono ?_
        rintro e w2 ⟨rfl, hR2, hB2⟩
        have HR2 := Lib.hid hR2
        clear hR2
        go_wp2
        go_ret2
        exact gotNext_of HNS.out HNX.out rfl HR2.out (hB1.trans hB2)
    · have hnk : n = was l (ord l) := by omega
      have hle := HEND.out hnk
      have hfin := HG.out
      rw [hle, Nat.sub_self, nextG_zero] at hfin
      have HF := Lib.hid hfin
      have HR1 := Lib.hid hR1
      generalize was l (ord l) = K at *
      generalize gN l n = G at *
      generalize (ordTo l n).length = BL at *
      subst hnk
      clear hfin HG hR1 hle hlt HEND hlo
      go_wp2
      go_ret2
      exact gotNext_of HNS.out HF.out rfl HR1.out hB1
end Go.Proofs.YtobmghjpfkdooaaDoor
