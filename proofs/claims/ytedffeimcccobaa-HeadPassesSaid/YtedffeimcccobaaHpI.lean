/- What the program's file takes in: all chunks behind the header. -/
import Derived.Test.YtedffeimcccobaaHpH
set_option maxRecDepth 100000
set_option linter.unusedVariables false
namespace Go.Proofs.Ytedffeimcccobaa
set_option maxRecDepth 100000
open Go Go.RowKit
theorem step_D {d c : Int} {e : Bool} {k : Ck} {s : HS} : (stepH d c e k s).1.D.length ≤ s.D.length + k.2.length := by
  unfold stepH
  repeat' split
  all_goals simp
theorem dataC_at {L : List Ck} {i : Nat} {k : Ck} (h : L[i]? = some k) : L.drop i = k :: L.drop (i + 1) ∧ dataC (L.drop i) = k.2.length + dataC (L.drop (i + 1)) := by
  obtain ⟨hi, e⟩ := List.getElem?_eq_some_iff.1 h
  have hd : L.drop i = k :: L.drop (i + 1) := by rw [List.drop_eq_getElem_cons hi, e]
  refine ⟨hd, ?_⟩
  rw [hd]
  unfold dataC
  simp
theorem run_go {d c : Int} {k : Ck} {l : List Ck} {s : HS} (h : (stepH d c l.isEmpty k s).2 = none) : runH d c (k :: l) s = runH d c l (stepH d c l.isEmpty k s).1 := by
  rw [run_step]
  rcases hx : stepH d c l.isEmpty k s with ⟨s', o⟩
  rw [hx] at h
  dsimp only at h
  subst h
  rfl
theorem run_stop {d c er : Int} {k : Ck} {l : List Ck} {s : HS} (h : (stepH d c l.isEmpty k s).2 = some er) : runH d c (k :: l) s = ((stepH d c l.isEmpty k s).1, er) := by
  rw [run_step]
  rcases hx : stepH d c l.isEmpty k s with ⟨s', o⟩
  rw [hx] at h
  dsimp only at h
  subst h
  rfl
theorem step_endC {d c : Int} {s : HS} {data : List UInt8} {l : List Ck} {n : Nat} (hn : l.length = n) : stepH d c l.isEmpty (tIEND, data) s = (s, some (endR s.idat data n)) := by
  unfold stepH endR
  rw [if_neg (show ¬ tIEND = tIHDR by decide), if_neg (show ¬ tIEND = tPLTE by decide), if_neg (show ¬ tIEND = tTRNS by decide), if_neg (show ¬ tIEND = tIDAT by decide), if_pos (by rfl)]
  show (if data.length ≠ 0 then (s, some 21) else if s.idat = false then (s, some 23) else if l.isEmpty = false then (s, some 4) else (s, some 0)) = (s, some (if data.length ≠ 0 then 21 else if s.idat = false then 23 else if n ≠ 0 then 4 else 0))
  by_cases h1 : data.length ≠ 0
  · rw [if_pos h1, if_pos h1]
  rw [if_neg h1, if_neg h1]
  by_cases h2 : s.idat = false
  · rw [if_pos h2, if_pos h2]
  rw [if_neg h2, if_neg h2]
  cases l with
  | nil => subst hn; simp
  | cons x l => subst hn; simp
attribute [local irreducible] strL
/-- What is left when all chunks were gone through. -/
def GotL (w0 w : World) (b : Nat) (a h d c l : Int) (R : HS × Int) (e : Ending) (w' : World) : Prop :=
  e = .returned (.int .i64 R.2) ∧ (∃ last, FlS w0 w' b a h d c l R.1.P R.1.T R.1.D R.1.trans R.1.idat last) ∧ Kp b w w'
theorem FlS.lt {w0 w : World} {b : Nat} {a h d c l : Int} {P T D : List UInt8} {tr idat : Bool} {last : List UInt8} (hf : FlS w0 w b a h d c l P T D tr idat last) : b < w.heap.size := by
  obtain ⟨p, v, f⟩ := hf
  exact f.2.2.2.1.lt
theorem FlS.base {w0 w : World} {b : Nat} {a h d c l : Int} {P T D : List UInt8} {tr idat : Bool} {last : List UInt8} (hf : FlS w0 w b a h d c l P T D tr idat last) : But [] w0 w := by
  obtain ⟨p, v, f⟩ := hf
  exact f.2.1
theorem FlS.idat {w0 w : World} {b : Nat} {a h d c l : Int} {P T D : List UInt8} {tr idat : Bool} {last : List UInt8} (hf : FlS w0 w b a h d c l P T D tr idat last) : w.cell? ⟨b, 10, none⟩ = some (.bool idat) := by
  obtain ⟨p, v, f⟩ := hf
  rw [f.2.2.2.1.cell]; rfl
theorem FlS.last {w0 w : World} {b : Nat} {a h d c l : Int} {P T D : List UInt8} {tr idat : Bool} {last : List UInt8} (hf : FlS w0 w b a h d c l P T D tr idat last) (t : List UInt8) :
    (∃ u, w.cell? ⟨b, 11, none⟩ = some u) ∧ w.frozen? ⟨b, 11, none⟩ = false ∧ FlS w0 (w.setCell ⟨b, 11, none⟩ (.string (strL t))) b a h d c l P T D tr idat t := by
  obtain ⟨p, v, f⟩ := hf
  exact ⟨⟨_, by rw [f.2.2.2.1.cell]; rfl⟩, f.2.2.2.1.free 11, p, v, f.put11 _⟩
set_option maxHeartbeats 1000000 in
theorem paddAll_any {w0 w : World} {b n cap : Nat} {A : Option Addr} {a h d c l : Int} {s : HS} {last : List UInt8} {L : List Ck} (hK : Cks w0 A n L) (hF : FlS w0 w b a h d c l s.P s.T s.D s.trans s.idat last) (hok : OkS s last)
    (hc : c = 0 ∨ c = 2 ∨ c = 3 ∨ c = 4 ∨ c = 6) (hdep : c = 3 → d = 1 ∨ d = 2 ∨ d = 4 ∨ d = 8) (hL : s.D.length + dataC L ≤ 100000000) (hn : n ≤ 8796093022208) (hs : ∀ (i : Nat) (k : Ck), L[i]? = some k → k.1.length ≤ 140737488351232) :
    Calls Try.prog 27 #[.pointer (some ⟨b, 0, none⟩), .slice A n cap] w (GotL w0 w b a h d c l (runH d c L s)) := by
  obtain ⟨R, hR⟩ : ∃ R, R = runH d c L s := ⟨_, rfl⟩
  rw [← hR]
  have HLN := Lib.hid hK.1
  have HK := Lib.hid hK
  have HR := Lib.hid hR
  have HF := Lib.hid hF
  have HOK := Lib.hid hok
  have HC := Lib.hid hc
  have HD := Lib.hid hdep
  have HL := Lib.hid hL
  have HTL := Lib.hid hs
  clear hK hR hF hok hc hdep hL hs
  go_enter Try.func27, Try.ntmps27
  go_wp2
  go_loopw [10] (fun iv wr => ∃ (i : Nat) (s : HS) (last : List UInt8), i ≤ n ∧ iv = .int .i64 i ∧ Hid (runH d c (L.drop i) s = R) ∧ Hid (OkS s last) ∧ Hid (s.D.length + dataC (L.drop i) ≤ 100000000) ∧ Hid (FlS w0 wr b a h d c l s.P s.T s.D s.trans s.idat last) ∧ Hid (Kp b w wr)) (fun iv _ => n - (intOf iv).toNat)
  case atStart => exact ⟨0, s, last, Nat.zero_le _, rfl, Lib.hid (by rw [List.drop_zero, HR.out]), HOK, Lib.hid (by rw [List.drop_zero]; exact HL.out), HF, Lib.hid (Kp.refl b w)⟩
  case round =>
    obtain ⟨i, s, last, hi, rfl, HRR, HOK, HDL, HF, HKP⟩ := hrel
    by_cases hlt : i < n
    · obtain ⟨g, o, k, rfl, hg, hc0, hc1, hat⟩ := HK.out.at hlt
      obtain ⟨t, data⟩ := k
      have c0 := HF.out.base.cell hc0 (by simp)
      have c1 := HF.out.base.cell hc1 (by simp)
      have k0 : (0 : Int) ≤ (i : Int) := by omega
      have k1 : (i : Int) < (n : Int) := by omega
      obtain ⟨hd1, hd2⟩ := dataC_at hat
      have htl := HTL.out i _ hat
      have hrr := HRR.out
      rw [hd1] at hrr
      have hdl := HDL.out
      rw [hd2] at hdl
      dsimp only at hdl htl
      have hIb := Is.fresh wr 30 #[.string (strL t), .string (strL data)]
      have hBb := (But.refl [] wr).alloc (.cells #[.string (strL t), .string (strL data)] 30)
      have hF1 := HF.out.but hBb
      have hlt1 := HF.out.lt
      have HK1 := Lib.hid (HKP.out.but hBb)
      have hid1 := hF1.idat
      have q0 := hIb.cell 0
      have q1 := hIb.cell 1
      have hlen : (L.drop (i + 1)).length = n - i - 1 := by rw [List.length_drop, HLN.out]; omega
      by_cases ht : t = tIEND
      · have hst : stepH d c (L.drop (i + 1)).isEmpty (t, data) s = (s, some (endR s.idat data (n - i - 1))) := by rw [ht]; exact step_endC hlen
        have hfin : R = (s, endR s.idat data (n - i - 1)) := by
          rw [← hrr, run_stop (by rw [hst]), hst]
        have he := fun W (hW : W.cell? ⟨b, 10, none⟩ = some (.bool s.idat)) => pend_any (w := W) (b := b) (idat := s.idat) data (n - i - 1) hW
        obtain ⟨q, hq⟩ : ∃ q, q = n - i - 1 := ⟨_, rfl⟩
        rw [← hq] at hfin
        simp only [← hq] at he
        have z1 : (n : Int) - (i : Int) = ((q + 1 : Nat) : Int) := by omega
        have z2 : ((q + 1 : Nat) : Int) - 1 = (q : Int) := by omega
        have hqb : q + 1 ≤ 8796093022208 := by omega
        obtain ⟨m, hm⟩ : ∃ m, m = q + 1 := ⟨_, rfl⟩
        rw [← hm] at z1 z2 hqb
        have e1 : (strL t).toList = [73, 69, 78, 68] := str_eq ht
        have e2 : ((strL t).toList == [73, 69, 78, 68]) = true := by rw [e1]; rfl
        obtain ⟨S, hS⟩ : ∃ S, S = strL t := ⟨_, rfl⟩
        rw [← hS] at e1 e2 c0 q0 q1 hF1 hid1 HK1
        obtain ⟨X, hX⟩ : ∃ S, S = strL data := ⟨_, rfl⟩
        rw [← hX] at c1 q0 q1 hF1 hid1 HK1
        simp only [← hX] at he
        have HFIN := Lib.hid hfin
        have HE := Lib.hid (he _ hid1)
        have HF1 := Lib.hid hF1
        clear hst hfin he hq hm hS hX ht hlen hrr hdl htl hd1 hd2 hat hg hc0 hc1 hIb hBb hF1 hid1
        go_wp2_with fail
        refine HE.out.mono ?_
        rintro e w2 ⟨rfl, rfl⟩
        go_wp2
        go_ret
        exact ⟨by rw [HFIN.out]; rfl, by rw [HFIN.out]; exact ⟨_, HF1.out⟩, HK1.out⟩
      · have hadd := padd_any (L.drop (i + 1)).isEmpty t data hF1 HOK.out ht HC.out HD.out (by omega) htl
        have hsD := step_D (d := d) (c := c) (e := (L.drop (i + 1)).isEmpty) (k := (t, data)) (s := s)
        dsimp only at hsD
        obtain ⟨e1, e2⟩ : ¬ (strL t).toList = [73, 69, 78, 68] ∧ ((strL t).toList == [73, 69, 78, 68]) = false := str_ne ht
        have HT := Lib.hid (fun (er : Int) (W : World) (hf : FlS w0 W b a h d c l (stepH d c (L.drop (i + 1)).isEmpty (t, data) s).1.P (stepH d c (L.drop (i + 1)).isEmpty (t, data) s).1.T (stepH d c (L.drop (i + 1)).isEmpty (t, data) s).1.D (stepH d c (L.drop (i + 1)).isEmpty (t, data) s).1.trans (stepH d c (L.drop (i + 1)).isEmpty (t, data) s).1.idat last) => hf.last t)
        have HST := Lib.hid (fun er (hx : (stepH d c (L.drop (i + 1)).isEmpty (t, data) s).2 = some er) => hrr.symm.trans (run_stop hx))
        have HGO := Lib.hid (fun (hx : (stepH d c (L.drop (i + 1)).isEmpty (t, data) s).2 = none) => (run_go hx).symm.trans hrr)
        obtain ⟨x, hx⟩ : ∃ x, x = stepH d c (L.drop (i + 1)).isEmpty (t, data) s := ⟨_, rfl⟩
        rw [← hx] at hadd hsD HT HST HGO
        have HDL2 := Lib.hid (show x.1.D.length + dataC (L.drop (i + 1)) ≤ 100000000 by omega)
        have HIB := Lib.hid hIb
        obtain ⟨S, hS⟩ : ∃ S, S = strL t := ⟨_, rfl⟩
        rw [← hS] at e1 e2 c0 q0 q1 hadd HK1 HT HIB
        obtain ⟨X, hX⟩ : ∃ S, S = strL data := ⟨_, rfl⟩
        rw [← hX] at c1 q0 q1 hadd HK1 HIB
        have HADD := Lib.hid hadd
        clear hadd hsD hx hS hX ht hlen hrr hdl htl hd1 hd2 hat hg hc0 hc1 hIb hBb hF1 hid1
        go_wp2_with fail
        refine HADD.out.mono ?_
        rintro e w2 ⟨er, rfl, hf2, hk2, hst, hok2⟩
        have hI2 := hk2 wr.heap.size 30 _ (by omega) (by decide) HIB.out
        have u0 := hI2.cell 0
        by_cases her : er = 0
        · have p0 : (er != 0) = false := by simp [her]
          rw [if_pos her] at hst
          obtain ⟨⟨u, hu⟩, hfr, hf3⟩ := HT.out er w2 hf2
          have HF3 := Lib.hid hf3
          have HOK2 := Lib.hid (hok2 her)
          have HRR2 := Lib.hid (HGO.out hst)
          have HK3 := Lib.hid ((HK1.out.trans hk2).set 11 (.string S))
          clear hI2 hk2 hf2 hst hok2 her hf3
          go_wp2
          go_roundw
          case rel => exact ⟨i + 1, x.1, t, by omega, by go_num, HRR2, HOK2, HDL2, HF3, HK3⟩
          case measure => simp [intOf]; omega
        · have p0 : (er != 0) = true := by simpa using her
          rw [if_neg her] at hst
          have HFIN := Lib.hid (HST.out er hst)
          have HF2 := Lib.hid hf2
          have HK2 := Lib.hid (HK1.out.trans hk2)
          clear hI2 hk2 hf2 hst hok2 her
          go_wp2
          go_ret
          exact ⟨by rw [HFIN.out]; rfl, by rw [HFIN.out]; exact ⟨_, HF2.out⟩, HK2.out⟩
    · obtain rfl : i = n := by omega
      have HFIN := Lib.hid (show R = (s, 3) by
        have h := HRR.out
        rw [List.drop_eq_nil_of_le (by rw [HLN.out]; exact Nat.le_refl _)] at h
        rw [← h]; rfl)
      go_wp2
      go_ret
      exact ⟨by rw [HFIN.out]; rfl, by rw [HFIN.out]; exact ⟨_, HF.out⟩, HKP.out⟩
end Go.Proofs.Ytedffeimcccobaa
