/- What the program's file takes in, chunk by chunk. -/
import Derived.Test.YtedffeimcccobaaHpG
import Derived.Test.YtedffeimcccobaaCkR
set_option maxRecDepth 100000
set_option linter.unusedVariables false
namespace Go.Proofs.Ytedffeimcccobaa
set_option maxRecDepth 100000
open Go Go.RowKit
/-- What is known of a file besides what it holds. -/
structure OkS (s : HS) (last : List UInt8) : Prop where
  pal : s.pal = true ↔ ¬ s.P = []
  gap : s.gap = true ↔ s.idat = true ∧ last ≠ tIDAT
  len : s.P.length ≤ 768
theorem okS_start : OkS hs0 [] := ⟨by simp [hs0], by simp [hs0], by simp [hs0]⟩
theorem e23 : ¬ (23 : Int) = 0 := by decide
theorem e25 : ¬ (25 : Int) = 0 := by decide
theorem e26 : ¬ (26 : Int) = 0 := by decide
theorem e27 : ¬ (27 : Int) = 0 := by decide
/-- What a chunk comes to: the file is then so, and the error is er. -/
def Comes (x : HS × Option Int) (P T D : List UInt8) (tr idat : Bool) (t : List UInt8) (er : Int) : Prop :=
  x.1.P = P ∧ x.1.T = T ∧ x.1.D = D ∧ x.1.trans = tr ∧ x.1.idat = idat ∧ x.2 = (if er = 0 then none else some er) ∧ (er = 0 → OkS x.1 t)
section
variable {d c : Int} {e : Bool} {s : HS} {last data : List UInt8}
theorem step_hdr : Comes (stepH d c e (tIHDR, data) s) s.P s.T s.D s.trans s.idat tIHDR 23 := by
  unfold stepH
  rw [if_pos (by rfl)]
  exact ⟨rfl, rfl, rfl, rfl, rfl, rfl, fun h => absurd h e23⟩
theorem step_palC (hok : OkS s last) : Comes (stepH d c e (tPLTE, data) s) (palR d c s.P s.trans s.idat data).2 s.T s.D s.trans s.idat tPLTE (palR d c s.P s.trans s.idat data).1 := by
  unfold stepH palR
  rw [if_neg (show ¬ tPLTE = tIHDR by decide), if_pos (by rfl)]
  by_cases h1 : ¬ s.P = [] ∨ s.trans = true ∨ s.idat = true
  · rw [if_pos h1, if_pos (by rcases h1 with h | h; exact .inl (hok.pal.2 h); exact .inr h)]
    exact ⟨rfl, rfl, rfl, rfl, rfl, rfl, fun h => absurd h e23⟩
  · rw [if_neg h1, if_neg (by intro h; apply h1; rcases h with h | h; exact .inl (hok.pal.1 h); exact .inr h)]
    by_cases h2 : palBad d c data.length
    · rw [if_pos h2, if_pos (by exact h2)]
      exact ⟨rfl, rfl, rfl, rfl, rfl, rfl, fun h => absurd h e25⟩
    · rw [if_neg h2, if_neg (by exact h2)]
      have h3 : ¬ data.length < 3 := fun h => h2 (.inr (.inr (.inr (.inl h))))
      have h4 : ¬ 768 < data.length := fun h => h2 (.inr (.inr (.inr (.inr (.inl h)))))
      refine ⟨rfl, rfl, rfl, rfl, rfl, rfl, fun _ => ⟨?_, ?_, ?_⟩⟩
      · simp only [true_iff]; intro h; rw [h] at h3; simp at h3
      · simp only []
        exact ⟨fun h => ⟨h, by decide⟩, fun h => h.1⟩
      · simp only []; omega
theorem step_trC (hok : OkS s last) : Comes (stepH d c e (tTRNS, data) s) s.P (trR c s.P s.T s.trans s.idat data).2.1 s.D (trR c s.P s.T s.trans s.idat data).2.2 s.idat tTRNS (trR c s.P s.T s.trans s.idat data).1 := by
  unfold stepH trR
  rw [if_neg (show ¬ tTRNS = tIHDR by decide), if_neg (show ¬ tTRNS = tPLTE by decide), if_pos (by rfl)]
  have hp : s.pal = false ↔ s.P = [] := by
    have := hok.pal
    cases hx : s.pal
    · rw [hx] at this; simp only [Bool.false_eq_true, false_iff] at this; simpa using this
    · rw [hx] at this; simp only [true_iff] at this; simpa using this
  by_cases h1 : s.trans = true ∨ s.idat = true ∨ c = 3 ∧ s.P = []
  · rw [if_pos h1, if_pos (by rcases h1 with h | h | h; exact .inl h; exact .inr (.inl h); exact .inr (.inr ⟨h.1, hp.2 h.2⟩))]
    exact ⟨rfl, rfl, rfl, rfl, rfl, rfl, fun h => absurd h e23⟩
  · rw [if_neg h1, if_neg (by intro h; apply h1; rcases h with h | h | h; exact .inl h; exact .inr (.inl h); exact .inr (.inr ⟨h.1, hp.1 h.2⟩))]
    by_cases h2 : trBad c s.P data.length
    · rw [if_pos h2, if_pos (by exact h2)]
      exact ⟨rfl, rfl, rfl, rfl, rfl, rfl, fun h => absurd h e26⟩
    · rw [if_neg h2, if_neg (by exact h2)]
      refine ⟨rfl, rfl, rfl, rfl, rfl, rfl, fun _ => ⟨hok.pal, ?_, hok.len⟩⟩
      simp only []
      exact ⟨fun h => ⟨h, by decide⟩, fun h => h.1⟩
theorem step_datC (hok : OkS s last) : Comes (stepH d c e (tIDAT, data) s) s.P s.T (datR c s.P s.D s.idat last data).2.1 s.trans (datR c s.P s.D s.idat last data).2.2 tIDAT (datR c s.P s.D s.idat last data).1 := by
  unfold stepH datR
  rw [if_neg (show ¬ tIDAT = tIHDR by decide), if_neg (show ¬ tIDAT = tPLTE by decide), if_neg (show ¬ tIDAT = tTRNS by decide), if_pos (by rfl)]
  have hp : s.pal = false ↔ s.P = [] := by
    have := hok.pal
    cases hx : s.pal
    · rw [hx] at this; simp only [Bool.false_eq_true, false_iff] at this; simpa using this
    · rw [hx] at this; simp only [true_iff] at this; simpa using this
  by_cases h1 : c = 3 ∧ s.P = [] ∨ s.idat = true ∧ last ≠ tIDAT
  · rw [if_pos h1, if_pos (by rcases h1 with h | h; exact .inl ⟨h.1, hp.2 h.2⟩; exact .inr (hok.gap.2 h))]
    exact ⟨rfl, rfl, rfl, rfl, rfl, rfl, fun h => absurd h e23⟩
  · rw [if_neg h1]
    have h2 : ¬ (c = 3 ∧ s.pal = false ∨ s.gap = true) := by intro h; apply h1; rcases h with h | h; exact .inl ⟨h.1, hp.1 h.2⟩; exact .inr (hok.gap.1 h)
    rw [if_neg h2]
    refine ⟨rfl, rfl, rfl, rfl, rfl, rfl, fun _ => ⟨hok.pal, ?_, hok.len⟩⟩
    simp only []
    exact ⟨fun h => absurd (.inr h) h2, fun h => absurd rfl h.2⟩
theorem step_othC {t : List UInt8} (hok : OkS s last) (n1 : ¬ t = tIHDR) (n2 : ¬ t = tPLTE) (n3 : ¬ t = tTRNS) (n4 : ¬ t = tIDAT) (n5 : ¬ t = tIEND) : Comes (stepH d c e (t, data) s) s.P s.T s.D s.trans s.idat t (if critT t = true then 27 else 0) := by
  unfold stepH
  rw [if_neg n1, if_neg n2, if_neg n3, if_neg n4, if_neg n5]
  by_cases h : critT t = true
  · rw [if_pos h, if_pos h]
    exact ⟨rfl, rfl, rfl, rfl, rfl, rfl, fun h => absurd h e27⟩
  · rw [if_neg h, if_neg h]
    refine ⟨rfl, rfl, rfl, rfl, rfl, rfl, fun _ => ⟨hok.pal, ?_, hok.len⟩⟩
    simp only []
    exact ⟨fun h => ⟨h, n4⟩, fun h => h.1⟩
end
attribute [local irreducible] strL
theorem FlS.but {w0 w w' : World} {b : Nat} {a h d c l : Int} {P T D : List UInt8} {tr idat : Bool} {last : List UInt8} (hf : FlS w0 w b a h d c l P T D tr idat last) (k : But [] w w') : FlS w0 w' b a h d c l P T D tr idat last := by
  obtain ⟨p, v, f⟩ := hf
  exact ⟨p, v, f.but k⟩
/-- What taking a chunk in leaves. -/
def GotA (w0 w : World) (b : Nat) (a h d c l : Int) (x : HS × Option Int) (last t : List UInt8) (e : Ending) (w' : World) : Prop :=
  ∃ er : Int, e = .returned (.int .i64 er) ∧ FlS w0 w' b a h d c l x.1.P x.1.T x.1.D x.1.trans x.1.idat last ∧ Kp b w w' ∧ x.2 = (if er = 0 then none else some er) ∧ (er = 0 → OkS x.1 t)
theorem GotA.of {w0 w w' : World} {b : Nat} {a h d c l er : Int} {x : HS × Option Int} {P T D last t : List UInt8} {tr idat : Bool} (hx : Comes x P T D tr idat t er) (hf : FlS w0 w' b a h d c l P T D tr idat last) (hk : Kp b w w') : GotA w0 w b a h d c l x last t (.returned (.int .i64 er)) w' := by
  obtain ⟨e1, e2, e3, e4, e5, e6, e7⟩ := hx
  exact ⟨er, rfl, by rw [e1, e2, e3, e4, e5]; exact hf, hk, e6, e7⟩
set_option maxHeartbeats 1000000 in
theorem padd_any {w0 w : World} {b : Nat} {a h d c l : Int} {s : HS} {last : List UInt8} (e : Bool) (t data : List UInt8) (hF : FlS w0 w b a h d c l s.P s.T s.D s.trans s.idat last) (hok : OkS s last) (ht : ¬ t = tIEND)
    (hc : c = 0 ∨ c = 2 ∨ c = 3 ∨ c = 4 ∨ c = 6) (hdep : c = 3 → d = 1 ∨ d = 2 ∨ d = 4 ∨ d = 8) (hm : s.D.length + data.length ≤ 1000000000) (htl : t.length ≤ 140737488351232) :
    Calls Try.prog 33 #[.pointer (some ⟨b, 0, none⟩), .agg #[.string (strL t), .string (strL data)]] w (GotA w0 w b a h d c l (stepH d c e (t, data) s) last t) := by
  have hI := Is.fresh w 30 #[.string (strL t), .string (strL data)]
  have hB := (But.refl [] w).alloc (.cells #[.string (strL t), .string (strL data)] 30)
  have c0 := hI.cell 0
  have c1 := hI.cell 1
  have hF1 := hF.but hB
  have HK := Lib.hid ((Kp.refl b w).but hB)
  have HF1 := Lib.hid hF1
  have hpal := paddPal_any data hF1 hdep (by omega)
  have htr := paddTr_any data hF1 hc (by omega) hok.len
  have hdat := paddDat_any data hF1 hm
  have hcr := fun W => pcrit_any W (s := strL t) (by rw [strL_size]; exact htl)
  simp only [strL_list] at hcr
  obtain ⟨X, hX⟩ : ∃ X, X = strL data := ⟨_, rfl⟩
  have HOK := Lib.hid hok
  by_cases t1 : t = tIHDR
  · have HC := Lib.hid (show Comes (stepH d c e (t, data) s) s.P s.T s.D s.trans s.idat t 23 by rw [t1]; exact step_hdr)
    have e1 : (strL t).toList = [73, 72, 68, 82] := str_eq t1
    have e2 : ((strL t).toList == [73, 72, 68, 82]) = true := by rw [e1]; rfl
    rw [← hX] at c0 c1 HK HF1 ⊢
    obtain ⟨S, hS⟩ : ∃ S, S = strL t := ⟨_, rfl⟩
    rw [← hS] at e1 e2 c0 c1 HK HF1 ⊢
    clear hI hB hF hF1 hpal htr hdat hcr hX hS hok ht hc hdep hm htl t1
    go_enter Try.func33, Try.ntmps33
    go_wp2
    go_ret
    exact GotA.of HC.out HF1.out HK.out
  have n1 := str_ne t1
  by_cases t2 : t = tPLTE
  · have HC := Lib.hid (show Comes (stepH d c e (t, data) s) (palR d c s.P s.trans s.idat data).2 s.T s.D s.trans s.idat t (palR d c s.P s.trans s.idat data).1 by rw [t2]; exact step_palC hok)
    have e1 : (strL t).toList = [80, 76, 84, 69] := str_eq t2
    have e2 : ((strL t).toList == [80, 76, 84, 69]) = true := by rw [e1]; rfl
    rw [← hX] at c0 c1 HK hpal ⊢
    obtain ⟨S, hS⟩ : ∃ S, S = strL t := ⟨_, rfl⟩
    rw [← hS] at e1 e2 c0 c1 HK hpal n1 ⊢
    obtain ⟨f1, f2⟩ : ¬ S.toList = [73, 72, 68, 82] ∧ (S.toList == [73, 72, 68, 82]) = false := n1
    have HP := Lib.hid hpal
    clear hI hB hF hF1 HF1 hpal htr hdat hcr hX hS hok ht hc hdep hm htl t1 t2
    go_enter Try.func33, Try.ntmps33
    go_wp2_with fail
    refine HP.out.mono ?_
    rintro e w2 ⟨rfl, hf, hk⟩
    have HF2 := Lib.hid hf
    have HK2 := Lib.hid hk
    clear hf hk
    go_wp2
    go_ret
    exact GotA.of HC.out HF2.out (HK.out.trans HK2.out)
  have n2 := str_ne t2
  by_cases t3 : t = tTRNS
  · have HC := Lib.hid (show Comes (stepH d c e (t, data) s) s.P (trR c s.P s.T s.trans s.idat data).2.1 s.D (trR c s.P s.T s.trans s.idat data).2.2 s.idat t (trR c s.P s.T s.trans s.idat data).1 by rw [t3]; exact step_trC hok)
    have e1 : (strL t).toList = [116, 82, 78, 83] := str_eq t3
    have e2 : ((strL t).toList == [116, 82, 78, 83]) = true := by rw [e1]; rfl
    rw [← hX] at c0 c1 HK htr ⊢
    obtain ⟨S, hS⟩ : ∃ S, S = strL t := ⟨_, rfl⟩
    rw [← hS] at e1 e2 c0 c1 HK htr n1 n2 ⊢
    obtain ⟨f1, f2⟩ : ¬ S.toList = [73, 72, 68, 82] ∧ (S.toList == [73, 72, 68, 82]) = false := n1
    obtain ⟨f3, f4⟩ : ¬ S.toList = [80, 76, 84, 69] ∧ (S.toList == [80, 76, 84, 69]) = false := n2
    have HP := Lib.hid htr
    clear hI hB hF hF1 HF1 hpal htr hdat hcr hX hS hok ht hc hdep hm htl t1 t2 t3
    go_enter Try.func33, Try.ntmps33
    go_wp2_with fail
    refine HP.out.mono ?_
    rintro e w2 ⟨rfl, hf, hk⟩
    have HF2 := Lib.hid hf
    have HK2 := Lib.hid hk
    clear hf hk
    go_wp2
    go_ret
    exact GotA.of HC.out HF2.out (HK.out.trans HK2.out)
  have n3 := str_ne t3
  by_cases t4 : t = tIDAT
  · have HC := Lib.hid (show Comes (stepH d c e (t, data) s) s.P s.T (datR c s.P s.D s.idat last data).2.1 s.trans (datR c s.P s.D s.idat last data).2.2 t (datR c s.P s.D s.idat last data).1 by rw [t4]; exact step_datC hok)
    have e1 : (strL t).toList = [73, 68, 65, 84] := str_eq t4
    have e2 : ((strL t).toList == [73, 68, 65, 84]) = true := by rw [e1]; rfl
    rw [← hX] at c0 c1 HK hdat ⊢
    obtain ⟨S, hS⟩ : ∃ S, S = strL t := ⟨_, rfl⟩
    rw [← hS] at e1 e2 c0 c1 HK hdat n1 n2 n3 ⊢
    obtain ⟨f1, f2⟩ : ¬ S.toList = [73, 72, 68, 82] ∧ (S.toList == [73, 72, 68, 82]) = false := n1
    obtain ⟨f3, f4⟩ : ¬ S.toList = [80, 76, 84, 69] ∧ (S.toList == [80, 76, 84, 69]) = false := n2
    obtain ⟨f5, f6⟩ : ¬ S.toList = [116, 82, 78, 83] ∧ (S.toList == [116, 82, 78, 83]) = false := n3
    have HP := Lib.hid hdat
    clear hI hB hF hF1 HF1 hpal htr hdat hcr hX hS hok ht hc hdep hm htl t1 t2 t3 t4
    go_enter Try.func33, Try.ntmps33
    go_wp2_with fail
    refine HP.out.mono ?_
    rintro e w2 ⟨rfl, hf, hk⟩
    have HF2 := Lib.hid hf
    have HK2 := Lib.hid hk
    clear hf hk
    go_wp2
    go_ret
    exact GotA.of HC.out HF2.out (HK.out.trans HK2.out)
  have n4 := str_ne t4
  have HC := Lib.hid (step_othC (d := d) (c := c) (e := e) (data := data) hok t1 t2 t3 t4 ht)
  rw [← hX] at c0 c1 HK HF1 ⊢
  obtain ⟨S, hS⟩ : ∃ S, S = strL t := ⟨_, rfl⟩
  rw [← hS] at c0 c1 HK HF1 n1 n2 n3 n4 ⊢
  simp only [← hS] at hcr
  obtain ⟨f1, f2⟩ : ¬ S.toList = [73, 72, 68, 82] ∧ (S.toList == [73, 72, 68, 82]) = false := n1
  obtain ⟨f3, f4⟩ : ¬ S.toList = [80, 76, 84, 69] ∧ (S.toList == [80, 76, 84, 69]) = false := n2
  obtain ⟨f5, f6⟩ : ¬ S.toList = [116, 82, 78, 83] ∧ (S.toList == [116, 82, 78, 83]) = false := n3
  obtain ⟨f7, f8⟩ : ¬ S.toList = [73, 68, 65, 84] ∧ (S.toList == [73, 68, 65, 84]) = false := n4
  by_cases hcrit : critT t = true
  · rw [if_pos hcrit] at HC
    simp only [hcrit] at hcr
    have HCR := Lib.hid hcr
    clear hI hB hF hF1 hpal htr hdat hcr hX hS hok ht hc hdep hm htl t1 t2 t3 t4 hcrit
    go_enter Try.func33, Try.ntmps33
    go_wp2_with (go_at_call 38; refine (HCR.out _).mono ?_; rintro e w1 ⟨rfl, hw⟩; subst hw)
    go_ret
    exact GotA.of HC.out HF1.out HK.out
  · rw [if_neg hcrit] at HC
    simp only [show critT t = false by simpa using hcrit] at hcr
    have HCR := Lib.hid hcr
    clear hI hB hF hF1 hpal htr hdat hcr hX hS hok ht hc hdep hm htl t1 t2 t3 t4 hcrit
    go_enter Try.func33, Try.ntmps33
    go_wp2_with (go_at_call 38; refine (HCR.out _).mono ?_; rintro e w1 ⟨rfl, hw⟩; subst hw)
    go_ret
    exact GotA.of HC.out HF1.out HK.out
end Go.Proofs.Ytedffeimcccobaa
