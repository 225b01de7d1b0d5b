/- What the program's file takes in: palettes, transparencies, data; the end. -/
import Derived.Test.YtedffeimcccobaaHpE
import Derived.Test.YtedffeimcccobaaHpF
import Derived.Test.YtedffeimcccobaaCkS
set_option maxRecDepth 100000
set_option linter.unusedVariables false
namespace Go.Proofs.Ytedffeimcccobaa
set_option maxRecDepth 100000
open Go Go.RowKit
attribute [local irreducible] strL
section
variable {w0 w w' : World} {b : Nat} {x0 x1 x2 x3 x4 x5 x6 x7 p v x10 x11 : Value} {D : List UInt8}
theorem FbS.but (h : FbS w0 w b x0 x1 x2 x3 x4 x5 x6 x7 p v x10 x11 D) (k : But [] w w') : FbS w0 w' b x0 x1 x2 x3 x4 x5 x6 x7 p v x10 x11 D :=
  ⟨h.1, h.2.1.trans k, h.2.2.1, h.2.2.2.1.but k (by simp), h.2.2.2.2.1.but k, h.2.2.2.2.2⟩
theorem Fb_put (h : FbS w0 w b x0 x1 x2 x3 x4 x5 x6 x7 p v x10 x11 D) (i : Nat) (u : Value) :
    But [] w0 (w.setCell ⟨b, i, none⟩ u) ∧ Is (w.setCell ⟨b, i, none⟩ u) b 56 (#[x0, x1, x2, x3, x4, x5, x6, x7, p, v, x10, x11].setIfInBounds i u) ∧ OwnY (w.setCell ⟨b, i, none⟩ u) w0.heap.size v D :=
  ⟨h.2.1.setCell (p := ⟨b, i, none⟩) (.inr h.1) u, h.2.2.2.1.put i u, ownsRow_but (S := [b]) h.2.2.2.2.1 ((But.refl [b] w).setCell (p := ⟨b, i, none⟩) (.inl (by simp)) u) (fun g e hm => h.2.2.2.2.2 (by rw [List.mem_singleton.1 hm] at e; exact e.symm))⟩
theorem FbS.put5 (h : FbS w0 w b x0 x1 x2 x3 x4 x5 x6 x7 p v x10 x11 D) (u : Value) : FbS w0 (w.setCell ⟨b, 5, none⟩ u) b x0 x1 x2 x3 x4 u x6 x7 p v x10 x11 D :=
  ⟨h.1, (Fb_put h 5 u).1, h.2.2.1, (Fb_put h 5 u).2.1, (Fb_put h 5 u).2.2, h.2.2.2.2.2⟩
theorem FbS.put6 (h : FbS w0 w b x0 x1 x2 x3 x4 x5 x6 x7 p v x10 x11 D) (u : Value) : FbS w0 (w.setCell ⟨b, 6, none⟩ u) b x0 x1 x2 x3 x4 x5 u x7 p v x10 x11 D :=
  ⟨h.1, (Fb_put h 6 u).1, h.2.2.1, (Fb_put h 6 u).2.1, (Fb_put h 6 u).2.2, h.2.2.2.2.2⟩
theorem FbS.put7 (h : FbS w0 w b x0 x1 x2 x3 x4 x5 x6 x7 p v x10 x11 D) (u : Value) : FbS w0 (w.setCell ⟨b, 7, none⟩ u) b x0 x1 x2 x3 x4 x5 x6 u p v x10 x11 D :=
  ⟨h.1, (Fb_put h 7 u).1, h.2.2.1, (Fb_put h 7 u).2.1, (Fb_put h 7 u).2.2, h.2.2.2.2.2⟩
theorem FbS.put10 (h : FbS w0 w b x0 x1 x2 x3 x4 x5 x6 x7 p v x10 x11 D) (u : Value) : FbS w0 (w.setCell ⟨b, 10, none⟩ u) b x0 x1 x2 x3 x4 x5 x6 x7 p v u x11 D :=
  ⟨h.1, (Fb_put h 10 u).1, h.2.2.1, (Fb_put h 10 u).2.1, (Fb_put h 10 u).2.2, h.2.2.2.2.2⟩
theorem FbS.put11 (h : FbS w0 w b x0 x1 x2 x3 x4 x5 x6 x7 p v x10 x11 D) (u : Value) : FbS w0 (w.setCell ⟨b, 11, none⟩ u) b x0 x1 x2 x3 x4 x5 x6 x7 p v x10 u D :=
  ⟨h.1, (Fb_put h 11 u).1, h.2.2.1, (Fb_put h 11 u).2.1, (Fb_put h 11 u).2.2, h.2.2.2.2.2⟩
end
/-- The file so far. -/
def FlS (w0 w : World) (b : Nat) (a h d c l : Int) (P T D : List UInt8) (tr idat : Bool) (last : List UInt8) : Prop :=
  ∃ p v, FbS w0 w b (.int .i64 a) (.int .i64 h) (.int .i64 d) (.int .i64 c) (.int .i64 l) (.string (strL P)) (.string (strL T)) (.bool tr) p v (.bool idat) (.string (strL last)) D
/-- How a string that is empty, or is not, is tested. -/
theorem strE_yes {P : List UInt8} (h : P = []) : (strL P).toList = [] ∧ ((strL P).toList == []) = true ∧ (strL P).toList.isEmpty = true ∧ (!((strL P).toList == [])) = false := by
  have e : (strL P).toList = [] := (str_empty P).2 h
  rw [e]; exact ⟨rfl, rfl, rfl, rfl⟩
theorem strE_no {P : List UInt8} (h : ¬ P = []) : ¬ (strL P).toList = [] ∧ ((strL P).toList == []) = false ∧ (strL P).toList.isEmpty = false ∧ (!((strL P).toList == [])) = true := by
  have e : ¬ (strL P).toList = [] := fun h2 => h ((str_empty P).1 h2)
  refine ⟨e, by simpa using e, by simpa using e, by simpa using e⟩
section
variable {w0 w : World} {b : Nat} {a h d c l : Int} {P T D : List UInt8} {tr idat : Bool} {last : List UInt8}
def palR (d c : Int) (P : List UInt8) (tr idat : Bool) (data : List UInt8) : Int × List UInt8 := if ¬ P = [] ∨ tr = true ∨ idat = true then (23, P) else if palBad d c data.length then (25, P) else (0, data)
set_option maxHeartbeats 1000000 in
theorem paddPal_any (data : List UInt8) (hF : FlS w0 w b a h d c l P T D tr idat last) (hdep : c = 3 → d = 1 ∨ d = 2 ∨ d = 4 ∨ d = 8) (hm : data.length ≤ 1000000000) :
    Calls Try.prog 35 #[.pointer (some ⟨b, 0, none⟩), .string (strL data)] w fun e w' => e = .returned (.int .i64 (palR d c P tr idat data).1) ∧ FlS w0 w' b a h d c l (palR d c P tr idat data).2 T D tr idat last ∧ Kp b w w' := by
  obtain ⟨p, v, hf⟩ := hF
  obtain ⟨r, hr⟩ : ∃ r, r = palR d c P tr idat data := ⟨_, rfl⟩
  rw [← hr]
  have hI := hf.2.2.2.1
  have c5 := hI.cell 5
  have c7 := hI.cell 7
  have c10 := hI.cell 10
  have HF := Lib.hid hf
  have HR := Lib.hid hr
  have HK := Lib.hid (Kp.refl b w)
  have HI := Lib.hid hI
  have HDEP := Lib.hid hdep
  have HM := Lib.hid hm
  clear hf hr hI hdep hm
  by_cases hP : P = []
  rotate_left
  · have HE := Lib.hid (show r = (23, P) by rw [HR.out]; unfold palR; rw [if_pos (.inl hP)])
    obtain ⟨e1, e2, e3, e4⟩ := strE_no hP
    obtain ⟨S, hS⟩ : ∃ S, S = strL P := ⟨_, rfl⟩
    rw [← hS] at e1 e2 e3 e4 c5
    clear hS hP
    go_enter Try.func35, Try.ntmps35
    go_wp2
    go_ret
    exact ⟨by rw [HE.out]; rfl, by rw [HE.out]; exact ⟨_, _, HF.out⟩, HK.out⟩
  obtain ⟨e1, e2, e3, e4⟩ := strE_yes hP
  cases tr
  rotate_left
  · have HE := Lib.hid (show r = (23, P) by rw [HR.out]; unfold palR; rw [if_pos (.inr (.inl rfl))])
    obtain ⟨S, hS⟩ : ∃ S, S = strL P := ⟨_, rfl⟩
    rw [← hS] at e1 e2 e3 e4 c5
    clear hS hP
    go_enter Try.func35, Try.ntmps35
    go_wp2
    go_ret
    exact ⟨by rw [HE.out]; rfl, by rw [HE.out]; exact ⟨_, _, HF.out⟩, HK.out⟩
  cases idat
  rotate_left
  · have HE := Lib.hid (show r = (23, P) by rw [HR.out]; unfold palR; rw [if_pos (.inr (.inr rfl))])
    obtain ⟨S, hS⟩ : ∃ S, S = strL P := ⟨_, rfl⟩
    rw [← hS] at e1 e2 e3 e4 c5
    clear hS hP
    go_enter Try.func35, Try.ntmps35
    go_wp2
    go_ret
    exact ⟨by rw [HE.out]; rfl, by rw [HE.out]; exact ⟨_, _, HF.out⟩, HK.out⟩
  have hsz : (strL data).size = data.length := strL_size data
  have c0 := HI.out.cell 0
  have c1 := HI.out.cell 1
  have c2 := HI.out.cell 2
  have c3 := HI.out.cell 3
  have c4 := HI.out.cell 4
  have hp := fun W => ppal_any W (a := a) (b := h) (d := d) (c := c) (l := l) (m := data.length) HDEP.out (by have := HM.out; omega)
  have hcl := fun W => pclone_any W (s := strL data) (by rw [strL_size]; have := HM.out; omega)
  obtain ⟨z, hz⟩ : ∃ z, z = data.length := ⟨_, rfl⟩
  have HZ := Lib.hid hz
  rw [← hz] at hsz
  simp only [← hz] at hp
  obtain ⟨X, hX⟩ : ∃ S, S = strL data := ⟨_, rfl⟩
  simp only [← hX] at hcl
  rw [← hX] at hsz
  rw [← hX]
  have HX := Lib.hid hX
  have HP := Lib.hid hP
  obtain ⟨S, hS⟩ : ∃ S, S = strL P := ⟨_, rfl⟩
  rw [← hS] at e1 e2 e3 e4 c5
  clear hS hP hz hX
  by_cases hbad : palBad d c z
  · have HE := Lib.hid (show r = (25, P) by rw [HR.out]; unfold palR; rw [if_neg (by rw [HP.out]; simp), if_pos (by rw [← HZ.out]; exact hbad)])
    simp only [hbad, not_true_eq_false, decide_false] at hp
    have HPF := Lib.hid hp
    clear hp hbad hcl
    go_enter Try.func35, Try.ntmps35
    go_wp2_with (go_at_call 39; refine (HPF.out _).mono ?_; rintro e w1 ⟨rfl, hB⟩; have HB := Lib.hid hB; clear hB)
    go_ret
    exact ⟨by rw [HE.out]; rfl, by rw [HE.out]; exact ⟨_, _, HF.out.but HB.out⟩, HK.out.but HB.out⟩
  · have HE := Lib.hid (show r = (0, data) by rw [HR.out]; unfold palR; rw [if_neg (by rw [HP.out]; simp), if_neg (by rw [← HZ.out]; exact hbad)])
    simp only [hbad, not_false_eq_true, decide_true] at hp
    have HPF := Lib.hid hp
    have HCL := Lib.hid hcl
    clear hp hbad hcl
    go_enter Try.func35, Try.ntmps35
    go_wp2_with (go_at_call 39; refine (HPF.out _).mono ?_; rintro e w1 ⟨rfl, hB⟩; have HB := Lib.hid hB; clear hB)
    refine (HCL.out _).mono ?_
    rintro e w2 ⟨rfl, hB2⟩
    have hf2 := (HF.out.but HB.out).but hB2
    have HK2 := Lib.hid ((HK.out.but HB.out).but hB2)
    have f5 := hf2.2.2.2.1.free 5
    have k5 := hf2.2.2.2.1.cell 5
    have HF2 := Lib.hid hf2
    clear hB2 hf2
    go_wp2
    go_ret
    exact ⟨by rw [HE.out]; rfl, by rw [HE.out, HX.out]; exact ⟨_, _, HF2.out.put5 _⟩, HK2.out.set 5 _⟩
def trR (c : Int) (P T : List UInt8) (tr idat : Bool) (data : List UInt8) : Int × List UInt8 × Bool := if tr = true ∨ idat = true ∨ c = 3 ∧ P = [] then (23, T, tr) else if trBad c P data.length then (26, T, tr) else (0, data, true)
set_option maxHeartbeats 1000000 in
theorem paddTr_any (data : List UInt8) (hF : FlS w0 w b a h d c l P T D tr idat last) (hc : c = 0 ∨ c = 2 ∨ c = 3 ∨ c = 4 ∨ c = 6) (hm : data.length ≤ 1000000000) (hPl : P.length ≤ 768) :
    Calls Try.prog 36 #[.pointer (some ⟨b, 0, none⟩), .string (strL data)] w fun e w' => e = .returned (.int .i64 (trR c P T tr idat data).1) ∧ FlS w0 w' b a h d c l P (trR c P T tr idat data).2.1 D (trR c P T tr idat data).2.2 idat last ∧ Kp b w w' := by
  obtain ⟨p, v, hf⟩ := hF
  obtain ⟨r, hr⟩ : ∃ r, r = trR c P T tr idat data := ⟨_, rfl⟩
  rw [← hr]
  have hI := hf.2.2.2.1
  have c7 := hI.cell 7
  have c10 := hI.cell 10
  have HF := Lib.hid hf
  have HR := Lib.hid hr
  have HK := Lib.hid (Kp.refl b w)
  have HI := Lib.hid hI
  have HC := Lib.hid hc
  have HM := Lib.hid hm
  have HPL := Lib.hid hPl
  clear hf hr hI hc hm hPl
  cases tr
  rotate_left
  · have HE := Lib.hid (show r = (23, T, true) by rw [HR.out]; unfold trR; rw [if_pos (.inl rfl)])
    go_enter Try.func36, Try.ntmps36
    go_wp2
    go_ret
    exact ⟨by rw [HE.out]; rfl, by rw [HE.out]; exact ⟨_, _, HF.out⟩, HK.out⟩
  cases idat
  rotate_left
  · have HE := Lib.hid (show r = (23, T, false) by rw [HR.out]; unfold trR; rw [if_pos (.inr (.inl rfl))])
    go_enter Try.func36, Try.ntmps36
    go_wp2
    go_ret
    exact ⟨by rw [HE.out]; rfl, by rw [HE.out]; exact ⟨_, _, HF.out⟩, HK.out⟩
  have hl := placks_any w (b := b) (c := c) (P := P) (HI.out.cell 3) (HI.out.cell 5)
  by_cases hlk : c = 3 ∧ P = []
  · have HE := Lib.hid (show r = (23, T, false) by rw [HR.out]; unfold trR; rw [if_pos (.inr (.inr hlk))])
    rw [decide_eq_true hlk] at hl
    have HL := Lib.hid hl
    clear hl hlk
    go_enter Try.func36, Try.ntmps36
    go_wp2_with (go_at_call 41; refine HL.out.mono ?_; rintro e w1 ⟨rfl, hw⟩; subst hw)
    go_ret
    exact ⟨by rw [HE.out]; rfl, by rw [HE.out]; exact ⟨_, _, HF.out⟩, HK.out⟩
  rw [decide_eq_false hlk] at hl
  have HL := Lib.hid hl
  have HLK := Lib.hid hlk
  clear hl hlk
  have hsz : (strL data).size = data.length := strL_size data
  have c0 := HI.out.cell 0
  have c1 := HI.out.cell 1
  have c2 := HI.out.cell 2
  have c3 := HI.out.cell 3
  have c4 := HI.out.cell 4
  have c5 := HI.out.cell 5
  have c6 := HI.out.cell 6
  have hp := fun W => ptr_any W (a := a) (b := h) (d := d) (c := c) (l := l) (P := P) (T := T) (tr := false) (m := data.length) HC.out (by have := HM.out; omega) HPL.out
  have hcl := fun W => pclone_any W (s := strL data) (by rw [strL_size]; have := HM.out; omega)
  obtain ⟨z, hz⟩ : ∃ z, z = data.length := ⟨_, rfl⟩
  have HZ := Lib.hid hz
  rw [← hz] at hsz
  simp only [← hz] at hp
  obtain ⟨X, hX⟩ : ∃ S, S = strL data := ⟨_, rfl⟩
  simp only [← hX] at hcl
  rw [← hX] at hsz
  rw [← hX]
  have HX := Lib.hid hX
  obtain ⟨S, hS⟩ : ∃ S, S = strL P := ⟨_, rfl⟩
  rw [← hS] at c5
  simp only [← hS] at hp
  obtain ⟨U, hU⟩ : ∃ S, S = strL T := ⟨_, rfl⟩
  rw [← hU] at c6
  simp only [← hU] at hp
  clear hS hz hX hU
  by_cases hbad : trBad c P z
  · have HE := Lib.hid (show r = (26, T, false) by rw [HR.out]; unfold trR; rw [if_neg (by rintro (h | h | h); cases h; cases h; exact HLK.out h), if_pos (by rw [← HZ.out]; exact hbad)])
    simp only [hbad, not_true_eq_false, decide_false] at hp
    have HPF := Lib.hid hp
    clear hp hbad hcl
    go_enter Try.func36, Try.ntmps36
    go_wp2_with (first | (go_at_call 41; refine HL.out.mono ?_; rintro e w1 ⟨rfl, hw⟩; subst hw) | (go_at_call 42; refine (HPF.out _).mono ?_; rintro e w1 ⟨rfl, hB⟩; have HB := Lib.hid hB; clear hB))
    go_ret
    exact ⟨by rw [HE.out]; rfl, by rw [HE.out]; exact ⟨_, _, HF.out.but HB.out⟩, HK.out.but HB.out⟩
  · have HE := Lib.hid (show r = (0, data, true) by rw [HR.out]; unfold trR; rw [if_neg (by rintro (h | h | h); cases h; cases h; exact HLK.out h), if_neg (by rw [← HZ.out]; exact hbad)])
    simp only [hbad, not_false_eq_true, decide_true] at hp
    have HPF := Lib.hid hp
    have HCL := Lib.hid hcl
    clear hp hbad hcl
    go_enter Try.func36, Try.ntmps36
    go_wp2_with (first | (go_at_call 41; refine HL.out.mono ?_; rintro e w1 ⟨rfl, hw⟩; subst hw) | (go_at_call 42; refine (HPF.out _).mono ?_; rintro e w1 ⟨rfl, hB⟩; have HB := Lib.hid hB; clear hB))
    refine (HCL.out _).mono ?_
    rintro e w2 ⟨rfl, hB2⟩
    have hf2 := (HF.out.but HB.out).but hB2
    have HK2 := Lib.hid ((HK.out.but HB.out).but hB2)
    have f6 := hf2.2.2.2.1.free 6
    have k6 := hf2.2.2.2.1.cell 6
    have f7 := hf2.2.2.2.1.free 7
    have k7 := hf2.2.2.2.1.cell 7
    have HF2 := Lib.hid hf2
    clear hB2 hf2
    go_wp2
    go_ret
    exact ⟨by rw [HE.out]; rfl, by rw [HE.out, HX.out]; exact ⟨_, _, (HF2.out.put6 _).put7 _⟩, (HK2.out.set 6 _).set 7 _⟩
def datR (c : Int) (P D : List UInt8) (idat : Bool) (last data : List UInt8) : Int × List UInt8 × Bool := if c = 3 ∧ P = [] ∨ idat = true ∧ last ≠ tIDAT then (23, D, idat) else (0, D ++ data, true)
set_option maxHeartbeats 1000000 in
theorem paddDat_any (data : List UInt8) (hF : FlS w0 w b a h d c l P T D tr idat last) (hm : D.length + data.length ≤ 1000000000) :
    Calls Try.prog 37 #[.pointer (some ⟨b, 0, none⟩), .string (strL data)] w fun e w' => e = .returned (.int .i64 (datR c P D idat last data).1) ∧ FlS w0 w' b a h d c l P T (datR c P D idat last data).2.1 tr (datR c P D idat last data).2.2 last ∧ Kp b w w' := by
  obtain ⟨p, v, hf⟩ := hF
  obtain ⟨r, hr⟩ : ∃ r, r = datR c P D idat last data := ⟨_, rfl⟩
  rw [← hr]
  have hI := hf.2.2.2.1
  have c10 := hI.cell 10
  have c11 := hI.cell 11
  have hl := placks_any w (b := b) (c := c) (P := P) (hI.cell 3) (hI.cell 5)
  have hput := fbld_put data hf (by omega)
  have HF := Lib.hid hf
  have HR := Lib.hid hr
  have HK := Lib.hid (Kp.refl b w)
  clear hf hr hI hm
  by_cases hlk : c = 3 ∧ P = []
  · have HE := Lib.hid (show r = (23, D, idat) by rw [HR.out]; unfold datR; rw [if_pos (.inl hlk)])
    rw [decide_eq_true hlk] at hl
    have HL := Lib.hid hl
    clear hl hlk hput
    go_enter Try.func37, Try.ntmps37
    go_wp2_with (go_at_call 41; refine HL.out.mono ?_; rintro e w1 ⟨rfl, hw⟩; subst hw)
    go_ret
    exact ⟨by rw [HE.out]; rfl, by rw [HE.out]; exact ⟨_, _, HF.out⟩, HK.out⟩
  rw [decide_eq_false hlk] at hl
  have HL := Lib.hid hl
  have HLK := Lib.hid hlk
  clear hl hlk
  have fin : ∀ (hn : ¬ (idat = true ∧ last ≠ tIDAT)), r = (0, D ++ data, true) := fun hn => by rw [HR.out]; unfold datR; rw [if_neg (by rintro (h | h); exact HLK.out h; exact hn h)]
  have HPUT := Lib.hid hput
  have HFIN := Lib.hid fin
  clear hput fin
  obtain ⟨X, hX⟩ : ∃ S, S = strL data := ⟨_, rfl⟩
  rw [← hX] at HPUT ⊢
  clear hX
  obtain ⟨S, hS⟩ : ∃ S, S = strL last := ⟨_, rfl⟩
  rw [← hS] at c11
  cases idat
  · have HE := Lib.hid (HFIN.out (by simp))
    clear hS
    go_enter Try.func37, Try.ntmps37
    go_wp2_with (go_at_call 41; refine HL.out.mono ?_; rintro e w1 ⟨rfl, hw⟩; subst hw)
    refine HPUT.out.mono ?_
    rintro e w2 ⟨rfl, v2, hf2, hk2⟩
    have f10 := hf2.2.2.2.1.free 10
    have k10 := hf2.2.2.2.1.cell 10
    have HF2 := Lib.hid hf2
    have HK2 := Lib.hid hk2
    clear hf2 hk2
    go_wp2
    go_ret
    exact ⟨by rw [HE.out]; rfl, by rw [HE.out]; exact ⟨_, _, HF2.out.put10 _⟩, HK2.out.set 10 _⟩
  · by_cases hla : last = tIDAT
    · have HE := Lib.hid (HFIN.out (fun h => h.2 hla))
      have e1 : S.toList = [73, 68, 65, 84] := by rw [hS]; exact str_eq hla
      have e2 : (S.toList == [73, 68, 65, 84]) = true := by rw [e1]; rfl
      have e4 : (!(S.toList == [73, 68, 65, 84])) = false := by rw [e2]; rfl
      clear hS hla
      go_enter Try.func37, Try.ntmps37
      go_wp2_with (go_at_call 41; refine HL.out.mono ?_; rintro e w1 ⟨rfl, hw⟩; subst hw)
      refine HPUT.out.mono ?_
      rintro e w2 ⟨rfl, v2, hf2, hk2⟩
      have f10 := hf2.2.2.2.1.free 10
      have k10 := hf2.2.2.2.1.cell 10
      have HF2 := Lib.hid hf2
      have HK2 := Lib.hid hk2
      clear hf2 hk2
      go_wp2
      go_ret
      exact ⟨by rw [HE.out]; rfl, by rw [HE.out]; exact ⟨_, _, HF2.out.put10 _⟩, HK2.out.set 10 _⟩
    · have HE := Lib.hid (show r = (23, D, true) by rw [HR.out]; unfold datR; rw [if_pos (.inr ⟨rfl, hla⟩)])
      have e0 := str_ne hla
      rw [← hS] at e0
      obtain ⟨e1, e2⟩ : ¬ S.toList = [73, 68, 65, 84] ∧ (S.toList == [73, 68, 65, 84]) = false := e0
      have e4 : (!(S.toList == [73, 68, 65, 84])) = true := by rw [e2]; rfl
      clear hS hla
      go_enter Try.func37, Try.ntmps37
      go_wp2_with (go_at_call 41; refine HL.out.mono ?_; rintro e w1 ⟨rfl, hw⟩; subst hw)
      go_ret
      exact ⟨by rw [HE.out]; rfl, by rw [HE.out]; exact ⟨_, _, HF.out⟩, HK.out⟩
def endR (idat : Bool) (data : List UInt8) (n : Nat) : Int := if data.length ≠ 0 then 21 else if idat = false then 23 else if n ≠ 0 then 4 else 0
theorem pend_any (data : List UInt8) (n : Nat) (hc : w.cell? ⟨b, 10, none⟩ = some (.bool idat)) :
    Calls Try.prog 32 #[.pointer (some ⟨b, 0, none⟩), .string (strL data), .int .i64 (n : Int)] w fun e w' => e = .returned (.int .i64 (endR idat data n)) ∧ w = w' := by
  obtain ⟨r, hr⟩ : ∃ r, r = endR idat data n := ⟨_, rfl⟩
  rw [← hr]
  have HR := Lib.hid hr
  clear hr
  by_cases hd : data = []
  rotate_left
  · have HE := Lib.hid (show r = 21 by rw [HR.out]; unfold endR; rw [if_pos (fun h => hd (List.eq_nil_of_length_eq_zero h))])
    obtain ⟨e1, e2, e3, e4⟩ := strE_no hd
    obtain ⟨S, hS⟩ : ∃ S, S = strL data := ⟨_, rfl⟩
    rw [← hS] at e1 e2 e3 e4 ⊢
    clear hS hd
    go_enter Try.func32, Try.ntmps32
    go_wp2
    go_ret
    exact ⟨by rw [HE.out]; rfl, rfl⟩
  have hd0 : ¬ data.length ≠ 0 := by rw [hd]; simp
  obtain ⟨e1, e2, e3, e4⟩ := strE_yes hd
  obtain ⟨S, hS⟩ : ∃ S, S = strL data := ⟨_, rfl⟩
  rw [← hS] at e1 e2 e3 e4 ⊢
  clear hS hd
  cases idat
  · have HE := Lib.hid (show r = 23 by rw [HR.out]; unfold endR; rw [if_neg hd0, if_pos rfl])
    clear hd0
    go_enter Try.func32, Try.ntmps32
    go_wp2
    go_ret
    exact ⟨by rw [HE.out]; rfl, rfl⟩
  · by_cases hn : n = 0
    · have HE := Lib.hid (show r = 0 by rw [HR.out]; unfold endR; rw [if_neg hd0, if_neg (by simp), if_neg (fun h => h hn)])
      have dn : ((n : Int) != 0) = false := by simp; omega
      clear hd0 hn
      go_enter Try.func32, Try.ntmps32
      go_wp2
      go_ret
      exact ⟨by rw [HE.out]; rfl, rfl⟩
    · have HE := Lib.hid (show r = 4 by rw [HR.out]; unfold endR; rw [if_neg hd0, if_neg (by simp), if_pos hn])
      have dn : ((n : Int) != 0) = true := by simp; omega
      clear hd0 hn
      go_enter Try.func32, Try.ntmps32
      go_wp2
      go_ret
      exact ⟨by rw [HE.out]; rfl, rfl⟩
end
end Go.Proofs.Ytedffeimcccobaa
