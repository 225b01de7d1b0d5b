/- The document's hash of bytes. -/
import Derived.Test.YtgemmidkfeebfaaDoorHaN
import Derived.Test.YtgemmidkfeebfaaDoorHaO
import Derived.Test.YtgemmidkfeebfaaDoorHaP
import Derived.Test.YtgemmidkfeebfaaDoorHaQ
set_option maxRecDepth 1000000
set_option linter.unusedVariables false
namespace Go.Proofs.YtgemmidkfeebfaaDoor
set_option maxRecDepth 100000
open Go Go.RowKit
theorem VI.own {w : World} {base : Nat} {v : Value} {hs : List Nat} (hl : hs.length = 8) (h : w.ownsRow base 3 1 v 8 (nCells hs)) : ∃ gv cv, v = .slice (some ⟨gv, 0, none⟩) 8 cv ∧ base ≤ gv ∧ VI w gv hs := by
  obtain ⟨g, cap, e, h1, h2⟩ := h.form (by omega)
  refine ⟨g, cap, e, (World.ownsRow.lt h g (by rw [e]; rfl)).1, fun i hi => ?_⟩
  subst e
  have hc := World.ownsRow.cells h (g := g) rfl i (.int .i64 (hs.getD i 0 : Nat)) (by
    unfold nCells
    rw [List.getElem?_map, List.getElem?_eq_getElem (by omega), List.getD_eq_getElem?_getD, List.getElem?_eq_getElem (by omega)]
    rfl)
  have e2 : (⟨g, 0, none⟩ : Addr).add i = ⟨g, i, none⟩ := by unfold Addr.add; split <;> simp_all
  rw [e2] at hc
  exact hc
theorem news_row {w : World} {g : Nat} {hs : List Nat} (hl : hs.length = 8) (h : Is w g 3 (rowZ hs 8)) : ∀ (j : Nat) u, (nCells hs)[j]? = some u → w.cell? ((⟨g, 0, none⟩ : Addr).add j) = some u := by
  intro j u hj
  have e2 : (⟨g, 0, none⟩ : Addr).add j = ⟨g, j, none⟩ := by unfold Addr.add; split <;> simp_all
  rw [e2, h.cell]
  unfold rowZ
  rw [hl, Nat.sub_self, List.replicate_zero, List.append_nil, List.getElem?_toArray]
  exact hj
theorem SB.of {w : World} {g n : Nat} {S : List UInt8} (h : ByteRow w (some ⟨g, 0, none⟩) n S) : SB w g 0 n S := by
  refine ⟨h.1, fun i hi => ?_⟩
  obtain ⟨g2, o2, e, hc⟩ := h.2 (by omega)
  injection e with e
  injection e with e1 e2
  subst e1 e2
  have hi2 : i < S.length := by rw [h.1]; exact hi
  rw [hc i hi2, getD_lt hi2]
theorem SB.lt {w : World} {g o n : Nat} {S : List UInt8} (h : SB w g o n S) (hn : 0 < n) : g < w.heap.size := World.block_lt_of_cell? w _ (h.2 0 hn)
theorem VI.lt {w : World} {g : Nat} {V : List Nat} (h : VI w g V) : g < w.heap.size := World.block_lt_of_cell? w _ (h 0 (by decide))
theorem But.overF {w w1 w2 : World} {g : Nat} (h : But [] w w1) (k : But [g] w1 w2) (hg : w.heap.size ≤ g) : But [] w w2 :=
  ⟨k.os.trans h.os, k.tape.trans h.tape, k.output.trans h.output, Nat.le_trans h.size k.size, fun b hb _ => (k.block b (Nat.lt_of_lt_of_le hb h.size) (by simp; omega)).trans (h.block b hb (by simp))⟩
theorem sizeOf_byteH (w : World) : (Go.sizeOf 5).run Tryd.prog w = .ok 1 w := by kernel_rfl
theorem slice_fromH (W : World) (g o n c : Nat) (hn : 64 ≤ n) (hc : n ≤ c) :
    ∃ o', (Instr.slice 26 (.slice (some ⟨g, o, none⟩) n c) (some (.int .i64 64)) none none).run Tryd.prog W = .ok (.slice (some ⟨g, o', none⟩) (n - 64) (c - 64)) W ∧ (64 < n → o' = o + 64) := by
  have ht : Tryd.prog.underlying 26 = some (.slice 5) := Tryd.underlying26
  have ht' : Tryd.prog.underlying 26 = some (.slice (Tryd.prog.elem 26)) := by simp [Program.elem, ht]
  have he : Tryd.prog.elem 26 = 5 := by simp [Program.elem, ht]
  rw [run_slice_l W _ _ _ _ ht' .i64 _ (by omega) (by omega), he, sizeOf_byteH]
  by_cases h0 : c = 64
  · refine ⟨o, ?_, fun h => by omega⟩
    simp [Result.andThen, sliced, h0]
  · refine ⟨o + 64, ?_, fun _ => rfl⟩
    simp [Result.andThen, sliced, Addr.add, h0]
theorem hSha_rowZ : rowZ hSha 8 = #[.int .i64 1779033703, .int .i64 3144134277, .int .i64 1013904242, .int .i64 2773480762, .int .i64 1359893119, .int .i64 2600822924, .int .i64 528734635, .int .i64 1541459225] := rfl
theorem nCells_one (L : List Nat) : ∀ u ∈ nCells L, u.oneCell' = true := by
  intro u hu
  unfold nCells at hu
  obtain ⟨y, _, rfl⟩ := List.mem_map.1 hu
  rfl
attribute [local irreducible] rowZ kSha hSha blocksS outS roundsS extWd wordsB addS fillT
set_option maxHeartbeats 8000000 in
theorem esum_any (w : World) (s : ByteArray) (hs : s.size ≤ 100000000) :
    Calls Tryd.prog 8 #[.string s] w fun e w' => e = .returned (.string (strL (shaT s.data.toList))) ∧ But [] w w' := by
  obtain ⟨i0, hi0, hz0, hz1, hz2⟩ := info_parts info_intN
  obtain ⟨g3, hg3⟩ : ∃ g, g = w.heap.size := ⟨_, rfl⟩
  obtain ⟨w0, hw0⟩ : ∃ W, W = w.alloc (.cells #[.int .i64 1779033703, .int .i64 3144134277, .int .i64 1013904242, .int .i64 2773480762, .int .i64 1359893119, .int .i64 2600822924, .int .i64 528734635, .int .i64 1541459225] 3) := ⟨_, rfl⟩
  have HI0 : Hid (Is w0 g3 3 (rowZ hSha 8)) := Lib.hid (by rw [hw0, hg3, hSha_rowZ]; exact Is.fresh _ _ _)
  have HB0 : Hid (But [] w w0) := Lib.hid (by rw [hw0]; exact (But.refl [] w).alloc _)
  have HL3 : Hid (w.heap.size ≤ g3) := Lib.hid (by omega)
  have HC := Lib.hid (econst_any w0)
  have HF := Lib.hid fun W => efilled_any W s hs
  obtain ⟨l, hl⟩ : ∃ l, l = s.data.toList := ⟨_, rfl⟩
  rw [← hl] at HF ⊢
  have hfl := fillT_length l
  have HFL : Hid ((fillT l).length % 64 = 0 ∧ (fillT l).length ≤ 100000200) := Lib.hid (by
    have h1 : l.length = s.size := by rw [hl, Array.length_toList]; rfl
    have h2 := padN_lt l.length
    omega)
  obtain ⟨R, hR⟩ : ∃ R, R = blocksS ((fillT l).length / 64) (fillT l) hSha := ⟨_, rfl⟩
  have HR0 := Lib.hid hR
  have HRT : Hid (shaT l = outS R) := Lib.hid (by rw [hR]; rfl)
  rw [HRT.out]
  obtain ⟨FL, hFL⟩ : ∃ F, F = fillT l := ⟨_, rfl⟩
  obtain ⟨nF, hnF⟩ : ∃ n, n = FL.length := ⟨_, rfl⟩
  rw [← hFL, ← hnF] at HFL HR0
  simp only [← hFL, ← hnF] at HF
  clear hl hfl hR hFL hnF hs
  go_enter Tryd.func8, Tryd.ntmps8
  go_wp2_with fail
  rw [← hw0, ← hg3]
  clear hw0 hg3
  refine HC.out.mono ?_
  rintro e w1 ⟨gk, rfl, hIk, hBk⟩
  have HIK := Lib.hid hIk
  have HI1 := Lib.hid (HI0.out.but hBk (by simp))
  have HB1 := Lib.hid (HB0.out.trans hBk)
  have HKN : Hid (gk ≠ g3) := Lib.hid (fun e => by
    have a1 := hIk
    rw [e] at a1
    have := congrArg Array.size (Obj.cells.inj (Option.some.inj (a1.symm.trans HI1.out))).1
    rw [rowZ_size (by rw [kSha_length]; decide), rowZ_size (by rw [hSha_length]; decide)] at this
    omega)
  clear hIk hBk HI0 HB0 HC
  go_wp2_with fail
  refine (HF.out w1).mono ?_
  rintro e w2 ⟨gf, cf, rfl, hgf, hgf2, hcf, hrow, hBf⟩
  have HGN : Hid (gf ≠ g3) := Lib.hid (by have := HI1.out.lt; omega)
  have HI2 := Lib.hid (HI1.out.but hBf (by simp))
  have HIK2 := Lib.hid (HIK.out.but hBf (by simp))
  have HB2 := Lib.hid (HB1.out.trans hBf)
  have HS2 := Lib.hid (SB.of hrow)
  clear hgf hgf2 hrow hBf HI1 HIK HB1 HF
  go_wp2_with fail
  go_loopw [5] (fun sv wx => ∃ (S : List UInt8) (h : List Nat) (o n c : Nat), sv = .slice (some ⟨gf, o, none⟩) n c ∧ n ≤ c ∧ n ≤ 100000200 ∧ Hid (n % 64 = 0) ∧ Hid (R = blocksS (n / 64) S h) ∧ Hid (h.length = 8) ∧ Hid (Small h) ∧ Hid (SB wx gf o n S) ∧ Hid (Is wx g3 3 (rowZ h 8)) ∧ Hid (Is wx gk 3 (rowZ kSha 64)) ∧ Hid (But [] w wx)) (fun sv _ => lenV sv)
  case atStart => exact ⟨FL, hSha, 0, nF, cf, rfl, hcf, HFL.out.2, Lib.hid HFL.out.1, HR0, Lib.hid hSha_length, Lib.hid small_hSha, HS2, HI2, HIK2, HB2⟩
  case round =>
    clear HR0 HS2 HI2 HIK2 HB2 HFL
    obtain ⟨S, h, o, n, c, rfl, hnc, hn2, HNM, HR, HH, HHS, HSB, HI, HIK, HB⟩ := hrel
    by_cases hz : n = 0
    · have HRh : Hid (R = h) := Lib.hid (by rw [HR.out, hz]; unfold blocksS; rfl)
      have hz0i : ¬ (0 : Int) < (n : Int) := by omega
      clear HR HNM HSB HIK hn2 hnc
      go_wp2_with fail
      refine eout_loop HI.out HH.out HHS.out (fun _ _ d _ _ hp => by cases d <;> exact hp) ?_
      intro z241 z242 z243 z244 z245 z246 z247 z248 z249 z250 z251 z252 z253 z254 z255 z256 z257 z258 z259 z260 z261 z262 z263 z264 z265 z266 z267 z268 z269 z270 OA ol oc w5 hO5 hB5
      have HT := hO5.text
      have HB5 := Lib.hid (HB.out.trans hB5)
      clear hB5 hO5 HI HH HHS
      go_wp2
      go_ret
      exact ⟨by rw [HRh.out]; rfl, HB5.out⟩
    · have h64 : 64 ≤ n := by have := HNM.out; omega
      have hpz : (0 : Int) < (n : Int) := by omega
      have hmk : ∀ W, (Instr.makeSlice 34 (.int .i64 64) (.int .i64 64)).run Tryd.prog W = .ok (.slice (some ⟨W.heap.size, 0, none⟩) 64 64) (zeroZ W 64) := fun W => run_zeroZ W (n := 64) (by decide)
      have HZN := Lib.hid hz
      have HGF := Lib.hid (HSB.out.lt (by omega))
      have HG3 := Lib.hid HI.out.lt
      have HGK := Lib.hid HIK.out.lt
      obtain ⟨g6, hg6⟩ : ∃ g, g = wr.heap.size := ⟨_, rfl⟩
      have hI6 : Is (zeroZ wr 64) g6 3 (rowZ [] 64) := by rw [hg6]; exact Is.fresh _ _ _
      have hB6 : But [] wr (zeroZ wr 64) := (But.refl [] wr).alloc _
      obtain ⟨W1, hW1⟩ : ∃ W, W = zeroZ wr 64 := ⟨_, rfl⟩
      rw [← hW1] at hI6 hB6
      have HS6 := Lib.hid (HSB.out.but hB6 (by simp))
      have HI63 := Lib.hid (HI.out.but hB6 (by simp))
      have HK6 := Lib.hid (HIK.out.but hB6 (by simp))
      have HB6 := Lib.hid hB6
      have HI6 := Lib.hid hI6
      have HNF : Hid (gf ≠ g6) := Lib.hid (by have := HGF.out; omega)
      have HN3 : Hid (g3 ≠ g6) := Lib.hid (by have := HG3.out; omega)
      have HNK : Hid (gk ≠ g6) := Lib.hid (by have := HGK.out; omega)
      have HG6 := Lib.hid hg6
      clear hz hI6 hB6 HSB HI HIK
      go_wp2_with fail
      rw [← hW1, ← hg6]
      clear hW1 hg6 hmk
      refine eword_loop HI6.out HS6.out h64 (by omega) HNF.out (fun _ _ d _ _ hp => by cases d <;> exact hp) ?_
      intro z28 z29 z30 z31 z32 z33 z34 z35 z36 z37 z38 z39 z40 z41 z42 z43 z44 z45 z46 z47 z48 z49 z50 z51 z52 z53 z54 z55 z56 z57 z58 z59 z60 z61 z62 z63 z64 z65 z66 z67 w3 hI3 hB3
      have HB3 := Lib.hid (But.overF HB6.out hB3 (by rw [HG6.out]; exact Nat.le_refl _))
      have HI33 := Lib.hid (HI63.out.but hB3 (by simpa using HN3.out))
      have HK3 := Lib.hid (HK6.out.but hB3 (by simpa using HNK.out))
      have HS3 := Lib.hid (HS6.out.but hB3 (by simpa using HNF.out))
      have HI3 := Lib.hid hI3
      clear hI3 hB3 HI6 HS6 HI63 HK6
      go_wp2_with fail
      refine eext_loop HI3.out (fun _ _ d _ _ hp => by cases d <;> exact hp) ?_
      intro z9 z10 z68 z69 z70 z71 z72 z73 z74 z75 z76 z77 z78 z79 z80 z81 z82 z83 z84 z85 z86 z87 z88 z89 z90 z91 z92 z93 z94 z95 z96 z97 z98 z99 z100 z101 z102 z103 z104 z105 z106 z107 z108 z109 z110 z111 z112 z113 z114 w4 hI4 hB4
      have HB4 := Lib.hid (But.overF HB3.out hB4 (by rw [HG6.out]; exact Nat.le_refl _))
      have HI43 := Lib.hid (HI33.out.but hB4 (by simpa using HN3.out))
      have HK4 := Lib.hid (HK3.out.but hB4 (by simpa using HNK.out))
      have HS4 := Lib.hid (HS3.out.but hB4 (by simpa using HNF.out))
      obtain ⟨X, hX⟩ : ∃ X, X = extWd 48 (wordsB (S.take 64)) := ⟨_, rfl⟩
      have HXL : Hid (X.length = 64) := Lib.hid (by rw [hX, extWd_length, wordsB_length])
      have HXS : Hid (Small X) := Lib.hid (by rw [hX]; exact small_ext 48 (small_words _))
      have HX := Lib.hid hX
      rw [← hX] at hI4
      have HI4 := Lib.hid hI4
      clear hI4 hB4 hX HI3 HI33 HK3 HS3
      go_wp2_with (at_builtin; refine wpList_append_grows _ rfl _ _ 34 rfl 3 i0 _ 1 8 Tryd.underlying34 hi0 hz0 hz1 hz2 rfl (by decide) (some ⟨w4.heap.size, 0, none⟩) 0 0 [] rfl (by simp) rfl (by simp) ⟨g3, 0, none⟩ 8 8 (nCells h) rfl (by rw [nCells_length, HH.out]) (news_row HH.out (HI43.out.alloc _)) (nCells_one h) (by decide) (by unfold maxLen; omega) (by omega) ?_; intro v5 w5 hown hgrow)
      obtain ⟨gv, cv, rfl, hgv, hV⟩ := VI.own HH.out (by simpa using hown)
      have hB5 : But [] w4 w5 := ((But.refl [] w4).alloc _).grown hgrow (by simp)
      have HB5 := Lib.hid (HB4.out.trans hB5)
      have HI53 := Lib.hid (HI43.out.but hB5 (by simp))
      have HK5 := Lib.hid (HK4.out.but hB5 (by simp))
      have HS5 := Lib.hid (HS4.out.but hB5 (by simp))
      have HI5 := Lib.hid (HI4.out.but hB5 (by simp))
      have HV5 := Lib.hid hV
      have HGV : Hid (gv ≠ g3) := Lib.hid (by
        have h1 := HI43.out.lt
        have h2 : w4.heap.size ≤ gv := Nat.le_trans (by simp) hgv
        omega)
      clear hown hgrow hgv hV hB5 HI43 HK4 HS4 HI4
      go_wp2_with fail
      refine eround_loop HK5.out HI5.out HXL.out HXS.out HH.out HHS.out HV5.out (fun _ _ d _ _ hp => by cases d <;> exact hp) ?_
      intro z13 z14 z15 z16 z118 z119 z120 z121 z122 z123 z124 z125 z126 z127 z128 z129 z130 z131 z132 z133 z134 z135 z136 z137 z138 z139 z140 z141 z142 z143 z144 z145 z146 z147 z148 z149 z150 z151 z152 z153 z154 z155 z156 z157 z158 z159 z160 z161 z162 z163 z164 z165 z166 z167 z168 z169 z170 z171 z172 z173 z174 z175 z176 z177 z178 z179 z180 z181 z182 z183 z184 z185 z186 z187 z188 z189 z190 z191 z192 z193 z194 z195 z196 z197 z198 z199 z200 z201 z202 z203 z204 z205 z206 z207 z208 z209 z210 z211 z212 z213 z214 z215 z216 z217 z218 z219 z220 z221 w6 gv6 cv6 hV6 hgv6 hB6
      have HB6b := Lib.hid (HB5.out.trans hB6)
      have HI63 := Lib.hid (HI53.out.but hB6 (by simp))
      have HK6b := Lib.hid (HK5.out.but hB6 (by simp))
      have HS6b := Lib.hid (HS5.out.but hB6 (by simp))
      have HV6 := Lib.hid hV6
      have HGV6 : Hid (gv6 ≠ g3) := Lib.hid (by
        rcases hgv6 with e | e
        · rw [e]; exact HGV.out
        · have := HI53.out.lt; omega)
      have HVS : Hid (Small (roundsS X h 64)) := Lib.hid (small_rounds X HHS.out 64)
      clear hV6 hgv6 hB6 HI53 HK5 HS5 HI5 HV5
      go_wp2_with fail
      refine eadd_loop HI63.out HV6.out HH.out HVS.out HHS.out HGV6.out (fun _ _ d _ _ hp => by cases d <;> exact hp) ?_
      intro z222 z223 z224 z225 z226 z227 z228 z229 z230 z231 z232 z233 z234 z235 z236 z237 z238 w7 hI7 hB7
      have HB7 := Lib.hid (But.overF (HB.out.trans HB6b.out) hB7 HL3.out)
      have HK7 := Lib.hid (HK6b.out.but hB7 (by simpa using HKN.out))
      have hS7 := HS6b.out.but hB7 (by simpa using HGN.out)
      obtain ⟨o', hsl, ho'⟩ := slice_fromH w7 gf o n c h64 hnc
      have HS7 : Hid (SB w7 gf o' (n - 64) (S.drop 64)) := Lib.hid (by
        by_cases e : 64 < n
        · rw [ho' e]; exact hS7.cut h64
        · exact ⟨by rw [List.length_drop, hS7.1], fun i hi => by omega⟩)
      have HI7 := Lib.hid hI7
      have HRN : Hid (R = blocksS ((n - 64) / 64) (S.drop 64) (addS h (roundsS X h 64))) := Lib.hid (by
        rw [HR.out, show n / 64 = (n - 64) / 64 + 1 by omega]
        show blocksS ((n - 64) / 64 + 1) S h = _
        rw [HX.out, ← blockS_of, blocksS])
      have HNM2 : Hid ((n - 64) % 64 = 0) := Lib.hid (by have := HNM.out; omega)
      have hm : n - 64 ≤ c - 64 ∧ n - 64 ≤ 100000200 := by omega
      have hmes : n - 64 < n := by omega
      have HM := Lib.hid hm
      have HMES := Lib.hid hmes
      clear hI7 hB7 hS7 ho' HI63 HV6 HK6b HS6b HB6b HR HNM hm hmes
      go_wp2
      go_roundw
      case rel => exact ⟨S.drop 64, addS h (roundsS X h 64), o', n - 64, c - 64, rfl, HM.out.1, HM.out.2, HNM2, HRN, Lib.hid (addS_length _ _), Lib.hid (small_add _ _), HS7, HI7, HK7, HB7⟩
      case measure => exact HMES.out
end Go.Proofs.YtgemmidkfeebfaaDoor
