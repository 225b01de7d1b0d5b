/- The walks of the statements on the row of samples, and on pixels. -/
import Derived.Test.YtfibffcmbnlomaaSbQ
import Derived.Test.YtfibffcmbnlomaaSbT
import Derived.Test.YtfibffcmbnlomaaSbWb
import Derived.Deep.CutBlock
set_option maxRecDepth 100000
set_option linter.unusedVariables false
namespace Go.Proofs.Ytfibffcmbnlomaa
set_option maxRecDepth 100000
open Go Go.RowKit
theorem epixel_any (w : World) {a b c d e0 : Int} {pal tr : ByteArray} {has : Bool} {A : Option Addr} {n cp : Nat} {l : List Int} (hZ : Zs w A n l) (hF : ZFit l) (hn : n ≤ 1000) (hp : pal.size ≤ 140737488351232) (ht : tr.size ≤ 140737488351232) :
    Calls Try.prog 20 #[.agg #[.int .i64 a, .int .i64 b, .int .i64 d, .int .i64 c, .int .i64 e0, .string pal, .string tr, .bool has], .slice A n cp] w fun r w' => r = .returned (.tuple #[.string (pixelA d c pal tr has l).1, .int .i64 (pixelA d c pal tr has l).2]) ∧ But [] w w' := by
  by_cases hb : samplesI c ≠ (n : Int) ∨ n = 0 ∨ depB d = false
  · exact epixel_bad w hZ hn hb
  · have hd : depB d = true := by cases h : depB d; exact absurd (Or.inr (Or.inr h)) hb; rfl
    obtain ⟨D, rfl, _, _, _⟩ := depB_nat hd
    have h1 : samplesI c = (n : Int) := Classical.not_not.1 fun h => hb (.inl h)
    exact epixel_ok w hZ hF hd h1 (Nat.pos_of_ne_zero fun h => hb (.inr (.inl h))) hp ht
theorem made_noneZ (w : World) : (w.alloc (.cells #[] 3)).ownsRow w.heap.size 3 1 (.slice (some ⟨w.heap.size, 0, none⟩) 0 0) 0 [] :=
  ⟨rfl, .inr ⟨w.heap.size, 0, #[], rfl, Nat.le_refl _, Is.fresh w 3 #[], Nat.le_refl _, Nat.zero_le _, rfl, rfl⟩⟩
theorem Zs.news {w : World} {g o n : Nat} {l : List Int} (h : Zs w (some ⟨g, o, none⟩) n l) (hn : 0 < n) : ∀ j u, (l.map (Value.int .i64))[j]? = some u → w.cell? ((⟨g, o, none⟩ : Addr).add j) = some u := by
  intro j u hu
  obtain ⟨g', o', e, _, hc⟩ := h.2 hn
  injection e with e
  injection e with e1 e2
  subst e1 e2
  have hj : j < l.length := by
    have := (List.getElem?_eq_some_iff.1 hu).1
    simpa using this
  rw [Go.WideShapes.add_plain, hc j hj]
  simpa [hj] using hu
theorem ownsZ {w : World} {base n g c : Nat} {l : List Int} (hn : l.length = n) (h : w.ownsRow base 3 1 (.slice (some ⟨g, 0, none⟩) n c) n (l.map (Value.int .i64))) (hp : 0 < n) : Zs w (some ⟨g, 0, none⟩) n l := by
  refine ⟨hn, fun _ => ?_⟩
  obtain ⟨g', cap, e, h1, h2⟩ := World.ownsRow.form h hp
  injection e with e1 e2 e3
  injection e1 with e1
  injection e1 with e1
  subst e1
  refine ⟨g, 0, rfl, h2, fun i hi => ?_⟩
  have hc := World.ownsRow.cells h (g := g) rfl i (.int .i64 l[i]) (by simp [hi])
  have e2 : (⟨g, 0, none⟩ : Addr).add i = ⟨g, 0 + i, none⟩ := by unfold Addr.add; split <;> simp_all
  rw [e2] at hc
  exact hc
attribute [local irreducible] packA pixelA
set_option maxHeartbeats 2000000 in
theorem samplesPacks_walk (haw : Awk11) {d : Int} {A : Option Addr} {len cap : Nat} {l : List Int} (hd : (Lit.int .i64 d).wf = true) {w : World} (hl : Zs w A len l) (hb : len * 8 ≤ 140737488351232) (hcap : len ≤ cap) (hnil : A = none → cap = 0) (hf : ZFit l) :
    Calls Try.prog 4 #[.int .i64 d, .slice A len cap] w fun e w' => e = .returned (.bool true) ∧ Below w.heap.size w w' := by
  have HA := Lib.hid haw
  have hlen := hl.1
  have HLEN := Lib.hid hlen
  clear hlen haw hd
  by_cases hbig : 5000 < len
  · clear hl hnil hf
    go_enter Try.func4, Try.ntmps4
    go_wp2_with fail
    refine (HA.out.use _).mono ?_
    rintro e w4 ⟨rfl, hB4⟩
    have HB4 := Lib.hid hB4
    clear hB4
    go_wp2
    go_ret
    exact ⟨rfl, HB4.out.belowS⟩
  obtain ⟨i0, hi0, hz0, hz1, hz2⟩ := info_parts info_intN
  have hmade := made_noneZ w
  obtain ⟨s, hs⟩ : ∃ s, s = strL (packA d l).1 := ⟨_, rfl⟩
  obtain ⟨er, her⟩ : ∃ s, s = (packA d l).2 := ⟨_, rfl⟩
  have HP : Hid (∀ (v : World) (A' : Option Addr) (c' : Nat), Zs v A' len l → Calls Try.prog 15 #[.int .i64 d, .slice A' len c'] v fun e w' => e = .returned (.tuple #[.string s, .int .i64 er]) ∧ But [] v w') := Lib.hid fun v A' c' h => by rw [hs, her]; exact ppack_any v h (by omega)
  have HE : Hid (∀ (v : World) (A' : Option Addr) (c' : Nat), Zs v A' len l → Calls Try.prog 16 #[.int .i64 d, .slice A' len c'] v fun e w' => e = .returned (.tuple #[.string s, .int .i64 er]) ∧ But [] v w') := Lib.hid fun v A' c' h => by rw [hs, her]; exact epack_any v h hf (by omega)
  have HL := Lib.hid hl
  clear hs her hf
  go_enter Try.func4, Try.ntmps4
  go_upto_region 3 with (fail)
  go_cut [5] (fun v w1 => ∃ A' c', v = .slice A' len c' ∧ Zs w1 A' len l ∧ But [] w w1)
  case first =>
    by_cases h0 : len = 0
    · subst h0
      have hl0 : l = [] := List.eq_nil_of_length_eq_zero HLEN.out
      have HL0 := Lib.hid hl0
      have HNIL := Lib.hid hnil
      clear hl0 hl hnil
      go_wp2_with (at_builtin; refine wpList_append_fits_any _ rfl _ _ 22 rfl w.heap.size 3 i0 1 Try.underlying22 hi0 hz1 w.heap.size 0 0 [] rfl hmade A 0 cap [] rfl rfl (fun e => ⟨rfl, HNIL.out e⟩) (fun ad _ j u hu => by simp at hu) (by simp) (by omega) ?_; intro w1 hown hgrow)
      go_meet
      refine ⟨some ⟨w.heap.size, 0, none⟩, 0, rfl, ?_, ((But.refl [] w).alloc _).grown hgrow (fun g e => by injection e with e; subst e; exact .inr (Nat.le_refl _))⟩
      rw [HL0.out]; exact ⟨rfl, fun h => absurd h (by omega)⟩
    · obtain ⟨g, o, x, rfl, hg, _, hfirst⟩ := hl.at (show 0 < len by omega)
      clear hfirst
      have hnw := (hl.but ((But.refl [] w).alloc (.cells #[] 3))).news (by omega)
      have HNW := Lib.hid hnw
      clear hnw hl hnil
      go_wp2_with (at_builtin; refine wpList_append_own _ rfl _ _ 22 rfl w.heap.size 3 i0 (.int .i64 0) 1 8 Try.underlying22 hi0 hz0 hz1 hz2 rfl (by decide) _ 0 [] rfl hmade ⟨g, o, none⟩ len cap (l.map (.int .i64)) rfl (by simp; exact HLEN.out) HNW.out ?c2 ?c3 ?c4 ?c5 ?_)
      case c2 => intro u hu; obtain ⟨x, _, rfl⟩ := List.mem_map.1 hu; rfl
      case c3 => unfold maxLen at *; omega
      case c4 => omega
      case c5 => simp
      intro v' w1 hown hgrow _
      obtain ⟨g4, c4, rfl⟩ : ∃ g4 c4, v' = .slice (some ⟨g4, 0, none⟩) len c4 := by
        rcases hown.2 with ⟨_, e⟩ | ⟨g4, c4, cur, e, _⟩
        · omega
        · exact ⟨g4, c4, by simpa using e⟩
      have HOWN := Lib.hid hown
      have HGR := Lib.hid hgrow
      clear hown hgrow
      go_wp2
      go_meet
      refine ⟨some ⟨g4, 0, none⟩, c4, rfl, ?_, ((But.refl [] w).alloc _).grown HGR.out (fun g e => by
        have : w.heap.size = g := by simpa [Value.ownBlock] using e
        exact .inr (by omega))⟩
      exact ownsZ HLEN.out (by simpa using HOWN.out) (by omega)
  case rest =>
    obtain ⟨A', c', rfl, hO, hB⟩ := hcut
    have HO := Lib.hid hO
    have HB := Lib.hid hB
    clear hmade hnil hl hO hB
    go_wp2_with fail
    refine (HP.out _ _ _ HO.out).mono ?_
    rintro e w2 ⟨rfl, hB2⟩
    have HO2 := Lib.hid (HO.out.but hB2)
    have HB2 := Lib.hid (HB.out.trans hB2)
    clear hB2 HO HB
    go_wp2_with fail
    refine (HE.out _ _ _ (HL.out.but HB2.out)).mono ?_
    rintro e w3 ⟨rfl, hB3⟩
    have HO3 := Lib.hid (HO2.out.but hB3)
    have HB3 := Lib.hid (HB2.out.trans hB3)
    clear hB3 HO2 HB2
    go_wp2_with fail
    refine (isame_any _ HO3.out (HL.out.but HB3.out) (by omega)).mono ?_
    rintro e w5 ⟨rfl, hB5⟩
    have HB5 := Lib.hid (HB3.out.trans hB5)
    clear hB5 HB3
    go_wp2_with fail
    refine (HA.out.use _).mono ?_
    rintro e w4 ⟨rfl, hB4⟩
    have HB4 := Lib.hid (HB5.out.trans hB4)
    clear hB4
    go_wp2
    go_ret
    exact ⟨rfl, HB4.out.belowS⟩
set_option maxHeartbeats 2000000 in
theorem samplesPixels_walk (haw : Awk11) {a b c d e0 : Int} {pal tr : ByteArray} {has : Bool} {A : Option Addr} {len cap : Nat} {l : List Int} {w : World} (hp : pal.size ≤ 140737488351232) (ht : tr.size ≤ 140737488351232) (hl : Zs w A len l) (hb : len * 8 ≤ 140737488351232) (hcap : len ≤ cap) (hnil : A = none → cap = 0) (hf : ZFit l) :
    Calls Try.prog 6 #[.agg #[.int .i64 a, .int .i64 b, .int .i64 d, .int .i64 c, .int .i64 e0, .string pal, .string tr, .bool has], .slice A len cap] w fun e w' => e = .returned (.bool true) ∧ Below w.heap.size w w' := by
  have HA := Lib.hid haw
  obtain ⟨b0, hb0⟩ : ∃ g, g = w.heap.size := ⟨_, rfl⟩
  have hB := (But.refl [] w).alloc (.cells #[.int .i64 a, .int .i64 b, .int .i64 d, .int .i64 c, .int .i64 e0, .string pal, .string tr, .bool has] 38)
  obtain ⟨w1, hw1⟩ : ∃ X, X = w.alloc (.cells #[.int .i64 a, .int .i64 b, .int .i64 d, .int .i64 c, .int .i64 e0, .string pal, .string tr, .bool has] 38) := ⟨_, rfl⟩
  have hI : Is w1 b0 38 #[.int .i64 a, .int .i64 b, .int .i64 d, .int .i64 c, .int .i64 e0, .string pal, .string tr, .bool has] := by rw [hw1, hb0]; exact Is.fresh _ _ _
  rw [← hw1] at hB
  have HB := Lib.hid hB
  have HC : Hid (∀ v, But [] w1 v → v.cell? ⟨b0, 0, none⟩ = some (.int .i64 a) ∧ v.cell? ⟨b0, 1, none⟩ = some (.int .i64 b) ∧ v.cell? ⟨b0, 2, none⟩ = some (.int .i64 d) ∧ v.cell? ⟨b0, 3, none⟩ = some (.int .i64 c) ∧ v.cell? ⟨b0, 4, none⟩ = some (.int .i64 e0) ∧ v.cell? ⟨b0, 5, none⟩ = some (.string pal) ∧ v.cell? ⟨b0, 6, none⟩ = some (.string tr) ∧ v.cell? ⟨b0, 7, none⟩ = some (.bool has) ∧ b0 < v.heap.size) := Lib.hid fun v hv => by
    have hh := hI.but hv (by simp)
    exact ⟨hh.cell 0, hh.cell 1, hh.cell 2, hh.cell 3, hh.cell 4, hh.cell 5, hh.cell 6, hh.cell 7, hh.lt⟩
  have HL : Hid (∀ v, But [] w1 v → Zs v A len l) := Lib.hid fun v hv => hl.but (hB.trans hv)
  clear haw
  by_cases hbig : 100 < len
  · clear hl hnil hf hw1 hB hI hb0
    go_enter Try.func6, Try.ntmps6
    go_wp2_with fail
    refine (HA.out.use _).mono ?_
    rintro e w4 ⟨rfl, hB4⟩
    have HB4 := Lib.hid (((But.refl [] w).alloc _).trans hB4)
    clear hB4
    go_wp2
    go_ret
    exact ⟨rfl, HB4.out.belowS⟩
  obtain ⟨s, hs⟩ : ∃ s, s = (pixelA d c pal tr has l).1 := ⟨_, rfl⟩
  obtain ⟨er, her⟩ : ∃ s, s = (pixelA d c pal tr has l).2 := ⟨_, rfl⟩
  have HP : Hid (∀ v, But [] w1 v → Calls Try.prog 19 #[.agg #[.int .i64 a, .int .i64 b, .int .i64 d, .int .i64 c, .int .i64 e0, .string pal, .string tr, .bool has], .slice A len cap] v fun e w' => e = .returned (.tuple #[.string s, .int .i64 er]) ∧ But [] v w') := Lib.hid fun v h => by rw [hs, her]; exact ppixel_any v (HL.out v h) (by omega) hcap hp ht
  have HE : Hid (∀ v, But [] w1 v → Calls Try.prog 20 #[.agg #[.int .i64 a, .int .i64 b, .int .i64 d, .int .i64 c, .int .i64 e0, .string pal, .string tr, .bool has], .slice A len cap] v fun e w' => e = .returned (.tuple #[.string s, .int .i64 er]) ∧ But [] v w') := Lib.hid fun v h => by rw [hs, her]; exact epixel_any v (HL.out v h) hf (by omega) hp ht
  have c0 := hI.cell 0
  clear hs her hf hl hB hI hnil
  go_enter Try.func6, Try.ntmps6
  go_upto_region 1 with (fail)
  rw [← hw1, ← hb0]
  clear c0 hw1 hb0
  obtain ⟨c0, c1, c2, c3, c4, c5, c6, c7, hgl⟩ := HC.out w1 (But.refl [] _)
  go_wp2_with fail
  refine (HP.out _ (But.refl [] _)).mono ?_
  rintro e w2 ⟨rfl, hB2⟩
  have HB2 := Lib.hid hB2
  clear hB2 c0 c1 c2 c3 c4 c5 c6 c7 hgl
  obtain ⟨c0, c1, c2, c3, c4, c5, c6, c7, hgl⟩ := HC.out w2 HB2.out
  go_wp2_with fail
  refine (HE.out _ HB2.out).mono ?_
  rintro e w3 ⟨rfl, hB3⟩
  have HB3 := Lib.hid (HB2.out.trans hB3)
  clear hB3 c0 c1 c2 c3 c4 c5 c6 c7 hgl
  go_wp2_with fail
  refine (HA.out.use _).mono ?_
  rintro e w4 ⟨rfl, hB4⟩
  have HB4 := Lib.hid (HB.out.trans (HB3.out.trans hB4))
  clear hB4
  go_wp2
  go_ret
  exact ⟨rfl, HB4.out.belowS⟩
end Go.Proofs.Ytfibffcmbnlomaa
