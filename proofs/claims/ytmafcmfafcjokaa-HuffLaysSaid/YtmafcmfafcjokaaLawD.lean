/- The walk of the statement on Codes. -/
import Derived.Test.YtmafcmfafcjokaaLawC
import Derived.OwnWalk
namespace Go.Proofs.Ytmafcmfafcjokaa
open Go Go.RowKit

/-- Own copy of a list that was handed in. -/
theorem Ints.news {w : World} {g o n : Nat} {l : List Int} (h : Ints w (some ⟨g, o, none⟩) n l) (hn : 0 < n) : ∀ j u, (l.map (Value.int .i64))[j]? = some u → w.cell? ((⟨g, o, none⟩ : Addr).add j) = some u := by
  intro j u hu
  obtain ⟨g', o', e, _, hc⟩ := h.2 hn
  injection e with e
  injection e with e1 e2
  subst e1 e2
  have hj : j < l.length := by
    have := (List.getElem?_eq_some_iff.1 hu).1
    simpa using this
  rw [Go.WideShapes.add_plain, hc j hj]
  simpa [hj] using hu

theorem OwnI.ints_of {w : World} {base n c : Nat} {A : Option Addr} {l : List Int} (h : OwnI w base (.slice A n c) l) (hn : n = l.length) : Ints w A n l := by
  obtain ⟨A', c', e, hi, _⟩ := h.open
  injection e with e1 e2 e3
  subst e1 e2
  exact hi
theorem made_none (w : World) : (w.alloc (.cells #[] 3)).ownsRow w.heap.size 3 1 (.slice (some ⟨w.heap.size, 0, none⟩) 0 0) 0 [] :=
  ⟨rfl, .inr ⟨w.heap.size, 0, #[], rfl, Nat.le_refl _, Is.fresh w 3 #[], Nat.le_refl _, Nat.zero_le _, rfl, rfl⟩⟩

set_option maxRecDepth 100000 in
set_option maxHeartbeats 2000000 in
theorem huffCodes_walk {A : Option Addr} {len cap : Nat} {l : List Int} {w : World} (hl : Ints w A len l) (hb : len * 8 ≤ 140737488351232) (hnil : A = none → cap = 0) (_hf : Fits l) :
    Calls Try.prog 4 #[.slice A len cap] w fun e w' => e = .returned (.bool true) ∧ Below w.heap.size w w' := by
  have hm : len ≤ maxLen := by unfold maxLen; omega
  obtain ⟨i0, hi0, hz0, hz1, hz2⟩ := info_parts info_int
  have hlen := hl.1
  have HLEN := Lib.hid hlen
  clear hlen
  have hmade := made_none w
  go_enter Try.func4, Try.ntmps4
  go_upto_region 1 with (fail)
  go_cut [3] (fun v w1 => ∃ A' c', v = .slice A' len c' ∧ OwnI w1 w.heap.size (.slice A' len c') l ∧ But [] w w1)
  case first =>
    by_cases h0 : len = 0
    · subst h0
      have hl0 : l = [] := List.eq_nil_of_length_eq_zero HLEN.out
      have HL0 := Lib.hid hl0
      have HNIL := Lib.hid hnil
      clear hl0 hl hnil
      go_wp2_with (at_builtin; refine wpList_append_fits_any _ rfl _ _ 22 rfl w.heap.size 3 i0 1 Try.underlying22 hi0 hz1 w.heap.size 0 0 [] rfl hmade A 0 cap [] rfl rfl (fun e => ⟨rfl, HNIL.out e⟩) (fun ad _ j u hu => by simp at hu) (by simp) (by omega) ?_; intro w1 hown hgrow)
      go_meet
      refine ⟨some ⟨w.heap.size, 0, none⟩, 0, rfl, ?_, ((But.refl [] w).alloc _).grown hgrow (fun g e => by injection e with e; subst e; exact .inr (Nat.le_refl _))⟩
      rw [HL0.out]; exact hown
    · obtain ⟨g, o, rfl, hg, hfirst⟩ := hl.at (show 0 < len by omega)
      clear hfirst
      have hnw := (hl.but ((But.refl [] w).alloc (.cells #[] 3)) (by simp)).news (by omega)
      have HNW := Lib.hid hnw
      clear hnw hl hnil
      go_wp2_with (at_builtin; refine wpList_append_own _ rfl _ _ 22 rfl w.heap.size 3 i0 (.int .i64 0) 1 8 Try.underlying22 hi0 hz0 hz1 hz2 rfl (by decide) _ 0 [] rfl hmade ⟨g, o, none⟩ len cap (l.map (.int .i64)) rfl (by simp; exact HLEN.out) HNW.out ?c2 ?c3 ?c4 ?c5 ?_)
      case c2 => intro u hu; obtain ⟨x, _, rfl⟩ := List.mem_map.1 hu; rfl
      case c3 => unfold maxLen at *; omega
      case c4 => omega
      case c5 => simp
      intro v' w1 hown hgrow _
      obtain ⟨g4, c4, rfl⟩ : ∃ g4 c4, v' = .slice (some ⟨g4, 0, none⟩) len c4 := by
        rcases hown.2 with ⟨_, e⟩ | ⟨g4, c4, cur, e, _⟩
        · omega
        · exact ⟨g4, c4, by simpa using e⟩
      have HOWN := Lib.hid hown
      have HGR := Lib.hid hgrow
      clear hown hgrow
      go_wp2
      go_meet
      refine ⟨some ⟨g4, 0, none⟩, c4, rfl, ?_, ((But.refl [] w).alloc _).grown HGR.out (fun g e => by
        have : w.heap.size = g := by simpa [Value.ownBlock] using e
        exact .inr (by omega))⟩
      have h := HOWN.out
      unfold OwnI
      rw [HLEN.out]
      simpa using h
  case rest =>
    obtain ⟨A', c', rfl, hO, hB⟩ := hcut
    clear hmade hnil
    have hlw := hl.but hB (by simp)
    have hIo := hO.ints_of HLEN.out.symm
    have hbs := hB.size
    by_cases hc : chk l = 0
    · have hge := codes_any (cap := c') hIo hm hc
      have HG := Lib.hid hge
      have HC := Lib.hid hc
      have HO := Lib.hid hO
      clear hge hc hO
      go_wp2_with fail
      refine HG.out.mono ?_
      rintro e w2 ⟨ga, rfl, hOa, hBa⟩
      have hr := ref_codes (cap := cap) (hlw.but hBa (by simp)) hm HC.out
      have HR := Lib.hid hr
      clear hr HG
      go_wp2_with fail
      refine HR.out.mono ?_
      rintro e w3 ⟨rfl, hOb, hBb⟩
      have hOa3 := hOa.but hBb (by simp)
      have his := ints_same (c := len) (d := len) hOa3.ints hOb.ints hm
      have HIS := Lib.hid his
      have HOA := Lib.hid hOa3
      have hga := World.ownsRow.lt hOa3 ga rfl
      have hsz1 := hBa.size
      have hIo3 := hIo.but (hBa.trans hBb) (by simp)
      have hl3 := hlw.but (hBa.trans hBb) (by simp)
      have hB3 := (hB.trans hBa).trans hBb
      have hoffo : Off A' ga := fun a e => by
        subst e
        have := (World.ownsRow.lt HO.out a.block rfl).2
        omega
      have hoffl : ∀ a, A = some a → 0 < len → a.block ≠ ga := fun a e hp => by
        obtain ⟨g', o', e', hg', _⟩ := hl.2 hp
        rw [e] at e'; injection e' with e'; subst e'; show g' ≠ ga; omega
      clear his HR hOa hOb hOa3 hBa hBb
      go_wp2_with fail
      refine HIS.out.mono ?_
      rintro e w4 ⟨rfl, q4, hq4⟩
      have hB34 : But [] w3 w4 := by rw [hq4]; exact (But.refl [] w3).drewN _
      have HOA4 := Lib.hid (HOA.out.but hB34 (by simp))
      have hgl4 : ga < w4.heap.size := Nat.lt_of_lt_of_le hga.2 hB34.size
      have HQ4 := Lib.hid hq4
      clear hq4 HIS
      have hin4 := hIo3.but hB34 (by simp)
      have hln4 := hl3.but hB34 (by simp)
      have hB4 := hB3.trans hB34
      have HIN := Lib.hid hin4
      have HLN := Lib.hid hln4
      have HB4 := Lib.hid hB4
      have HOFF := Lib.hid hoffl
      have HOFO := Lib.hid hoffo
      have hga1 : w.heap.size ≤ ga := Nat.le_trans hbs hga.1
      clear hin4 hln4 hB4 hIo3 hl3 hB3 hB34 hoffl hoffo hlw hIo hl hB
      have hlc : (codes l).length = len := by rw [codes, length_cds]; exact HLEN.out
      have HLC := Lib.hid hlc
      clear hlc
      go_wp2
      go_loopw [8] (fun iv wr => ∃ (i : Nat) (r : List Int), i ≤ len ∧ iv = .int .i64 i ∧ r.length = len ∧ OwnI wr wc.heap.size (.slice (some ⟨ga, 0, none⟩) len len) r ∧ But [ga] w4 wr) (fun iv _ => len - (intOf iv).toNat)
      case atStart => exact ⟨0, codes l, Nat.zero_le _, rfl, HLC.out, HOA4.out, But.refl _ _⟩
      case round =>
        obtain ⟨i, r, hi, rfl, hr, hOr, hBr⟩ := hrel
        by_cases hlt : i < len
        · have hce := hOr.cell (show i < r.length by omega)
          have hcf := hOr.free i
          generalize r[i]'(by omega) = cv at *
          have i0' : (0 : Int) ≤ (i : Int) := by omega
          have i1' : (i : Int) < (len : Int) := by omega
          have HR := Lib.hid hr
          have HO2 := Lib.hid hOr
          have HB2 := Lib.hid hBr
          clear hr hOr hBr
          go_wp2
          go_roundw
          case rel => exact ⟨i + 1, r.set i (-1), by omega, by go_num, by rw [List.length_set]; exact HR.out, HO2.out.set i (-1), HB2.out.setCell (.inl (by simp)) _⟩
          case measure => simp [intOf]; omega
        · obtain rfl : i = len := by omega
          have hA1 := HIN.out.but hBr (fun k hk => by
            obtain rfl : k = ga := by simpa using hk
            exact HOFO.out)
          have hA2 : Ints wr A i l := by
            by_cases h0 : i = 0
            · exact ⟨HLEN.out, fun h => absurd h (by omega)⟩
            · exact HLN.out.but hBr (fun k hk a e => by
                obtain rfl : k = ga := by simpa using hk
                exact HOFF.out a e (by omega))
          have hfin := ints_same (c := c') (d := cap) hA1 hA2 hm
          have HFIN := Lib.hid hfin
          have HBR := Lib.hid hBr
          clear hfin hA1 hA2 hBr hOr hr
          go_wp2_with fail
          refine HFIN.out.mono ?_
          rintro e w5 ⟨rfl, q5, hq5⟩
          have hB45 := HBR.out.trans ((But.refl [ga] wr).drewN q5)
          rw [← hq5] at hB45
          have HB45 := Lib.hid hB45
          clear hq5 hB45
          go_wp2_with fail
          refine (awake_any _).mono ?_
          rintro e w6 ⟨rfl, hB6⟩
          have hfin := (HB4.out.fresh HB45.out (fun k hk => by
            obtain rfl : k = ga := by simpa using hk
            exact hga1)).trans hB6
          have HFF := Lib.hid hfin.belowNew
          clear hfin hB6
          go_wp2
          go_ret
          exact ⟨rfl, HFF.out⟩
    · have hge := codes_err (cap := c') hIo hm hc
      have hgr := ref_codes_err (cap := cap) hlw hm hc
      have HG := Lib.hid hge
      have HR := Lib.hid hgr
      have HIO := Lib.hid hIo
      have HLW := Lib.hid hlw
      have HB := Lib.hid hB
      clear hge hgr hc hIo hlw hB hl hO
      go_wp2_with fail
      refine HG.out.mono ?_
      rintro e w2 ⟨rfl, rfl⟩
      go_wp2_with fail
      refine HR.out.mono ?_
      rintro e w3 ⟨rfl, rfl⟩
      go_wp2_with fail
      refine (ints_same (l := []) (Ints.empty _ none) (Ints.empty _ none) (by unfold maxLen; decide)).mono ?_
      rintro e w4 ⟨rfl, q4, rfl⟩
      go_wp2
      go_loopw [8] (fun iv wr => iv = .int .i64 0 ∧ ∃ q, wr = wc.drewN q) (fun _ _ => 0)
      case atStart => exact ⟨rfl, q4, rfl⟩
      case round =>
        obtain ⟨rfl, q, rfl⟩ := hrel
        have hD : But [] wc (wc.drewN q) := (But.refl [] wc).drewN q
        have hfin := ints_same (c := c') (d := cap) (HIO.out.but hD (by simp)) (HLW.out.but hD (by simp)) hm
        have HFIN := Lib.hid hfin
        have HD := Lib.hid hD
        clear hfin hD
        go_wp2_with fail
        refine HFIN.out.mono ?_
        rintro e w5 ⟨rfl, q5, hq5⟩
        have hB5 := (HB.out.trans HD.out).drewN q5
        rw [← hq5] at hB5
        have HB5 := Lib.hid hB5
        clear hB5 hq5
        go_wp2_with fail
        refine (awake_any _).mono ?_
        rintro e w6 ⟨rfl, hB6⟩
        have HFF := Lib.hid (HB5.out.trans hB6).belowNew
        clear hB6
        go_wp2
        go_ret
        exact ⟨rfl, HFF.out⟩
end Go.Proofs.Ytmafcmfafcjokaa
