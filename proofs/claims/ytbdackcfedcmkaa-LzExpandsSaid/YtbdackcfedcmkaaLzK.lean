/- The walks of the statements of layer 4. -/
import Derived.Test.YtbdackcfedcmkaaLzJ
import Derived.OwnWalk
import Derived.Lib.AppendStr
set_option maxRecDepth 100000
set_option linter.unusedVariables false
namespace Go.Proofs.Ytbdackcfedcmkaa
set_option maxRecDepth 100000
open Go Go.RowKit Go.ChangeShapes Go.WideShapes

/-- A slice of tokens that is handed in. -/
def TkArg (w : World) (A : Option Addr) (len cap : Nat) (L : List T3) : Prop := Tks w A len L ∧ len ≤ cap ∧ cap ≤ maxLen ∧ (A = none → cap = 0)
theorem open_toks {H : Type} {enc : TypeId × Value → H} {W : World} {base : Nat} {v : Value} {d : DataW H} {p : List MemPlace} (hv : Value.okWide Try.prog W .any base 23 v)
    (hk : DataW.Trod enc Try.prog W 0 (fun _ => true) true 23 v d p) : ∃ A len cap L, v = .slice A len cap ∧ TkArg W A len cap L := by
  obtain ⟨a0, len, cap, rfl⟩ := okWide_slice Try.underlying23 hv
  obtain ⟨fuel, hf⟩ := hk
  rcases Deep.open_slice Try.underlying23 hf with ⟨hcs, _⟩ | ⟨a, len', cap', m, n, D, Pl, hcs, hb, hl, hm, hmm, hx, hi⟩
  · simp [Value.cells] at hcs
    obtain ⟨rfl, rfl, rfl⟩ := hcs
    exact ⟨none, 0, 0, [], rfl, ⟨rfl, fun h => absurd h (by omega)⟩, Nat.le_refl _, Nat.zero_le _, fun _ => rfl⟩
  · simp [Value.cells] at hcs
    obtain ⟨rfl, rfl, rfl⟩ := hcs
    have hmc : m = cap := by simpa using hmm
    rw [cells_tok] at hi
    have hel : ∀ i, i < len → ∃ q : T3, W.cell? (a.add (i * 3 + 0)) = some (.int .i64 q.2.2) ∧ W.cell? (a.add (i * 3 + 1)) = some (.int .i64 q.1) ∧ W.cell? (a.add (i * 3 + 2)) = some (.int .i64 q.2.1) := by
      intro i hil
      obtain ⟨cs', h1, h2⟩ := hi i (by omega)
      obtain ⟨_, hlen, hat⟩ := World.cells?_some h1
      obtain ⟨ys, n', _, _, _, hyl, hfs⟩ := DataW.trod_struct Try.underlying34 h2
      match cs', hlen with
      | [x0, x1, x2], _ =>
        have g0 := hfs 0 _ rfl
        have g1 := hfs 1 _ rfl
        have g2 := hfs 2 _ rfl
        have hy : ys.length = 3 := hyl
        have k1 : Try.prog.cellsOf 3 = 1 := by kernel_rfl
        have e0 : ys[0]? = some ys[0] := List.getElem?_eq_getElem (by omega)
        have e1 : ys[1]? = some ys[1] := List.getElem?_eq_getElem (by omega)
        have e2 : ys[2]? = some ys[2] := List.getElem?_eq_getElem (by omega)
        rw [e0] at g0
        rw [e1] at g1
        rw [e2] at g2
        obtain ⟨q0, c0, _, _⟩ := DataW.trod_int Try.underlying3 g0
        obtain ⟨q1, c1, _, _⟩ := DataW.trod_int Try.underlying3 g1
        obtain ⟨q2, c2, _, _⟩ := DataW.trod_int Try.underlying3 g2
        have c0 : ([x0, x1, x2].drop 0).take (Try.prog.cellsOf 3) = [.int .i64 q0] := c0
        have c1 : ([x0, x1, x2].drop 1).take (Try.prog.cellsOf 3) = [.int .i64 q1] := c1
        have c2 : ([x0, x1, x2].drop 2).take (Try.prog.cellsOf 3) = [.int .i64 q2] := c2
        rw [k1] at c0 c1 c2
        have d0 : x0 = .int .i64 q0 := by simpa using c0
        have d1 : x1 = .int .i64 q1 := by simpa using c1
        have d2 : x2 = .int .i64 q2 := by simpa using c2
        rw [← Deep.add_add, ← Deep.add_add, ← Deep.add_add]
        exact ⟨(q1, q2, q0), by rw [hat 0 (by omega)]; simp [d0], by rw [hat 1 (by omega)]; simp [d1], by rw [hat 2 (by omega)]; simp [d2]⟩
    obtain ⟨V, hV⟩ := Deep.choose_lt hel
    refine ⟨some a, len, cap, (List.range len).map V, rfl, ⟨by simp, fun hp => ?_⟩, hl, hm, fun e => by cases e⟩
    obtain ⟨g, o, spot⟩ := a
    have hs : spot = none := by
      have := World.cell?_spot (hV 0 hp).1
      simpa [Addr.add] using this
    subst hs
    have hlt : g < W.heap.size := by
      have := World.block_lt_of_cell? W _ (hV 0 hp).1
      simpa [Addr.add] using this
    refine ⟨g, o, rfl, hlt, fun i hi => ?_⟩
    have hi' : i < len := by simpa using hi
    obtain ⟨c0, c1, c2⟩ := hV i hi'
    rw [add_plain] at c0 c1 c2
    simp only [List.getElem_map, List.getElem_range]
    exact ⟨c0, by rw [Nat.add_assoc]; exact c1, by rw [Nat.add_assoc]; exact c2⟩

set_option maxHeartbeats 2000000 in
theorem lzTokens_walk {s : ByteArray} {w : World} (hs : s.size ≤ 140737488351232) :
    Calls Try.prog 3 #[.string s] w fun e w' => e = .returned (.bool true) ∧ Below w.heap.size w w' := by
  have hal := toks_few s.data.toList
  rw [len_data] at hal
  by_cases hbig : 20000 < s.size
  · go_enter Try.func3, Try.ntmps3
    go_wp2_with fail
    refine (awake_any w).mono ?_
    rintro e w1 ⟨rfl, hB1⟩
    have HB1 := Lib.hid hB1
    clear hB1
    go_wp2
    go_ret
    exact ⟨rfl, HB1.out.belowNew⟩
  · have hT := fun v => tokens_any v (s := s) (by omega)
    have hR := fun v => rtokens_any v (s := s) (by omega)
    obtain ⟨P, hP⟩ : ∃ P, P = (toks s.data.toList).map tkI := ⟨_, rfl⟩
    have hPl : P.length ≤ 1000000 := by rw [hP, List.length_map]; omega
    rw [← hP] at hT hR
    have HT := Lib.hid hT
    have HR := Lib.hid hR
    clear hT hR hP hal
    go_enter Try.func3, Try.ntmps3
    go_wp2_with fail
    refine (HT.out w).mono ?_
    rintro e w1 ⟨v, rfl, hO1, hB1⟩
    obtain ⟨A1, c1, rfl, hT1⟩ := hO1.open
    have HB1 := Lib.hid hB1
    have HT1 := Lib.hid hT1
    clear hO1 hB1 hT1
    go_wp2_with fail
    refine (HR.out w1).mono ?_
    rintro e w2 ⟨v, rfl, hO2, hB2⟩
    obtain ⟨A2, c2, rfl, hT2⟩ := hO2.open
    have HB2 := Lib.hid (HB1.out.trans hB2)
    have HT12 := Lib.hid (HT1.out.but hB2)
    have HT2 := Lib.hid hT2
    clear hO2 hB2 hT2 HB1 HT1
    go_wp2_with fail
    refine (tks_same HT12.out HT2.out hPl).mono ?_
    rintro e w3 ⟨rfl, q3, rfl⟩
    have HB3 := Lib.hid (HB2.out.drewN q3)
    clear HT12 HT2 HB2
    go_wp2_with fail
    refine (awake_any _).mono ?_
    rintro e w4 ⟨rfl, hB4⟩
    have HB4 := Lib.hid (HB3.out.trans hB4)
    clear hB4 HB3
    go_wp2
    go_ret
    exact ⟨rfl, HB4.out.belowNew⟩

theorem own_made (w : World) : (w.alloc (.cells #[] 34)).ownsRow w.heap.size 34 3 (.slice (some ⟨w.heap.size, 0, none⟩) 0 0) 0 [] :=
  ⟨rfl, .inr ⟨w.heap.size, 0, #[], rfl, Nat.le_refl _, Is.fresh w 34 #[], Nat.le_refl _, Nat.zero_le _, rfl, rfl⟩⟩
set_option maxHeartbeats 2000000 in
theorem lzExpands_walk {A : Option Addr} {len cap : Nat} {L : List T3} {w : World} (hl : TkArg w A len cap L) :
    Calls Try.prog 4 #[.slice A len cap] w fun e w' => e = .returned (.bool true) ∧ Below w.heap.size w w' := by
  obtain ⟨hT, hlc, hcm, hnil⟩ := hl
  unfold maxLen at hcm
  by_cases hbig : 2000 < len
  · clear hT hnil
    go_enter Try.func4, Try.ntmps4
    go_wp2_with fail
    refine (awake_any w).mono ?_
    rintro e w1 ⟨rfl, hB1⟩
    have HB1 := Lib.hid hB1
    clear hB1
    go_wp2
    go_ret
    exact ⟨rfl, HB1.out.belowNew⟩
  · obtain ⟨i0, hi0, hz0, hz1, hz2⟩ := info_parts info_tok
    have HLEN := Lib.hid hT.1
    have hmade := own_made w
    have HMADE := Lib.hid hmade
    have HNIL := Lib.hid hnil
    have HT := Lib.hid hT
    clear hmade hnil hT
    go_enter Try.func4, Try.ntmps4
    go_upto_region 3 with (fail)
    go_cut [3] from 12 to 14 (fun v w1 => ∃ A' c', v = .slice A' len c' ∧ OwnK w1 w.heap.size (.slice A' len c') L ∧ But [] w w1)
    case first =>
      by_cases h0 : len = 0
      · subst h0
        have hl0 : L = [] := List.eq_nil_of_length_eq_zero HLEN.out
        have HL0 := Lib.hid hl0
        clear hl0
        go_wp2_with (at_builtin; refine wpList_append_fits_any _ rfl _ _ 23 rfl w.heap.size 34 i0 3 Try.underlying23 hi0 hz1 w.heap.size 0 0 [] rfl HMADE.out A 0 cap [] rfl rfl (fun e => ⟨rfl, HNIL.out e⟩) (fun ad _ j u hu => by simp at hu) (by simp) (by omega) ?_; intro w1 hown hgrow)
        go_meet
        refine ⟨some ⟨w.heap.size, 0, none⟩, 0, rfl, ?_, ((But.refl [] w).alloc _).grown hgrow (fun g e => by injection e with e; subst e; exact .inr (Nat.le_refl _))⟩
        rw [HL0.out]; exact hown
      · obtain ⟨g, o, _, _, _, rfl, hg, _, _, _, _⟩ := HT.out.at (show 0 < len by omega)
        have hnw := (HT.out.but ((But.refl [] w).alloc (.cells #[] 34))).news (by omega)
        have HNW := Lib.hid hnw
        clear hnw
        go_wp2_with (at_builtin; refine wpList_append_own _ rfl _ _ 23 rfl w.heap.size 34 i0 (.agg #[.int .i64 0, .int .i64 0, .int .i64 0]) 3 24 Try.underlying23 hi0 hz0 hz1 hz2 rfl (by decide) _ 0 [] rfl HMADE.out ⟨g, o, none⟩ len cap (tkCells L) rfl (by rw [length_tkCells, HLEN.out]) HNW.out ?c2 ?c3 ?c4 ?c5 ?_)
        case c2 =>
          intro u hu
          unfold tkCells at hu
          obtain ⟨x, _, hx⟩ := List.mem_flatMap.1 hu
          simp at hx
          rcases hx with rfl | rfl | rfl <;> rfl
        case c3 => unfold maxLen; omega
        case c4 => omega
        case c5 => simp
        intro v' w1 hown hgrow _
        obtain ⟨g4, c4, rfl⟩ : ∃ g4 c4, v' = .slice (some ⟨g4, 0, none⟩) len c4 := by
          rcases hown.2 with ⟨_, e⟩ | ⟨g4, c4, cur, e, _⟩
          · omega
          · exact ⟨g4, c4, by simpa using e⟩
        have HOWN := Lib.hid hown
        have HGR := Lib.hid hgrow
        clear hown hgrow
        go_wp2
        go_meet
        refine ⟨some ⟨g4, 0, none⟩, c4, rfl, ?_, ((But.refl [] w).alloc _).grown HGR.out (fun g e => by
          have : w.heap.size = g := by simpa [Value.ownBlock] using e
          exact .inr (by omega))⟩
        have h := HOWN.out
        unfold OwnK
        rw [HLEN.out]
        simpa using h
    case rest =>
      obtain ⟨A', c', rfl, hO, hB⟩ := hcut
      obtain ⟨A2, c2, e2, hT2⟩ := hO.open
      injection e2 with e3 e4 e5
      rw [← e3, HLEN.out] at hT2
      clear e3 e4 e5
      obtain ⟨w1, rfl⟩ : ∃ w1 : World, w1 = wc := ⟨_, rfl⟩
      have HB := Lib.hid hB
      have HTO := Lib.hid hT2
      have HTL := Lib.hid (HT.out.but hB)
      clear hB hT2 hO HMADE HNIL
      obtain ⟨r, hr⟩ : ∃ r, r = exG L [] := ⟨_, rfl⟩
      have hE := fun v h => expand_any (w := v) (A := A') (c := c') (L := L) (n := len) h (by omega)
      have hF := fun v h => rexpand_any (w := v) (A := A) (c := cap) (L := L) (n := len) h (by omega)
      rw [← hr] at hE hF
      have HE := Lib.hid hE
      have HF := Lib.hid hF
      clear hr hE hF
      obtain ⟨x, y, hxy⟩ : ∃ x y, exVal r = .tuple #[.string x, .int .i64 y] := by
        unfold exVal; cases r <;> exact ⟨_, _, rfl⟩
      rw [hxy] at HE HF
      clear hxy
      go_wp2_with fail
      refine (HE.out w1 HTO.out).mono ?_
      rintro e w2 ⟨rfl, hB2⟩
      have HB2 := Lib.hid (HB.out.trans hB2)
      have HTO2 := Lib.hid (HTO.out.but hB2)
      have HTL2 := Lib.hid (HTL.out.but hB2)
      clear hB2 HB HTO HTL HE
      go_wp2_with fail
      refine (HF.out w2 HTL2.out).mono ?_
      rintro e w3 ⟨rfl, hB3⟩
      have HB3 := Lib.hid (HB2.out.trans hB3)
      have HTO3 := Lib.hid (HTO2.out.but hB3)
      have HTL3 := Lib.hid (HTL2.out.but hB3)
      clear hB3 HB2 HTO2 HTL2 HF
      have exx : (x.toList == x.toList) = true := by simp
      go_wp2_with fail
      refine (tks_same HTO3.out HTL3.out (by omega)).mono ?_
      rintro e w4 ⟨rfl, q4, rfl⟩
      have HB4 := Lib.hid (HB3.out.drewN q4)
      clear HB3 HTO3 HTL3
      go_wp2_with fail
      refine (awake_any _).mono ?_
      rintro e w5 ⟨rfl, hB5⟩
      have HB5 := Lib.hid (HB4.out.trans hB5)
      clear hB5 HB4
      go_wp2
      go_ret
      exact ⟨rfl, HB5.out.belowNew⟩
end Go.Proofs.Ytbdackcfedcmkaa
