/- The program's tokens of bytes. -/
import Derived.Test.YtbdackcfedcmkaaLzD
import Derived.WalkMore
import Derived.ScopeJumps
import Derived.Deep.AppendLies
set_option maxRecDepth 100000
set_option linter.unusedVariables false
namespace Go.Proofs.Ytbdackcfedcmkaa
set_option maxRecDepth 100000
open Go Go.RowKit

theorem OwnK.pushed {w wr w' : World} {v v' : Value} {L : List T3} {x : T3} {cs : Array Value} {t : TypeId} (hB : But [] w wr) (hO : OwnK wr w.heap.size v L)
    (h1 : w'.ownsRow w.heap.size 34 3 v' (L.length + 1) (tkCells L ++ [.int .i64 x.2.2, .int .i64 x.1, .int .i64 x.2.1])) (hg : (wr.alloc (.cells cs t)).grownBy w' v.ownBlock) :
    OwnK w' w.heap.size v' (L ++ [x]) ∧ But [] w w' := by
  refine ⟨?_, (hB.alloc _).grown hg (fun g e => .inr (hO.lt g e).1)⟩
  unfold OwnK
  rw [List.length_append, tkCells_append]
  simpa [tkCells] using h1
/-- Tokens, in a slice of the call's own. -/
def GotK (w : World) (L : List T3) (e : Ending) (w' : World) : Prop := ∃ v, e = .returned v ∧ OwnK w' w.heap.size v L ∧ But [] w w'
theorem toks_step_m {l : List UInt8} {i : Nat} (hi : i < l.length) (h : 3 ≤ (bestAt l i).1) : (toksG l (l.length - i) i).map tkI = (((bestAt l i).1 : Int), ((bestAt l i).2 : Int), (0 : Int)) :: (toksG l (l.length - (i + (bestAt l i).1)) (i + (bestAt l i).1)).map tkI := by
  obtain ⟨f, hf⟩ : ∃ f, l.length - i = f + 1 := ⟨l.length - i - 1, by omega⟩
  rw [hf, toksG, if_pos hi, if_pos h, List.map_cons, toksG_more l (l.length - (i + (bestAt l i).1)) f _ (by omega) (by omega)]; rfl
theorem toks_step_l {l : List UInt8} {i : Nat} (hi : i < l.length) (h : ¬ 3 ≤ (bestAt l i).1) : (toksG l (l.length - i) i).map tkI = ((0 : Int), (0 : Int), ((l.getD i 0).toNat : Int)) :: (toksG l (l.length - (i + 1)) (i + 1)).map tkI := by
  obtain ⟨f, hf⟩ : ∃ f, l.length - i = f + 1 := ⟨l.length - i - 1, by omega⟩
  rw [hf, toksG, if_pos hi, if_neg h, List.map_cons, toksG_more l (l.length - (i + 1)) f _ (by omega) (by omega)]; rfl
theorem toks_step_e {l : List UInt8} {i : Nat} (hi : ¬ i < l.length) : (toksG l (l.length - i) i).map tkI = [] := by
  rw [show l.length - i = 0 by omega]; rfl
set_option maxHeartbeats 2000000 in
theorem tokens_any (w : World) {s : ByteArray} (hs : s.size ≤ 1000000) :
    Calls Try.prog 8 #[.string s] w (GotK w ((toks s.data.toList).map tkI)) := by
  obtain ⟨i0, hi0, hz0, hz1, hz2⟩ := info_parts info_tok
  have he := tok_eql
  have HLL := Lib.hid (len_data s)
  go_enter Try.func8, Try.ntmps8
  go_wp2
  go_step3
  go_wp2
  go_step3
  go_wp2
  go_loopw [3, 4] (fun tv av wr => ∃ (i : Nat) (L : List T3), i ≤ s.size ∧ av = .int .i64 i ∧ L.length ≤ i ∧ Hid (L ++ (toksG s.data.toList (s.data.toList.length - i) i).map tkI = (toks s.data.toList).map tkI) ∧ Hid (OwnK wr w.heap.size tv L) ∧ Hid (But [] w wr)) (fun _ av _ => s.size - (intOf av).toNat)
  case atStart => exact ⟨0, [], Nat.zero_le _, rfl, Nat.le_refl _, Lib.hid rfl, Lib.hid (OwnK.nil _ _), Lib.hid (But.refl _ _)⟩
  case round =>
    obtain ⟨i, L, hi, rfl, hL, HM, HO, HB⟩ := hrel
    have hsz := HB.out.size
    by_cases hlt : i < s.size
    · go_wp2_with fail
      refine (longest_any wr hlt hs).mono ?_
      rintro e w1 ⟨rfl, hB1⟩
      have HB1 := Lib.hid (HB.out.fresh hB1 (by simp))
      have HO1 := Lib.hid (HO.out.but hB1)
      have hsz1 := HB1.out.size
      clear hB1
      by_cases h3 : 3 ≤ (bestAt s.data.toList i).1
      · have HST := Lib.hid (toks_step_m (l := s.data.toList) (i := i) (by rw [HLL.out]; exact hlt) h3)
        obtain ⟨b1, b2, b3, b4, b5, b6⟩ := best_match (l := s.data.toList) (i := i) (by rw [HLL.out]; exact hlt) h3
        have hlg : lgAt s.data.toList i = (((bestAt s.data.toList i).1 : Int), ((bestAt s.data.toList i).2 : Int), (0 : Int)) := by unfold lgAt; rw [if_pos h3]
        rw [hlg]
        rw [HLL.out] at b5
        generalize (bestAt s.data.toList i).1 = n at *
        generalize (bestAt s.data.toList i).2 = d at *
        clear hlg b6
        unfold tkVal
        have hd0 : decide ((0 : Int) = 0 ∧ (n : Int) = 0 ∧ (d : Int) = 0) = false := by simp; omega
        have hd1 : decide ((n : Int) = 0 ∧ (d : Int) = 0) = false := by simp; omega
        have HB2 := Lib.hid (HB1.out.alloc (.cells #[.int .i64 0, .int .i64 n, .int .i64 d] 34))
        have HO2 : Hid (OwnK (w1.alloc (.cells #[.int .i64 0, .int .i64 n, .int .i64 d] 34)) w.heap.size u3 L) := Lib.hid (HO1.out.but ((But.refl [] w1).alloc _))
        have HI2 : Hid (Is (w1.alloc (.cells #[.int .i64 0, .int .i64 n, .int .i64 d] 34)) w1.heap.size 34 #[.int .i64 0, .int .i64 n, .int .i64 d]) := Lib.hid (Is.fresh w1 _ _)
        go_wp2_with (at_builtin; refine wpList_append_own _ rfl _ _ 23 rfl w.heap.size 34 i0 (.agg #[.int .i64 0, .int .i64 0, .int .i64 0]) 3 24 Try.underlying23 hi0 hz0 hz1 hz2 rfl (by decide) _ L.length (tkCells L) rfl (World.ownsRow.alloc HO2.out _) ⟨w1.heap.size + 1, 0, none⟩ 1 1 [.int .i64 0, .int .i64 n, .int .i64 d] rfl rfl ?c1 ?c2 ?c3 ?c4 ?c5 ?_)
        case c1 => exact World.news_of_block (cs := #[.int .i64 0, .int .i64 n, .int .i64 d]) (t := 34) (fr := (0, 0)) (heap_alloc2_new w1 _ _)
        case c2 => simp [Value.oneCell']
        case c3 => unfold maxLen; omega
        case c4 => omega
        case c5 => simp; omega
        intro v' w2 hown2 hgrow2 _
        have hP := OwnK.pushed (x := ((n : Int), (d : Int), (0 : Int))) HB2.out HO2.out hown2 hgrow2
        have HP := Lib.hid hP
        have hI3 : Is w2 w1.heap.size 34 #[.int .i64 0, .int .i64 n, .int .i64 d] := (HI2.out.alloc _).grown hgrow2 (by
          intro e
          have := (HO1.out.lt _ e.symm).2
          omega)
        have c1 : w2.cell? ⟨w1.heap.size, 1, none⟩ = some (.int .i64 n) := hI3.cell 1
        clear hown2 hgrow2 hP hI3
        go_wp2
        go_roundw
        case rel => exact ⟨i + n, L ++ [((n : Int), (d : Int), (0 : Int))], by omega, by go_num, by rw [List.length_append, List.length_singleton]; omega, Lib.hid (by rw [← HM.out, HST.out, List.append_assoc]; rfl), Lib.hid HP.out.1, Lib.hid HP.out.2⟩
        case measure => simp [intOf]; omega
      · have HST := Lib.hid (toks_step_l (l := s.data.toList) (i := i) (by rw [HLL.out]; exact hlt) h3)
        have hlg : lgAt s.data.toList i = ((0 : Int), (0 : Int), (0 : Int)) := by unfold lgAt; rw [if_neg h3]
        have HBA := Lib.hid (byte_at s hlt)
        have hwr : wrap64 (s[i].toNat : Int) = (s[i].toNat : Int) := by have := s[i].toNat_lt; unfold wrap64; omega
        rw [hlg]
        unfold tkVal
        have hd0 : decide ((0 : Int) = 0 ∧ (0 : Int) = 0 ∧ (0 : Int) = 0) = true := by simp
        have hi1 : (0 : Int) ≤ (i : Int) := by omega
        clear hlg h3
        have HB2 := Lib.hid (HB1.out.alloc (.cells #[.int .i64 0, .int .i64 0, .int .i64 0] 34))
        have HO2 : Hid (OwnK (w1.alloc (.cells #[.int .i64 0, .int .i64 0, .int .i64 0] 34)) w.heap.size u3 L) := Lib.hid (HO1.out.but ((But.refl [] w1).alloc _))
        go_wp2_with (at_builtin; refine wpList_append_own _ rfl _ _ 23 rfl w.heap.size 34 i0 (.agg #[.int .i64 0, .int .i64 0, .int .i64 0]) 3 24 Try.underlying23 hi0 hz0 hz1 hz2 rfl (by decide) _ L.length (tkCells L) rfl (World.ownsRow.alloc HO2.out _) ⟨w1.heap.size + 1, 0, none⟩ 1 1 [.int .i64 s[i].toNat, .int .i64 0, .int .i64 0] rfl rfl ?d1 ?d2 ?d3 ?d4 ?d5 ?_)
        case d1 => exact World.news_of_block (cs := #[.int .i64 s[i].toNat, .int .i64 0, .int .i64 0]) (t := 34) (fr := (0, 0)) (heap_alloc2_new w1 _ _)
        case d2 => simp [Value.oneCell']
        case d3 => unfold maxLen; omega
        case d4 => omega
        case d5 => simp; omega
        intro v' w2 hown2 hgrow2 _
        have hP := OwnK.pushed (x := ((0 : Int), (0 : Int), (s[i].toNat : Int))) HB2.out HO2.out hown2 hgrow2
        have HP := Lib.hid hP
        clear hown2 hgrow2 hP
        go_wp2
        go_roundw
        case rel => exact ⟨i + 1, L ++ [((0 : Int), (0 : Int), (s[i].toNat : Int))], by omega, by go_num, by rw [List.length_append, List.length_singleton]; omega, Lib.hid (by rw [← HM.out, HST.out, HBA.out, List.append_assoc]; rfl), Lib.hid HP.out.1, Lib.hid HP.out.2⟩
        case measure => simp [intOf]; omega
    · go_wp2
      (try rw [Exit.noGoto_ret])
      go_ret
      have e : i = s.size := by omega
      refine ⟨_, rfl, ?_, HB.out⟩
      have h := HM.out
      rw [toks_step_e (by rw [HLL.out]; exact hlt), List.append_nil] at h
      rw [← h]; exact HO.out
end Go.Proofs.Ytbdackcfedcmkaa
