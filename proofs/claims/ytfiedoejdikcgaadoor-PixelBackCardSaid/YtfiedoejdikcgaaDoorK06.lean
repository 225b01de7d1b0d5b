/- Several texts in one: PxC, HpA, HpD (what PixelBack, PixelChecks reach of them). -/
import Derived.Test.YtfiedoejdikcgaaDoorK01
import Derived.Test.YtfiedoejdikcgaaDoorK02
import Derived.Test.YtfiedoejdikcgaaDoorK03
import Derived.Test.YtfiedoejdikcgaaDoorK04
import Derived.Test.YtfiedoejdikcgaaDoorK05
import Derived.Below
import Derived.BigQuiet
import Derived.BigRegion
import Derived.Deep.AppendLies
import Derived.Deep.CutBlock
import Derived.Deep.CutRange
import Derived.Deep.DeepCutAuto
import Derived.Deep.Draws
import Derived.Deep.QuietTactic
import Derived.Deep.RegionLaw
import Derived.Deep.RegionWith
import Derived.Handy
import Derived.Laws.BitsAllLaws
import Derived.Laws.BitsLemmas
import Derived.Laws.BytesArg
import Derived.Laws.IdiomStrings
import Derived.Laws.MakeOwn
import Derived.Laws.OwnMore
import Derived.Laws.Rows
import Derived.Laws.StructEq
import Derived.Lib.BufferWrite
import Derived.Lib.Hide
import Derived.Maps.AppendAt
import Derived.OrdersHeld
import Derived.OrdersIn
import Derived.Outline
import Derived.OwnWalk
import Derived.OwnWalkIn
import Derived.RangeFuncCalls
import Derived.RegionTactic
import Derived.TacticsInMore
import Derived.Test.YtfiedoejdikcgaaDoorChecked
import Derived.WalkKit
set_option maxRecDepth 100000
set_option linter.unusedVariables false
set_option maxRecDepth 100000
set_option linter.unusedVariables false
namespace Go.Proofs.YtfiedoejdikcgaaDoor
set_option maxRecDepth 100000
open Go Go.RowKit
theorem Pss.keep {w w' : World} {A : Option Addr} {n gp : Nat} {L : List P6} {l : List UInt8} (h : Pss w A n L) (hb : BytesB w gp l) (hw : But [gp] w w') : Pss w' A n L :=
  ⟨h.1, fun hn => by
    obtain ⟨g, o, e, hg, hc⟩ := h.2 hn
    have h0 : 0 < L.length := by rw [h.1]; exact hn
    have hc0 : w.cell? ⟨g, o + 0 * 6 + 0, none⟩ = some (.int .i64 (L[0].1 : Nat)) := hc 0 0 h0 (by decide)
    have hoff := hb.off hc0
    refine ⟨g, o, e, Nat.lt_of_lt_of_le hg hw.size, fun i k hi hk => ?_⟩
    have h1 := hc i k hi hk
    rw [← h1]
    have hb := hw.block g hg hoff
    simp [World.cell?, hb]⟩
theorem runI_above {S : ShP} {js : List RowJ} (h : ∀ j, js.head? = some j → j.first = true) (raw A B pix : List UInt8) : runI S js raw A pix = runI S js raw B pix := by
  cases js with
  | nil => rfl
  | cons j js =>
    have hj := h j rfl
    rw [runI, runI, hj]
    rfl
theorem jobs_head {w h : Nat} : ∀ L : List PassL, (∀ p, p ∈ L → someP w h p = true) → ∀ j, (jobsL w h L).head? = some j → j.first = true := by
  intro L hL j hj
  cases L with
  | nil => cases hj
  | cons p L =>
    have hp := of_decide_eq_true (hL p (List.mem_cons_self ..))
    have e : jobsL w h (p :: L) = leftJ w h (p :: L) 0 p 0 := (leftJ_start (L := p :: L) (i := 0) rfl hp.1).symm
    rw [e, leftJ_next hp.2] at hj
    have : jobP w p 0 = j := Option.some.inj hj
    rw [← this]
    rfl
theorem sampleN_lt (row : List UInt8) (D i : Nat) : sampleN row D i < 2 ^ D := by
  unfold sampleN
  exact valN_lt fun b _ => bitN_lt _ _
theorem samps_cut {S : ShP} {line : List UInt8} {N x : Nat} (hx : x < N) : ((unpackT line S.d (samplesN S.c * N)).drop (samplesN S.c * x)).take (samplesN S.c) = sampsL S line x := by
  have h1 : samplesN S.c * (x + 1) ≤ samplesN S.c * N := Nat.mul_le_mul_left _ hx
  rw [Nat.mul_add, Nat.mul_one] at h1
  unfold sampsL unpackT
  apply List.ext_getElem
  · rw [List.length_take, List.length_drop, List.length_map, List.length_range, List.length_map, List.length_range]
    omega
  · intro i h2 h3
    rw [List.getElem_take, List.getElem_drop, List.getElem_map, List.getElem_map, List.getElem_range, List.getElem_range]
theorem sampsL_lt (S : ShP) (line : List UInt8) (x i : Nat) : (sampsL S line x).getD i 0 < 2 ^ S.d := by
  unfold sampsL
  rw [List.getD_eq_getElem?_getD, List.getElem?_map]
  cases (List.range (samplesN S.c))[i]? with
  | none => exact Nat.pow_pos (by decide)
  | some k => exact sampleN_lt _ _ _
theorem sampsL_length (S : ShP) (line : List UInt8) (x : Nat) : (sampsL S line x).length = samplesN S.c := by unfold sampsL; rw [List.length_map, List.length_range]
theorem pixel_samps {a b d c l : Int} {W H D C : Nat} {pal tr : ByteArray} {has : Bool} (R : RightP a b d c l W H D C) (line : List UInt8) (x : Nat) :
    pixelA (D : Int) (C : Int) pal tr has ((sampsL ⟨W, H, D, C, pal.data.toList, tr.data.toList, has⟩ line x).map fun y => ((y : Nat) : Int)) =
      (strL (pixS ⟨W, H, D, C, pal.data.toList, tr.data.toList, has⟩ (sampsL ⟨W, H, D, C, pal.data.toList, tr.data.toList, has⟩ line x)).1, (pixS ⟨W, H, D, C, pal.data.toList, tr.data.toList, has⟩ (sampsL ⟨W, H, D, C, pal.data.toList, tr.data.toList, has⟩ line x)).2) := by
  have hlt : ∀ i, (sampsL ⟨W, H, D, C, pal.data.toList, tr.data.toList, has⟩ line x).getD i 0 < 2 ^ D := sampsL_lt ⟨W, H, D, C, pal.data.toList, tr.data.toList, has⟩ line x
  rw [pixelA_ok (n := samplesN C) (by rw [List.length_map]; exact sampsL_length _ _ _) R.sam (by have := R.s1; omega) R.dep, pixA_S R.dep hlt]
  refine inR_yes fun i y hy => ?_
  have hg := getD_of hy
  rw [map_getD] at hg
  have := hlt i
  rw [← hg]
  constructor
  · omega
  · exact_mod_cast this
/-- The shape and the answer's block stand. -/
def ImS (b0 b4 : Nat) (cs : Array Value) (v : World) : Prop := Is v b0 31 cs ∧ Is v b4 23 #[.int .i64 0, .int .i64 0, .string ⟨#[]⟩]
theorem ImS.but {b0 b4 : Nat} {cs : Array Value} {v v' : World} (h : ImS b0 b4 cs v) (k : But [] v v') : ImS b0 b4 cs v' := ⟨h.1.but k (by simp), h.2.but k (by simp)⟩
end Go.Proofs.YtfiedoejdikcgaaDoor
set_option maxRecDepth 100000
set_option linter.unusedVariables false
namespace Go.Proofs.YtfiedoejdikcgaaDoor
set_option maxRecDepth 100000
open Go Go.RowKit
set_option maxHeartbeats 1000000 in
theorem psamples_any (w : World) (c : Int) : Calls Tryd.prog 63 #[.int .i64 c] w fun e w' => e = .returned (.int .i64 (samplesI c)) ∧ w = w' := by
  obtain ⟨r, hr⟩ : ∃ r, r = samplesI c := ⟨_, rfl⟩
  rw [← hr]
  have HR := Lib.hid hr
  clear hr
  go_enter Tryd.func63, Tryd.ntmps63
  go_wp2
  all_goals
    go_ret
    refine ⟨?_, rfl⟩
    rw [HR.out]
    unfold samplesI
    clear HR
    simp at *
    try simp [*]
set_option maxHeartbeats 1000000 in
theorem pside_any (w : World) (n : Int) : Calls Tryd.prog 39 #[.int .i64 n] w fun e w' => e = .returned (.bool (decide (1 ≤ n ∧ n ≤ 2147483647))) ∧ w = w' := by
  obtain ⟨s, hs⟩ : ∃ s, s = decide (1 ≤ n ∧ n ≤ 2147483647) := ⟨_, rfl⟩
  rw [← hs]
  by_cases h1 : 1 ≤ n
  · by_cases h2 : n ≤ 2147483647
    · have HN := Lib.hid (show s = true by rw [hs]; exact decide_eq_true ⟨h1, h2⟩)
      clear hs
      go_enter Tryd.func39, Tryd.ntmps39
      go_wp2
      go_ret
      exact ⟨by rw [HN.out]; rfl, rfl⟩
    · have HN := Lib.hid (show s = false by rw [hs]; exact decide_eq_false fun h => h2 h.2)
      clear hs
      go_enter Tryd.func39, Tryd.ntmps39
      go_wp2
      go_ret
      exact ⟨by rw [HN.out]; rfl, rfl⟩
  · have HN := Lib.hid (show s = false by rw [hs]; exact decide_eq_false fun h => h1 h.1)
    clear hs
    go_enter Tryd.func39, Tryd.ntmps39
    go_wp2
    go_ret
    exact ⟨by rw [HN.out]; rfl, rfl⟩
theorem take_in {l : List Int} {i : Nat} {x : Int} (h : i < l.length) (h1 : ¬ x ∈ l.take i) (h2 : ¬ x = l[i]) : ¬ x ∈ l.take (i + 1) := by
  rw [List.take_add_one, List.getElem?_eq_getElem h]
  simp only [Option.toList_some, List.mem_append, List.mem_singleton]
  rintro (h | h)
  · exact h1 h
  · exact h2 h
set_option maxHeartbeats 1000000 in
theorem pindex_any (w : World) {g n cap : Nat} {l : List Int} {x : Int} (hn : l.length = n) (hb : n ≤ 16) (hc : ∀ (j : Nat) (h : j < l.length), w.cell? ⟨g, j, none⟩ = some (.int .i64 l[j])) :
    Calls Tryd.prog 69 #[.slice (some ⟨g, 0, none⟩) n cap, .int .i64 x] w fun e w' => ∃ r : Int, e = .returned (.int .i64 r) ∧ (0 ≤ r ↔ x ∈ l) ∧ w = w' := by
  have HN := Lib.hid hn
  have HC := Lib.hid hc
  clear hn hc
  go_enter Tryd.func69, Tryd.ntmps69
  go_wp2
  go_loop [8] (fun iv => ∃ i : Nat, i ≤ n ∧ iv = .int .i64 i ∧ Hid (¬ x ∈ l.take i)) (fun iv => n - (intOf iv).toNat)
  case atStart => exact ⟨0, Nat.zero_le _, rfl, Lib.hid (by simp)⟩
  case round =>
    obtain ⟨i, hi, rfl, HT⟩ := hrel
    by_cases hlt : i < n
    · have hil : i < l.length := by rw [HN.out]; exact hlt
      have c := HC.out i hil
      have ht := take_in (x := x) hil HT.out
      have hm : l[i] ∈ l := List.getElem_mem hil
      obtain ⟨y, hy⟩ : ∃ y, y = l[i] := ⟨_, rfl⟩
      rw [← hy] at c ht hm
      have HM := Lib.hid hm
      have HTT := Lib.hid ht
      have k0 : (0 : Int) ≤ (i : Int) := by omega
      have k1 : (i : Int) < (n : Int) := by omega
      clear hy hil hm ht
      by_cases he : x = y
      · subst he
        have HM := Lib.hid (show 0 ≤ (i : Int) ↔ x ∈ l from ⟨fun _ => HM.out, fun _ => k0⟩)
        go_wp2
        go_ret
        exact ⟨(i : Int), rfl, HM.out, rfl⟩
      · have HZ := Lib.hid (HTT.out he)
        go_wp2
        go_round
        case rel => exact ⟨i + 1, by omega, by go_num, HZ⟩
        case measure => simp [intOf]; omega
    · obtain rfl : i = n := by omega
      have HM := Lib.hid (show 0 ≤ (-1 : Int) ↔ x ∈ l by
        have e : l.take i = l := List.take_of_length_le (by rw [HN.out]; exact Nat.le_refl _)
        have h := HT.out
        rw [e] at h
        exact ⟨fun h1 => absurd h1 (by decide), fun h1 => absurd h1 h⟩)
      go_wp2
      go_ret
      exact ⟨-1, rfl, HM.out, rfl⟩
set_option maxHeartbeats 1000000 in
theorem pcontains_any (w : World) {g n cap : Nat} {l : List Int} {x : Int} (hI : Is w g 3 (l.map (Value.int .i64)).toArray) (hn : l.length = n) (hb : n ≤ 16) :
    Calls Tryd.prog 58 #[.slice (some ⟨g, 0, none⟩) n cap, .int .i64 x] w fun e w' => e = .returned (.bool (decide (x ∈ l))) ∧ w = w' := by
  have H := Lib.hid (pindex_any w (cap := cap) (x := x) hn hb (fun j h => by rw [hI.cell]; simp [h]))
  obtain ⟨m, hm⟩ : ∃ m, m = decide (x ∈ l) := ⟨_, rfl⟩
  rw [← hm]
  have HM := Lib.hid hm
  clear hI hm
  go_enter Tryd.func58, Tryd.ntmps58
  go_wp2_with (go_at_call 69; refine H.out.mono ?_; rintro e w1 ⟨r, rfl, hr, hw⟩; have hd : decide (0 ≤ r) = m := (by rw [HM.out]; exact decide_eq_decide.mpr hr); clear hr; subst hw)
  go_ret
  exact ⟨rfl, rfl⟩
set_option maxHeartbeats 1000000 in
theorem pdepth_any (w : World) (c d : Int) :
    Calls Tryd.prog 40 #[.int .i64 c, .int .i64 d] w fun e w' => e = .returned (.bool (depthOk d c)) ∧ But [] w w' := by
  have P : ∀ x y : Int, ((x = y) = True ∧ (x == y) = true) ∨ ((x = y) = False ∧ (x == y) = false) := fun x y => by by_cases h : x = y <;> simp [h]
  have PP := Lib.hid P
  have H5 : Hid (∀ W : World, Calls Tryd.prog 58 #[.slice (some ⟨W.heap.size, 0, none⟩) 5 5, .int .i64 d] (W.alloc (.cells #[.int .i64 1, .int .i64 2, .int .i64 4, .int .i64 8, .int .i64 16] 3)) fun e w' => e = .returned (.bool (decide (d ∈ [1, 2, 4, 8, 16]))) ∧ (W.alloc (.cells #[.int .i64 1, .int .i64 2, .int .i64 4, .int .i64 8, .int .i64 16] 3)) = w') := Lib.hid fun W => pcontains_any _ (l := [1, 2, 4, 8, 16]) (Is.fresh _ _ _) rfl (by decide)
  have H4 : Hid (∀ W : World, Calls Tryd.prog 58 #[.slice (some ⟨W.heap.size, 0, none⟩) 4 4, .int .i64 d] (W.alloc (.cells #[.int .i64 1, .int .i64 2, .int .i64 4, .int .i64 8] 3)) fun e w' => e = .returned (.bool (decide (d ∈ [1, 2, 4, 8]))) ∧ (W.alloc (.cells #[.int .i64 1, .int .i64 2, .int .i64 4, .int .i64 8] 3)) = w') := Lib.hid fun W => pcontains_any _ (l := [1, 2, 4, 8]) (Is.fresh _ _ _) rfl (by decide)
  have H2 : Hid (∀ W : World, Calls Tryd.prog 58 #[.slice (some ⟨W.heap.size, 0, none⟩) 2 2, .int .i64 d] (W.alloc (.cells #[.int .i64 8, .int .i64 16] 3)) fun e w' => e = .returned (.bool (decide (d ∈ [8, 16]))) ∧ (W.alloc (.cells #[.int .i64 8, .int .i64 16] 3)) = w') := Lib.hid fun W => pcontains_any _ (l := [8, 16]) (Is.fresh _ _ _) rfl (by decide)
  have HB := Lib.hid (But.refl [] w)
  obtain ⟨m5, hm5⟩ : ∃ m, m = decide (d ∈ [1, 2, 4, 8, 16]) := ⟨_, rfl⟩
  obtain ⟨m4, hm4⟩ : ∃ m, m = decide (d ∈ [1, 2, 4, 8]) := ⟨_, rfl⟩
  obtain ⟨m2, hm2⟩ : ∃ m, m = decide (d ∈ [8, 16]) := ⟨_, rfl⟩
  rw [← hm5] at H5
  rw [← hm4] at H4
  rw [← hm2] at H2
  have HM5 := Lib.hid hm5
  have HM4 := Lib.hid hm4
  have HM2 := Lib.hid hm2
  clear P hm5 hm4 hm2
  rcases PP.out c 0 with ⟨p0, r0⟩ | ⟨p0, r0⟩
  · have HG := Lib.hid (show m5 = depthOk d c by rw [HM5.out, of_eq_true p0]; unfold depthOk; simp)
    go_enter Tryd.func40, Tryd.ntmps40
    go_wp2_with (go_at_call 58; refine (H5.out _).mono ?_; rintro e w1 ⟨rfl, hw⟩; subst hw)
    go_ret
    exact ⟨by rw [← HG.out]; rfl, HB.out.alloc _⟩
  rcases PP.out c 2 with ⟨p2, r2⟩ | ⟨p2, r2⟩
  · have HG := Lib.hid (show m2 = depthOk d c by rw [HM2.out, of_eq_true p2]; unfold depthOk; simp)
    go_enter Tryd.func40, Tryd.ntmps40
    go_wp2_with (go_at_call 58; refine (H2.out _).mono ?_; rintro e w1 ⟨rfl, hw⟩; subst hw)
    go_ret
    exact ⟨by rw [← HG.out]; rfl, HB.out.alloc _⟩
  rcases PP.out c 4 with ⟨p4, r4⟩ | ⟨p4, r4⟩
  · have HG := Lib.hid (show m2 = depthOk d c by rw [HM2.out, of_eq_true p4]; unfold depthOk; simp)
    go_enter Tryd.func40, Tryd.ntmps40
    go_wp2_with (go_at_call 58; refine (H2.out _).mono ?_; rintro e w1 ⟨rfl, hw⟩; subst hw)
    go_ret
    exact ⟨by rw [← HG.out]; rfl, HB.out.alloc _⟩
  rcases PP.out c 6 with ⟨p6, r6⟩ | ⟨p6, r6⟩
  · have HG := Lib.hid (show m2 = depthOk d c by rw [HM2.out, of_eq_true p6]; unfold depthOk; simp)
    go_enter Tryd.func40, Tryd.ntmps40
    go_wp2_with (go_at_call 58; refine (H2.out _).mono ?_; rintro e w1 ⟨rfl, hw⟩; subst hw)
    go_ret
    exact ⟨by rw [← HG.out]; rfl, HB.out.alloc _⟩
  rcases PP.out c 3 with ⟨p3, r3⟩ | ⟨p3, r3⟩
  · have HG := Lib.hid (show m4 = depthOk d c by rw [HM4.out, of_eq_true p3]; unfold depthOk; simp)
    go_enter Tryd.func40, Tryd.ntmps40
    go_wp2_with (go_at_call 58; refine (H4.out _).mono ?_; rintro e w1 ⟨rfl, hw⟩; subst hw)
    go_ret
    exact ⟨by rw [← HG.out]; rfl, HB.out.alloc _⟩
  · have HG := Lib.hid (show depthOk d c = false by
      have e0 := of_eq_false p0; have e2 := of_eq_false p2; have e3 := of_eq_false p3; have e4 := of_eq_false p4; have e6 := of_eq_false p6
      exact decide_eq_false (by omega))
    go_enter Tryd.func40, Tryd.ntmps40
    go_wp2
    go_ret
    exact ⟨by rw [HG.out]; rfl, HB.out⟩
end Go.Proofs.YtfiedoejdikcgaaDoor
set_option maxRecDepth 100000
set_option linter.unusedVariables false
namespace Go.Proofs.YtfiedoejdikcgaaDoor
set_option maxRecDepth 100000
open Go Go.RowKit
set_option maxHeartbeats 1000000 in
theorem pright_h (w : World) (a b d c l : Int) : Calls Tryd.prog 18 #[.agg #[.int .i64 a, .int .i64 b, .int .i64 d, .int .i64 c, .int .i64 l]] w fun e w' => e = .returned (.int .i64 (rightH a b d c l)) ∧ But [] w w' := by
  obtain ⟨r, hr⟩ : ∃ r, r = rightH a b d c l := ⟨_, rfl⟩
  rw [← hr]
  have HR := Lib.hid hr
  have hI := Is.fresh w 29 #[.int .i64 a, .int .i64 b, .int .i64 d, .int .i64 c, .int .i64 l]
  have HB := Lib.hid ((But.refl [] w).alloc (.cells #[.int .i64 a, .int .i64 b, .int .i64 d, .int .i64 c, .int .i64 l] 29))
  obtain ⟨F, hF⟩ : ∃ F : Int → Bool, ∀ n, F n = decide (1 ≤ n ∧ n ≤ 2147483647) := ⟨fun n => decide (1 ≤ n ∧ n ≤ 2147483647), fun _ => rfl⟩
  have HS : Hid (∀ (W : World) n, Calls Tryd.prog 39 #[.int .i64 n] W fun e w' => e = .returned (.bool (F n)) ∧ W = w') := Lib.hid fun W n => by rw [hF]; exact pside_any W n
  have HF := Lib.hid hF
  clear hF
  have HD := Lib.hid fun W => pdepth_any W c d
  obtain ⟨g, hg⟩ : ∃ g, g = depthOk d c := ⟨_, rfl⟩
  rw [← hg] at HD
  have HG := Lib.hid hg
  have HI := Lib.hid hI
  clear hr hI hg
  have hbad : a < 1 ∨ 2147483647 < a ∨ b < 1 ∨ 2147483647 < b ∨ g = false ∨ (l ≠ 0 ∧ l ≠ 1) → r = 24 := fun h => by
    rw [HR.out]
    unfold rightH
    rw [if_pos (by rw [← HG.out]; exact h)]
  have HBAD := Lib.hid hbad
  clear hbad
  by_cases h1 : 1 ≤ a ∧ a ≤ 2147483647
  rotate_left
  · have HE := Lib.hid (HBAD.out (by omega))
    have fa : F a = false := by rw [HF.out]; exact decide_eq_false h1
    clear h1
    have c0 := HI.out.cell 0
    go_enter Tryd.func18, Tryd.ntmps18
    go_wp2_with (go_at_call 39; refine (HS.out _ _).mono ?_; rintro e w1 ⟨rfl, hw⟩; subst hw)
    go_ret
    exact ⟨by rw [HE.out]; rfl, HB.out⟩
  have fa : F a = true := by rw [HF.out]; exact decide_eq_true h1
  by_cases h2 : 1 ≤ b ∧ b ≤ 2147483647
  rotate_left
  · have HE := Lib.hid (HBAD.out (by omega))
    have fb : F b = false := by rw [HF.out]; exact decide_eq_false h2
    clear h1 h2
    have c0 := HI.out.cell 0
    have c1 := HI.out.cell 1
    go_enter Tryd.func18, Tryd.ntmps18
    go_wp2_with (go_at_call 39; refine (HS.out _ _).mono ?_; rintro e w1 ⟨rfl, hw⟩; subst hw)
    go_ret
    exact ⟨by rw [HE.out]; rfl, HB.out⟩
  have fb : F b = true := by rw [HF.out]; exact decide_eq_true h2
  have H12 := Lib.hid (And.intro h1 h2)
  clear h1 h2
  cases g
  · have HE := Lib.hid (HBAD.out (by simp))
    have c0 := HI.out.cell 0
    have c1 := HI.out.cell 1
    have c2 := HI.out.cell 2
    have c3 := HI.out.cell 3
    go_enter Tryd.func18, Tryd.ntmps18
    go_wp2_with (first | (go_at_call 39; refine (HS.out _ _).mono ?_; rintro e w1 ⟨rfl, hw⟩; subst hw) | (go_at_call 40; refine (HD.out _).mono ?_; rintro e w2 ⟨rfl, hB⟩; have HB2 := Lib.hid hB; clear hB))
    go_ret
    exact ⟨by rw [HE.out]; rfl, HB.out.trans HB2.out⟩
  have c0 := HI.out.cell 0
  have c1 := HI.out.cell 1
  have c2 := HI.out.cell 2
  have c3 := HI.out.cell 3
  go_enter Tryd.func18, Tryd.ntmps18
  go_upto_region 4 with (first | (go_at_call 39; refine (HS.out _ _).mono ?_; rintro e w1 ⟨rfl, hw⟩; subst hw) | (go_at_call 40; refine (HD.out _).mono ?_; rintro e w2 ⟨rfl, hB⟩; have HB2 := Lib.hid hB; clear hB))
  have HI2 := Lib.hid (HI.out.but HB2.out (by simp))
  have HB3 := Lib.hid (HB.out.trans HB2.out)
  obtain ⟨w3, hw3⟩ : ∃ w3, w3 = w2 := ⟨_, rfl⟩
  rw [← hw3] at HI2 HB3
  rw [← hw3]
  clear HB2 hw3 HI HB c0 c1 c2 c3
  have q0 := HI2.out.cell 0
  have q1 := HI2.out.cell 1
  have q4 := HI2.out.cell 4
  have p0 : ((l = 0) = True ∧ (l != 0) = false) ∨ ((l = 0) = False ∧ (l != 0) = true) := by by_cases h : l = 0 <;> simp [h]
  have p1 : ((l = 1) = True ∧ (l != 1) = false) ∨ ((l = 1) = False ∧ (l != 1) = true) := by by_cases h : l = 1 <;> simp [h]
  by_cases hl : l ≠ 0 ∧ l ≠ 1
  · have HE := Lib.hid (HBAD.out (by omega))
    rcases p0 with ⟨p0, r0⟩ | ⟨p0, r0⟩
    · exact absurd (of_eq_true p0) hl.1
    rcases p1 with ⟨p1, r1⟩ | ⟨p1, r1⟩
    · exact absurd (of_eq_true p1) hl.2
    clear hl
    go_wp2
    go_ret
    exact ⟨by rw [HE.out]; rfl, HB3.out⟩
  have HRE : Hid (r = if 1024 < a ∨ 1024 < b ∨ 4096 < a * b then 5 else 0) := Lib.hid (by
    rw [HR.out]
    unfold rightH
    have := H12.out
    rw [← HG.out, if_neg (by rintro (h | h | h | h | h | h) <;> first | omega | cases h | exact hl h)])
  have e0 : ((l = 0) = True ∧ (l != 0) = false) ∨ ((l = 1) = True ∧ (l != 1) = false) ∧ (l = 0) = False ∧ (l != 0) = true := by
    rcases p0 with p0 | p0
    · exact .inl p0
    rcases p1 with p1 | p1
    · exact .inr ⟨p1, p0⟩
    · exact absurd ⟨of_eq_false p0.1, of_eq_false p1.1⟩ hl
  clear p0 p1 hl HR
  have hab := H12.out
  obtain ⟨⟨a1, a2⟩, b1, b2⟩ := hab
  by_cases h1 : 1024 < a
  · have HE := Lib.hid (show r = 5 by rw [HRE.out, if_pos (Or.inl h1)])
    rcases e0 with ⟨p0, r0⟩ | ⟨⟨p1, r1⟩, p0, r0⟩
    all_goals
      go_wp2
      go_ret
      exact ⟨by rw [HE.out]; rfl, HB3.out⟩
  by_cases h2 : 1024 < b
  · have HE := Lib.hid (show r = 5 by rw [HRE.out, if_pos (Or.inr (Or.inl h2))])
    rcases e0 with ⟨p0, r0⟩ | ⟨⟨p1, r1⟩, p0, r0⟩
    all_goals
      go_wp2
      go_ret
      exact ⟨by rw [HE.out]; rfl, HB3.out⟩
  obtain ⟨m, hm⟩ : ∃ m, m = a * b := ⟨_, rfl⟩
  have m1 : 0 ≤ m := by rw [hm]; exact Int.mul_nonneg (by omega) (by omega)
  have m2 : m ≤ 1048576 := by rw [hm]; exact Int.le_trans (Int.mul_le_mul (by omega : a ≤ 1024) (by omega : b ≤ 1024) (by omega) (by omega)) (by omega)
  have hm' := hm.symm
  have HM := Lib.hid hm
  clear hm
  by_cases h3 : 4096 < m
  · have HE := Lib.hid (show r = 5 by rw [HRE.out, if_pos (Or.inr (Or.inr (by rw [← HM.out]; exact h3)))])
    rcases e0 with ⟨p0, r0⟩ | ⟨⟨p1, r1⟩, p0, r0⟩
    all_goals
      go_wp2
      go_ret
      exact ⟨by rw [HE.out]; rfl, HB3.out⟩
  · have HE := Lib.hid (show r = 0 by rw [HRE.out, if_neg (by rw [← HM.out]; omega)])
    rcases e0 with ⟨p0, r0⟩ | ⟨⟨p1, r1⟩, p0, r0⟩
    all_goals
      go_wp2
      go_ret
      exact ⟨by rw [HE.out]; rfl, HB3.out⟩
end Go.Proofs.YtfiedoejdikcgaaDoor
