/- The program's samples of a colour, and which heads may be. -/
import Derived.Test.YtookfoanggjnkaaDoorHdA
import Derived.Deep.DeepCutAuto
import Derived.Deep.CutRange
import Derived.Deep.CutBlock
set_option maxRecDepth 100000
set_option linter.unusedVariables false
namespace Go.Proofs.YtookfoanggjnkaaDoor
set_option maxRecDepth 100000
open Go Go.RowKit
theorem psamples_any (w : World) (c : Int) : Calls Tryd.prog 22 #[.int .i64 c] w fun e w' => e = .returned (.int .i64 (samplesI c)) ∧ w = w' := by
  obtain ⟨r, hr⟩ : ∃ r, r = samplesI c := ⟨_, rfl⟩
  rw [← hr]
  have HR := Lib.hid hr
  clear hr
  go_enter Tryd.func22, Tryd.ntmps22
  go_wp2
  all_goals
    go_ret
    refine ⟨?_, rfl⟩
    rw [HR.out]
    unfold samplesI
    clear HR
    simp at *
    try simp [*]
theorem pside_any (w : World) (n : Int) : Calls Tryd.prog 26 #[.int .i64 n] w fun e w' => e = .returned (.bool (decide (1 ≤ n ∧ n ≤ 2147483647))) ∧ w = w' := by
  obtain ⟨s, hs⟩ : ∃ s, s = decide (1 ≤ n ∧ n ≤ 2147483647) := ⟨_, rfl⟩
  rw [← hs]
  by_cases h1 : 1 ≤ n
  · by_cases h2 : n ≤ 2147483647
    · have HN := Lib.hid (show s = true by rw [hs]; exact decide_eq_true ⟨h1, h2⟩)
      clear hs
      go_enter Tryd.func26, Tryd.ntmps26
      go_wp2
      go_ret
      exact ⟨by rw [HN.out]; rfl, rfl⟩
    · have HN := Lib.hid (show s = false by rw [hs]; exact decide_eq_false fun h => h2 h.2)
      clear hs
      go_enter Tryd.func26, Tryd.ntmps26
      go_wp2
      go_ret
      exact ⟨by rw [HN.out]; rfl, rfl⟩
  · have HN := Lib.hid (show s = false by rw [hs]; exact decide_eq_false fun h => h1 h.1)
    clear hs
    go_enter Tryd.func26, Tryd.ntmps26
    go_wp2
    go_ret
    exact ⟨by rw [HN.out]; rfl, rfl⟩
theorem take_in {l : List Int} {i : Nat} {x : Int} (h : i < l.length) (h1 : ¬ x ∈ l.take i) (h2 : ¬ x = l[i]) : ¬ x ∈ l.take (i + 1) := by
  rw [List.take_add_one, List.getElem?_eq_getElem h]
  simp only [Option.toList_some, List.mem_append, List.mem_singleton]
  rintro (h | h)
  · exact h1 h
  · exact h2 h
theorem pindex_any (w : World) {g n cap : Nat} {l : List Int} {x : Int} (hn : l.length = n) (hb : n ≤ 16) (hc : ∀ (j : Nat) (h : j < l.length), w.cell? ⟨g, j, none⟩ = some (.int .i64 l[j])) :
    Calls Tryd.prog 30 #[.slice (some ⟨g, 0, none⟩) n cap, .int .i64 x] w fun e w' => ∃ r : Int, e = .returned (.int .i64 r) ∧ (0 ≤ r ↔ x ∈ l) ∧ w = w' := by
  have HN := Lib.hid hn
  have HC := Lib.hid hc
  clear hn hc
  go_enter Tryd.func30, Tryd.ntmps30
  go_wp2
  go_loop [8] (fun iv => ∃ i : Nat, i ≤ n ∧ iv = .int .i64 i ∧ Hid (¬ x ∈ l.take i)) (fun iv => n - (intOf iv).toNat)
  case atStart => exact ⟨0, Nat.zero_le _, rfl, Lib.hid (by simp)⟩
  case round =>
    obtain ⟨i, hi, rfl, HT⟩ := hrel
    by_cases hlt : i < n
    · have hil : i < l.length := by rw [HN.out]; exact hlt
      have c := HC.out i hil
      have ht := take_in (x := x) hil HT.out
      have hm : l[i] ∈ l := List.getElem_mem hil
      obtain ⟨y, hy⟩ : ∃ y, y = l[i] := ⟨_, rfl⟩
      rw [← hy] at c ht hm
      have HM := Lib.hid hm
      have HTT := Lib.hid ht
      have k0 : (0 : Int) ≤ (i : Int) := by omega
      have k1 : (i : Int) < (n : Int) := by omega
      clear hy hil hm ht
      by_cases he : x = y
      · subst he
        have HM := Lib.hid (show 0 ≤ (i : Int) ↔ x ∈ l from ⟨fun _ => HM.out, fun _ => k0⟩)
        go_wp2
        go_ret
        exact ⟨(i : Int), rfl, HM.out, rfl⟩
      · have HZ := Lib.hid (HTT.out he)
        go_wp2
        go_round
        case rel => exact ⟨i + 1, by omega, by go_num, HZ⟩
        case measure => simp [intOf]; omega
    · obtain rfl : i = n := by omega
      have HM := Lib.hid (show 0 ≤ (-1 : Int) ↔ x ∈ l by
        have e : l.take i = l := List.take_of_length_le (by rw [HN.out]; exact Nat.le_refl _)
        have h := HT.out
        rw [e] at h
        exact ⟨fun h1 => absurd h1 (by decide), fun h1 => absurd h1 h⟩)
      go_wp2
      go_ret
      exact ⟨-1, rfl, HM.out, rfl⟩
theorem pcontains_any (w : World) {g n cap : Nat} {l : List Int} {x : Int} (hI : Is w g 3 (l.map (Value.int .i64)).toArray) (hn : l.length = n) (hb : n ≤ 16) :
    Calls Tryd.prog 29 #[.slice (some ⟨g, 0, none⟩) n cap, .int .i64 x] w fun e w' => e = .returned (.bool (decide (x ∈ l))) ∧ w = w' := by
  have H := Lib.hid (pindex_any w (cap := cap) (x := x) hn hb (fun j h => by rw [hI.cell]; simp [h]))
  obtain ⟨m, hm⟩ : ∃ m, m = decide (x ∈ l) := ⟨_, rfl⟩
  rw [← hm]
  have HM := Lib.hid hm
  clear hI hm
  go_enter Tryd.func29, Tryd.ntmps29
  go_wp2_with (go_at_call 30; refine H.out.mono ?_; rintro e w1 ⟨r, rfl, hr, hw⟩; have hd : decide (0 ≤ r) = m := (by rw [HM.out]; exact decide_eq_decide.mpr hr); clear hr; subst hw)
  go_ret
  exact ⟨rfl, rfl⟩
theorem pdepth_any (w : World) (c d : Int) :
    Calls Tryd.prog 27 #[.int .i64 c, .int .i64 d] w fun e w' => e = .returned (.bool (depthOk d c)) ∧ But [] w w' := by
  have P : ∀ x y : Int, ((x = y) = True ∧ (x == y) = true) ∨ ((x = y) = False ∧ (x == y) = false) := fun x y => by by_cases h : x = y <;> simp [h]
  have PP := Lib.hid P
  have H5 : Hid (∀ W : World, Calls Tryd.prog 29 #[.slice (some ⟨W.heap.size, 0, none⟩) 5 5, .int .i64 d] (W.alloc (.cells #[.int .i64 1, .int .i64 2, .int .i64 4, .int .i64 8, .int .i64 16] 3)) fun e w' => e = .returned (.bool (decide (d ∈ [1, 2, 4, 8, 16]))) ∧ (W.alloc (.cells #[.int .i64 1, .int .i64 2, .int .i64 4, .int .i64 8, .int .i64 16] 3)) = w') := Lib.hid fun W => pcontains_any _ (l := [1, 2, 4, 8, 16]) (Is.fresh _ _ _) rfl (by decide)
  have H4 : Hid (∀ W : World, Calls Tryd.prog 29 #[.slice (some ⟨W.heap.size, 0, none⟩) 4 4, .int .i64 d] (W.alloc (.cells #[.int .i64 1, .int .i64 2, .int .i64 4, .int .i64 8] 3)) fun e w' => e = .returned (.bool (decide (d ∈ [1, 2, 4, 8]))) ∧ (W.alloc (.cells #[.int .i64 1, .int .i64 2, .int .i64 4, .int .i64 8] 3)) = w') := Lib.hid fun W => pcontains_any _ (l := [1, 2, 4, 8]) (Is.fresh _ _ _) rfl (by decide)
  have H2 : Hid (∀ W : World, Calls Tryd.prog 29 #[.slice (some ⟨W.heap.size, 0, none⟩) 2 2, .int .i64 d] (W.alloc (.cells #[.int .i64 8, .int .i64 16] 3)) fun e w' => e = .returned (.bool (decide (d ∈ [8, 16]))) ∧ (W.alloc (.cells #[.int .i64 8, .int .i64 16] 3)) = w') := Lib.hid fun W => pcontains_any _ (l := [8, 16]) (Is.fresh _ _ _) rfl (by decide)
  have HB := Lib.hid (But.refl [] w)
  obtain ⟨m5, hm5⟩ : ∃ m, m = decide (d ∈ [1, 2, 4, 8, 16]) := ⟨_, rfl⟩
  obtain ⟨m4, hm4⟩ : ∃ m, m = decide (d ∈ [1, 2, 4, 8]) := ⟨_, rfl⟩
  obtain ⟨m2, hm2⟩ : ∃ m, m = decide (d ∈ [8, 16]) := ⟨_, rfl⟩
  rw [← hm5] at H5
  rw [← hm4] at H4
  rw [← hm2] at H2
  have HM5 := Lib.hid hm5
  have HM4 := Lib.hid hm4
  have HM2 := Lib.hid hm2
  clear P hm5 hm4 hm2
  rcases PP.out c 0 with ⟨p0, r0⟩ | ⟨p0, r0⟩
  · have HG := Lib.hid (show m5 = depthOk d c by rw [HM5.out, of_eq_true p0]; unfold depthOk; simp)
    go_enter Tryd.func27, Tryd.ntmps27
    go_wp2_with (go_at_call 29; refine (H5.out _).mono ?_; rintro e w1 ⟨rfl, hw⟩; subst hw)
    go_ret
    exact ⟨by rw [← HG.out]; rfl, HB.out.alloc _⟩
  rcases PP.out c 2 with ⟨p2, r2⟩ | ⟨p2, r2⟩
  · have HG := Lib.hid (show m2 = depthOk d c by rw [HM2.out, of_eq_true p2]; unfold depthOk; simp)
    go_enter Tryd.func27, Tryd.ntmps27
    go_wp2_with (go_at_call 29; refine (H2.out _).mono ?_; rintro e w1 ⟨rfl, hw⟩; subst hw)
    go_ret
    exact ⟨by rw [← HG.out]; rfl, HB.out.alloc _⟩
  rcases PP.out c 4 with ⟨p4, r4⟩ | ⟨p4, r4⟩
  · have HG := Lib.hid (show m2 = depthOk d c by rw [HM2.out, of_eq_true p4]; unfold depthOk; simp)
    go_enter Tryd.func27, Tryd.ntmps27
    go_wp2_with (go_at_call 29; refine (H2.out _).mono ?_; rintro e w1 ⟨rfl, hw⟩; subst hw)
    go_ret
    exact ⟨by rw [← HG.out]; rfl, HB.out.alloc _⟩
  rcases PP.out c 6 with ⟨p6, r6⟩ | ⟨p6, r6⟩
  · have HG := Lib.hid (show m2 = depthOk d c by rw [HM2.out, of_eq_true p6]; unfold depthOk; simp)
    go_enter Tryd.func27, Tryd.ntmps27
    go_wp2_with (go_at_call 29; refine (H2.out _).mono ?_; rintro e w1 ⟨rfl, hw⟩; subst hw)
    go_ret
    exact ⟨by rw [← HG.out]; rfl, HB.out.alloc _⟩
  rcases PP.out c 3 with ⟨p3, r3⟩ | ⟨p3, r3⟩
  · have HG := Lib.hid (show m4 = depthOk d c by rw [HM4.out, of_eq_true p3]; unfold depthOk; simp)
    go_enter Tryd.func27, Tryd.ntmps27
    go_wp2_with (go_at_call 29; refine (H4.out _).mono ?_; rintro e w1 ⟨rfl, hw⟩; subst hw)
    go_ret
    exact ⟨by rw [← HG.out]; rfl, HB.out.alloc _⟩
  · have HG := Lib.hid (show depthOk d c = false by
      have e0 := of_eq_false p0; have e2 := of_eq_false p2; have e3 := of_eq_false p3; have e4 := of_eq_false p4; have e6 := of_eq_false p6
      exact decide_eq_false (by omega))
    go_enter Tryd.func27, Tryd.ntmps27
    go_wp2
    go_ret
    exact ⟨by rw [HG.out]; rfl, HB.out⟩
end Go.Proofs.YtookfoanggjnkaaDoor
