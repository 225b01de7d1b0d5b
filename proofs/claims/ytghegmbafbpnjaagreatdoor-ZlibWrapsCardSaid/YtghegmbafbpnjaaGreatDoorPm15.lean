/- Several texts in one: RfD, RfM, EfE, EfF, ThingM, Things, SymA, SymB (what Unwraps, Wraps reach of them). -/
import Derived.Test.YtghegmbafbpnjaaGreatDoorPm01
import Derived.Test.YtghegmbafbpnjaaGreatDoorPm02
import Derived.Test.YtghegmbafbpnjaaGreatDoorPm03
import Derived.Test.YtghegmbafbpnjaaGreatDoorPm04
import Derived.Test.YtghegmbafbpnjaaGreatDoorPm05
import Derived.Test.YtghegmbafbpnjaaGreatDoorPm06
import Derived.Test.YtghegmbafbpnjaaGreatDoorPm07
import Derived.Test.YtghegmbafbpnjaaGreatDoorPm08
import Derived.Test.YtghegmbafbpnjaaGreatDoorPm09
import Derived.Test.YtghegmbafbpnjaaGreatDoorPm10
import Derived.Test.YtghegmbafbpnjaaGreatDoorPm11
import Derived.Test.YtghegmbafbpnjaaGreatDoorPm12
import Derived.Test.YtghegmbafbpnjaaGreatDoorPm13
import Derived.Test.YtghegmbafbpnjaaGreatDoorPm14
import Derived.Below
import Derived.BigQuiet
import Derived.BigRegion
import Derived.Deep.AppendLies
import Derived.Deep.CutRange
import Derived.Deep.DeepCutAuto
import Derived.Deep.Draws
import Derived.Deep.LoopGhost
import Derived.Deep.QuietTactic
import Derived.Deep.RegionLaw
import Derived.Deep.RegionWith
import Derived.Deep.Slices
import Derived.Handy
import Derived.Laws.BitsAllLaws
import Derived.Laws.BitsLemmas
import Derived.Laws.CopyOwn
import Derived.Laws.IdiomStrings
import Derived.Laws.OwnMore
import Derived.Laws.Rows
import Derived.Laws.Strings2
import Derived.Laws.Strings3
import Derived.Laws.StructEq
import Derived.Lib.AppendStr
import Derived.Lib.Hide
import Derived.Lib.Strings
import Derived.LoopIn
import Derived.LoopNIn
import Derived.OneCell
import Derived.OpenShut
import Derived.Outline
import Derived.OwnWalk
import Derived.OwnWalkIn
import Derived.ProofKit
import Derived.RangeFuncBound
import Derived.RangeFuncCalls
import Derived.RangeFuncLeaves
import Derived.RangeFuncNested
import Derived.RegionTactic
import Derived.ScopeJumps
import Derived.Shelf.Abstract
import Derived.Shelf.RegionOpen
import Derived.Shelf.SlSortCmp.QuietGrown
import Derived.StillTailTactics
import Derived.TacticsInMore
import Derived.Test.YtghegmbafbpnjaaGreatDoorChecked
import Derived.WalkKit
import Derived.WalkLawsBesides
import Derived.WalkMore
import Derived.WalkSpells
set_option maxRecDepth 100000
set_option linter.unusedVariables false
namespace Go.Proofs.YtghegmbafbpnjaaGreatDoor
set_option maxRecDepth 100000
open Go Go.RowKit
def ordCells : Array Value := #[.int .i64 16, .int .i64 17, .int .i64 18, .int .i64 0, .int .i64 8, .int .i64 7, .int .i64 9, .int .i64 6, .int .i64 10, .int .i64 5, .int .i64 11, .int .i64 4, .int .i64 12, .int .i64 3, .int .i64 13, .int .i64 2, .int .i64 14, .int .i64 1, .int .i64 15]
set_option maxHeartbeats 1000000 in
theorem order_any (w : World) :
    Calls Tryz.prog 59 #[] w fun e w' => e = .returned (.slice (some ⟨w.heap.size, 0, none⟩) 19 19) ∧ w' = w.alloc (.cells ordCells 3) := by
  go_enter Tryz.func59, Tryz.ntmps59
  go_wp2
  go_ret
  exact ⟨rfl, rfl⟩
theorem fixL_len : fixL.length = 288 := by decide +kernel
theorem fixL_at : ∀ i < 288, fixL.getD i 0 = if i < 144 ∨ 280 ≤ i then 8 else if i < 256 then 9 else 7 := by decide +kernel
theorem take_next {l : List Int} {i : Nat} {x : Int} (h : i < l.length) (hx : l.getD i 0 = x) : l.take (i + 1) = l.take i ++ [x] := by
  rw [List.take_add_one, List.getElem?_eq_getElem h, ← hx, List.getD_eq_getElem?_getD, List.getElem?_eq_getElem h]; rfl
def GotFix (w : World) (e : Ending) (w' : World) : Prop := ∃ A1 A2 c1 c2, e = .returned (.tuple #[.slice (some A1) 288 c1, .slice (some A2) 32 c2]) ∧ Ints w' (some A1) 288 fixL ∧ Ints w' (some A2) 32 fixD ∧ But [] w w' ∧ w.heap.size ≤ A1.block ∧ w.heap.size ≤ A2.block
theorem some_of {w : World} {A : Option Addr} {n : Nat} {l : List Int} (h : Ints w A n l) (h0 : 0 < n) : ∃ a, A = some a := by
  obtain ⟨g, o, e, _⟩ := h.2 h0
  exact ⟨_, e⟩

set_option maxHeartbeats 2000000 in
theorem fixed_any (w : World) : Calls Tryz.prog 33 #[] w (GotFix w) := by
  obtain ⟨i0, hi0, hz0, hz1, hz2⟩ := info_parts info_int
  go_enter Tryz.func33, Tryz.ntmps33
  go_wp2
  go_loopw [2, 4] (fun lv iv wr => ∃ i : Nat, i ≤ 288 ∧ iv = .int .i64 i ∧ OwnI wr w.heap.size lv (fixL.take i) ∧ But [] w wr) (fun _ iv _ => 288 - (intOf iv).toNat)
  case atStart => exact ⟨0, by omega, rfl, OwnI.nil _ _, But.refl _ _⟩
  case round =>
    obtain ⟨i, hi, rfl, hO, hB⟩ := hrel
    have hlen : (fixL.take i).length = i := by rw [List.length_take, fixL_len]; omega
    obtain ⟨A, cA, rfl, hI, _⟩ := hO.open
    rw [hlen] at hO ⊢
    have HI := Lib.hid hI
    have HO := Lib.hid hO
    have HB := Lib.hid hB
    by_cases hlt : i < 288
    · have hat := fixL_at i hlt
      have hox := hO
      unfold OwnI at hox
      rw [hlen] at hox
      have HOX := Lib.hid hox
      have HAT := Lib.hid hat
      have hnx : ∀ x, fixL.getD i 0 = x → fixL.take (i + 1) = fixL.take i ++ [x] := fun x hx => take_next (by rw [fixL_len]; omega) hx
      have hsz := hB.size
      clear hI
      generalize fixL.take i = acc at *
      have HLEN := Lib.hid hlen
      have HNX := Lib.hid hnx
      obtain ⟨wo, rfl⟩ : ∃ wo : World, wo = wr := ⟨_, rfl⟩
      clear hO hB hox hat hlen hnx
      by_cases h1 : i < 144
      · have d1 : decide ((i : Int) < 144) = true := by simp; omega
        have hx : fixL.getD i 0 = 8 := by rw [HAT.out, if_pos (by omega)]
        have HX := Lib.hid hx
        clear hx
        go_wp2_with (at_builtin; go_loud (refine wpList_append_own _ rfl _ _ 58 rfl w.heap.size 3 i0 (.int .i64 0) 1 8 Tryz.underlying58 hi0 hz0 hz1 hz2 rfl (by decide) (.slice A i cA) i (acc.map (.int .i64)) rfl (HOX.out.alloc _) ⟨wo.heap.size, 0, none⟩ 1 1 [.int .i64 (8 : Int)] rfl rfl ?c1 ?c2 ?c3 ?c4 ?c5 ?_))
        case c1 => exact World.news_of_block (cs := #[.int .i64 (8 : Int)]) (t := 3) (fr := (0, 0)) (heap_alloc_new wo _)
        case c2 => simp [Value.oneCell']
        case c3 => unfold maxLen; omega
        case c4 => omega
        case c5 => simp; omega
        intro v' w3 hown hgrow _
        have hp := OwnI.pushed (x := 8) HB.out HO.out (by rw [HLEN.out]; exact hown) hgrow
        have HP := Lib.hid hp
        clear hown hgrow hp
        go_wp2
        go_roundw
        case rel => exact ⟨i + 1, by omega, by go_num, by rw [HNX.out _ HX.out]; exact HP.out.1, HP.out.2⟩
        case measure => simp [intOf]; omega
      · have d1 : decide ((i : Int) < 144) = false := by simp; omega
        by_cases h2 : 280 ≤ i
        · have d2 : decide ((280 : Int) ≤ (i : Int)) = true := by simp; omega
          have hx : fixL.getD i 0 = 8 := by rw [HAT.out, if_pos (by omega)]
          have HX := Lib.hid hx
          clear hx
          go_wp2_with (at_builtin; go_loud (refine wpList_append_own _ rfl _ _ 58 rfl w.heap.size 3 i0 (.int .i64 0) 1 8 Tryz.underlying58 hi0 hz0 hz1 hz2 rfl (by decide) (.slice A i cA) i (acc.map (.int .i64)) rfl (HOX.out.alloc _) ⟨wo.heap.size, 0, none⟩ 1 1 [.int .i64 (8 : Int)] rfl rfl ?c1 ?c2 ?c3 ?c4 ?c5 ?_))
          case c1 => exact World.news_of_block (cs := #[.int .i64 (8 : Int)]) (t := 3) (fr := (0, 0)) (heap_alloc_new wo _)
          case c2 => simp [Value.oneCell']
          case c3 => unfold maxLen; omega
          case c4 => omega
          case c5 => simp; omega
          intro v' w3 hown hgrow _
          have hp := OwnI.pushed (x := 8) HB.out HO.out (by rw [HLEN.out]; exact hown) hgrow
          have HP := Lib.hid hp
          clear hown hgrow hp
          go_wp2
          go_roundw
          case rel => exact ⟨i + 1, by omega, by go_num, by rw [HNX.out _ HX.out]; exact HP.out.1, HP.out.2⟩
          case measure => simp [intOf]; omega
        · have d2 : decide ((280 : Int) ≤ (i : Int)) = false := by simp; omega
          by_cases h3 : i < 256
          · have d3 : decide ((i : Int) < 256) = true := by simp; omega
            have hx : fixL.getD i 0 = 9 := by rw [HAT.out, if_neg (by omega), if_pos (by omega)]
            have HX := Lib.hid hx
            clear hx
            go_wp2_with (at_builtin; go_loud (refine wpList_append_own _ rfl _ _ 58 rfl w.heap.size 3 i0 (.int .i64 0) 1 8 Tryz.underlying58 hi0 hz0 hz1 hz2 rfl (by decide) (.slice A i cA) i (acc.map (.int .i64)) rfl (HOX.out.alloc _) ⟨wo.heap.size, 0, none⟩ 1 1 [.int .i64 (9 : Int)] rfl rfl ?c1 ?c2 ?c3 ?c4 ?c5 ?_))
            case c1 => exact World.news_of_block (cs := #[.int .i64 (9 : Int)]) (t := 3) (fr := (0, 0)) (heap_alloc_new wo _)
            case c2 => simp [Value.oneCell']
            case c3 => unfold maxLen; omega
            case c4 => omega
            case c5 => simp; omega
            intro v' w3 hown hgrow _
            have hp := OwnI.pushed (x := 9) HB.out HO.out (by rw [HLEN.out]; exact hown) hgrow
            have HP := Lib.hid hp
            clear hown hgrow hp
            go_wp2
            go_roundw
            case rel => exact ⟨i + 1, by omega, by go_num, by rw [HNX.out _ HX.out]; exact HP.out.1, HP.out.2⟩
            case measure => simp [intOf]; omega
          · have d3 : decide ((i : Int) < 256) = false := by simp; omega
            have hx : fixL.getD i 0 = 7 := by rw [HAT.out, if_neg (by omega), if_neg (by omega)]
            have HX := Lib.hid hx
            clear hx
            go_wp2_with (at_builtin; go_loud (refine wpList_append_own _ rfl _ _ 58 rfl w.heap.size 3 i0 (.int .i64 0) 1 8 Tryz.underlying58 hi0 hz0 hz1 hz2 rfl (by decide) (.slice A i cA) i (acc.map (.int .i64)) rfl (HOX.out.alloc _) ⟨wo.heap.size, 0, none⟩ 1 1 [.int .i64 (7 : Int)] rfl rfl ?c1 ?c2 ?c3 ?c4 ?c5 ?_))
            case c1 => exact World.news_of_block (cs := #[.int .i64 (7 : Int)]) (t := 3) (fr := (0, 0)) (heap_alloc_new wo _)
            case c2 => simp [Value.oneCell']
            case c3 => unfold maxLen; omega
            case c4 => omega
            case c5 => simp; omega
            intro v' w3 hown hgrow _
            have hp := OwnI.pushed (x := 7) HB.out HO.out (by rw [HLEN.out]; exact hown) hgrow
            have HP := Lib.hid hp
            clear hown hgrow hp
            go_wp2
            go_roundw
            case rel => exact ⟨i + 1, by omega, by go_num, by rw [HNX.out _ HX.out]; exact HP.out.1, HP.out.2⟩
            case measure => simp [intOf]; omega
    · have hi288 : i = 288 := by omega
      have dd : decide ((i : Int) < 288) = false := by simp; omega
      have hI : Ints wr A 288 fixL := by
        have h := HI.out
        rw [show fixL.take i = fixL from List.take_of_length_le (by rw [fixL_len]; omega), fixL_len] at h
        exact h
      have HI288 := Lib.hid hi288
      have HI := Lib.hid hI
      have hlow : ∀ a, A = some a → w.heap.size ≤ a.block := fun a e => by
        subst e
        exact (World.ownsRow.lt hO a.block rfl).1
      have hbz := hB.size
      have HLOW := Lib.hid hlow
      obtain ⟨w1, rfl⟩ : ∃ w1 : World, w1 = wr := ⟨_, rfl⟩
      clear hI hO hB hlen HO hlow hi288 hlt
      go_wp2
      go_loopw [3, 5] (fun lv iv wr => ∃ j : Nat, j ≤ 32 ∧ iv = .int .i64 j ∧ OwnI wr w1.heap.size lv (fixD.take j) ∧ But [] w1 wr) (fun _ iv _ => 32 - (intOf iv).toNat)
      case atStart => exact ⟨0, by omega, rfl, OwnI.nil _ _, But.refl _ _⟩
      case round =>
        obtain ⟨j, hj, rfl, hO, hB2⟩ := hrel
        have hlen : (fixD.take j).length = j := by rw [List.length_take]; show min j 32 = j; omega
        obtain ⟨A2, cA2, rfl, hI2, _⟩ := hO.open
        rw [hlen] at hO ⊢
        rw [hlen] at hI2
        have HI2 := Lib.hid hI2
        have HO := Lib.hid hO
        have HB2 := Lib.hid hB2
        by_cases hlt : j < 32
        · have hox := hO
          unfold OwnI at hox
          rw [hlen] at hox
          have HOX := Lib.hid hox
          have hnx : ∀ x, fixD.getD j 0 = x → fixD.take (j + 1) = fixD.take j ++ [x] := fun x hx => take_next (by show j < 32; omega) hx
          have hsz2 := hB2.size
          clear hI2
          generalize fixD.take j = acc at *
          have HLEN := Lib.hid hlen
          have HNX := Lib.hid hnx
          obtain ⟨wo, rfl⟩ : ∃ wo : World, wo = wr := ⟨_, rfl⟩
          clear hO hB2 hox hlen hnx
          have hx : fixD.getD j 0 = 5 := by
            have : ∀ j < 32, fixD.getD j 0 = 5 := by decide +kernel
            exact this j hlt
          have HX := Lib.hid hx
          clear hx
          go_wp2_with (at_builtin; go_loud (refine wpList_append_own _ rfl _ _ 58 rfl w1.heap.size 3 i0 (.int .i64 0) 1 8 Tryz.underlying58 hi0 hz0 hz1 hz2 rfl (by decide) (.slice A2 j cA2) j (acc.map (.int .i64)) rfl (HOX.out.alloc _) ⟨wo.heap.size, 0, none⟩ 1 1 [.int .i64 (5 : Int)] rfl rfl ?c1 ?c2 ?c3 ?c4 ?c5 ?_))
          case c1 => exact World.news_of_block (cs := #[.int .i64 (5 : Int)]) (t := 3) (fr := (0, 0)) (heap_alloc_new wo _)
          case c2 => simp [Value.oneCell']
          case c3 => unfold maxLen; omega
          case c4 => omega
          case c5 => simp; omega
          intro v' w3 hown hgrow _
          have hp := OwnI.pushed (x := 5) HB2.out HO.out (by rw [HLEN.out]; exact hown) hgrow
          have HP := Lib.hid hp
          clear hown hgrow hp
          go_wp2
          go_roundw
          case rel => exact ⟨j + 1, by omega, by go_num, by rw [HNX.out _ HX.out]; exact HP.out.1, HP.out.2⟩
          case measure => simp [intOf]; omega
        · have hj32 : j = 32 := by omega
          have dj : decide ((j : Int) < 32) = false := by simp; omega
          have hD : Ints wr A2 32 fixD := by
            have h := HI2.out
            rw [show fixD.take j = fixD from List.take_of_length_le (by show 32 ≤ j; omega), hj32] at h
            exact h
          have hL := HI.out.but HB2.out (by simp)
          have hl2 : ∀ a, A2 = some a → w.heap.size ≤ a.block := fun a e => by
            subst e
            have := (World.ownsRow.lt hO a.block rfl).1
            omega
          obtain ⟨a1, rfl⟩ := some_of hL (by omega)
          obtain ⟨a2, rfl⟩ := some_of hD (by omega)
          have HD := Lib.hid hD
          have HL := Lib.hid hL
          have HJ := Lib.hid hj32
          have hz2 := hl2 a2 rfl
          have hz1 := HLOW.out a1 rfl
          clear hl2
          clear hD hL hI2 hO hB2 hlen HO HI HI2 hj32 hlt
          go_wp2
          go_ret2
          exact ⟨a1, a2, _, _, by rw [HI288.out, HJ.out]; rfl, HL.out, HD.out, HB.out.trans HB2.out, hz1, hz2⟩
end Go.Proofs.YtghegmbafbpnjaaGreatDoor
namespace Go.Proofs.YtghegmbafbpnjaaGreatDoor
set_option maxRecDepth 100000
open Go Go.RowKit
/-- The document's table of lengths lies in block b, and all its memory from block lo on. -/
def NewRT (lo : Nat) (w : World) (b : Nat) (l : List Int) : Prop :=
  ∃ Al cl Ac cc, Is w b 127 #[.slice Al l.length cl, .slice Ac l.length cc] ∧ Ints w Al l.length l ∧ Ints w Ac l.length (codes l) ∧ lo ≤ b ∧ (∀ a, Al = some a → lo ≤ a.block) ∧ (∀ a, Ac = some a → lo ≤ a.block)
theorem NewRT.rt {lo b : Nat} {w : World} {l : List Int} (h : NewRT lo w b l) : RT w b l := by
  obtain ⟨Al, cl, Ac, cc, h1, h2, h3, _⟩ := h
  exact ⟨Al, cl, Ac, cc, h1, h2, h3⟩
theorem NewRT.but {lo b : Nat} {w w' : World} {l : List Int} {S : List Nat} (h : NewRT lo w b l) (hw : But S w w') (hS : ∀ k ∈ S, k < lo) : NewRT lo w' b l := by
  obtain ⟨Al, cl, Ac, cc, h1, h3, h4, h5, h7, h8⟩ := h
  have off : ∀ A : Option Addr, (∀ a, A = some a → lo ≤ a.block) → ∀ k ∈ S, Off A k := fun A hA k hk a e => by
    have := hA a e; have := hS k hk; omega
  exact ⟨Al, cl, Ac, cc, h1.but hw (fun hb => by have := hS b hb; omega), h3.but hw (off _ h7), h4.but hw (off _ h8), h5, h7, h8⟩
def GotNewR (w : World) (l : List Int) (e : Ending) (w' : World) : Prop :=
  ∃ b, e = .returned (.tuple #[.pointer (some ⟨b, 0, none⟩), .int .i64 0]) ∧ NewRT w.heap.size w' b l ∧ But [] w w'

set_option maxRecDepth 100000 in
set_option maxHeartbeats 2000000 in
theorem rmake_new {w : World} {A : Option Addr} {len cap : Nat} {l : List Int} (hl : Ints w A len l) (hb8 : len * 8 ≤ 140737488351232) (hnil : A = none → cap = 0) (hc : chk l = 0) :
    Calls Tryz.prog 51 #[.slice A len cap] w (GotNewR w l) := by
  have hm : len ≤ maxLen := by unfold maxLen; omega
  obtain ⟨i0, hi0, hz0, hz1, hz2⟩ := info_parts info_int
  have HC := Lib.hid (ref_codes (cap := cap) hl hm hc)
  have HLEN := Lib.hid hl.1
  have hclen : (codes l).length = l.length := by unfold codes; exact length_cds _ _
  have HCL := Lib.hid hclen
  clear hc hclen
  go_enter Tryz.func51, Tryz.ntmps51
  go_wp2_with fail
  refine HC.out.mono ?_
  rintro e w1 ⟨rfl, hOc, hB1⟩
  have hIc := hOc.ints_of (by rw [HCL.out, HLEN.out])
  have hl1 := hl.but hB1 (by simp)
  have HIC := Lib.hid hIc
  have HB1 := Lib.hid hB1
  have hsz1 := hB1.size
  clear hOc hIc hB1 HC hl
  rcases A with _ | ad
  · obtain rfl := hnil rfl
    have h0 : len = 0 := by
      apply Classical.byContradiction; intro h
      obtain ⟨g, o, e, _⟩ := hl1.2 (by omega)
      cases e
    subst h0
    have HL1 := Lib.hid hl1
    clear hl1
    go_wp2
    go_ret2
    refine ⟨w1.heap.size, rfl, ⟨none, 0, some ⟨w.heap.size, 0, none⟩, _, by rw [HLEN.out]; exact Is.fresh w1 _ _, by rw [HLEN.out]; exact HL1.out.but ((But.refl [] w1).alloc _) (by simp), by rw [HLEN.out]; exact HIC.out.but ((But.refl [] w1).alloc _) (by simp), hsz1, ?_, ?_⟩, HB1.out.alloc _⟩
    · intro a e; cases e
    · intro a e; cases e; exact Nat.le_refl _
  · have hnw : ∀ j u, (l.map (Value.int .i64))[j]? = some u → w1.cell? (ad.add j) = some u := by
      by_cases h0 : 0 < len
      · obtain ⟨g, o, e, _⟩ := hl1.2 h0
        obtain rfl : ad = ⟨g, o, none⟩ := by injection e
        exact hl1.news h0
      · intro j u hu
        have : l = [] := List.eq_nil_of_length_eq_zero (by have := HLEN.out; omega)
        subst this; simp at hu
    have HNW := Lib.hid hnw
    have HNIL := Lib.hid hnil
    clear hnw hnil hl1
    go_wp2_with (at_builtin; refine wpList_append_own _ rfl _ _ 58 rfl w1.heap.size 3 i0 (.int .i64 0) 1 8 Tryz.underlying58 hi0 hz0 hz1 hz2 rfl (by decide) (.slice none 0 0) 0 [] rfl (World.ownsRow_nil _ _ _ _) ad len cap (l.map (.int .i64)) rfl (by simp; exact HLEN.out) HNW.out ?c2 ?c3 ?c4 ?c5 ?_)
    case c2 => intro u hu; obtain ⟨x, _, rfl⟩ := List.mem_map.1 hu; rfl
    case c3 => unfold maxLen at *; omega
    case c4 => omega
    case c5 => simp
    intro v' w2 hown hgrow _
    obtain ⟨Al, cl, rfl⟩ : ∃ Al cl, v' = .slice Al len cl := by
      rcases hown.2 with ⟨e, e2⟩ | ⟨g4, c4, cur, e, _⟩
      · exact ⟨none, 0, by rw [e]; congr 1; omega⟩
      · exact ⟨_, c4, by simpa using e⟩
    have hOw : OwnI w2 w1.heap.size (.slice Al len cl) l := by
      unfold OwnI; rw [HLEN.out]; simpa using hown
    have hI2 := hOw.ints_of HLEN.out.symm
    have hB2 : But [] w1 w2 := (But.refl [] w1).grown hgrow (fun g e => by cases e)
    have hlow2 : ∀ a, Al = some a → w.heap.size ≤ a.block := fun a e => by
      subst e
      have hb := (World.ownsRow.lt hOw a.block rfl).1
      omega
    have HLOW2 := Lib.hid hlow2
    have hsz2 := hB2.size
    have HI2 := Lib.hid hI2
    have HB2 := Lib.hid hB2
    clear hown hgrow hOw hI2 hB2 hlow2
    go_wp2
    go_ret2
    refine ⟨w2.heap.size, rfl, ⟨Al, cl, some ⟨w.heap.size, 0, none⟩, _, by rw [HLEN.out]; exact Is.fresh w2 _ _, by rw [HLEN.out]; exact HI2.out.but ((But.refl [] w2).alloc _) (by simp), by rw [HLEN.out]; exact HIC.out.but (HB2.out.alloc _) (by simp), by omega, HLOW2.out, ?_⟩, (HB1.out.trans HB2.out).alloc _⟩
    intro a e; cases e; exact Nat.le_refl _

end Go.Proofs.YtghegmbafbpnjaaGreatDoor
set_option maxRecDepth 100000
set_option linter.unusedVariables false
namespace Go.Proofs.YtghegmbafbpnjaaGreatDoor
set_option maxRecDepth 100000
open Go Go.RowKit
attribute [local irreducible] layTs layC layB fixL fixD toks textX fixedX
theorem NewRT.keep {lo b : Nat} {w : World} {l : List Int} (h : NewRT lo w b l) {S : List Nat} (hS : ∀ k ∈ S, k < lo) : Keep S w fun w' => RT w' b l := fun w' hB => (h.but hB hS).rt
theorem OwnK.keep {w : World} {base n c m : Nat} {A : Option Addr} {L : List T3} (h : OwnK w base (.slice A n c) L) {S : List Nat} (hS : ∀ k ∈ S, k < base) (hn : L.length = m) : Keep S w fun w' => Tks w' A m L := fun w' hB => by
  have h2 : OwnK w' base (.slice A n c) L := ownsRow_but h hB fun g e hg => by have := (h.lt g e).1; have := hS g hg; omega
  obtain ⟨A2, c2, e, hT⟩ := h2.open
  injection e with e1 e2 e3
  subst e1
  rw [← hn]
  exact hT
/-- The writer's blocks. -/
theorem WroteF.out {w w' : World} {lo b : Nat} {og : Option Nat} {r : Nat × Nat} (h : WroteF w w' lo b og r) (hb : b < w.heap.size) : ∃ og', FW w' lo b og' r.1 r.2 ∧ ∀ k ∈ b :: og'.toList, k < w'.heap.size := by
  obtain ⟨og', hF, hg, hB⟩ := h
  refine ⟨og', hF, fun k hk => ?_⟩
  simp only [List.mem_cons, Option.mem_toList] at hk
  rcases hk with rfl | hk
  · exact hF.lt.1
  · exact (hF.lt.2 k hk).1
end Go.Proofs.YtghegmbafbpnjaaGreatDoor
set_option maxRecDepth 100000
set_option linter.unusedVariables false
namespace Go.Proofs.YtghegmbafbpnjaaGreatDoor
set_option maxRecDepth 100000
open Go Go.RowKit
theorem conv_at {W : World} {g cap : Nat} {L : List UInt8} (h : ∀ j (hj : j < L.length), W.cell? ⟨g, j, none⟩ = some (.int .u8 (L[j].toNat : Int))) :
    (convert 40 9 (.slice (some ⟨g, 0, none⟩) L.length cap)).run Tryz.prog W = .ok (.string ⟨L.toArray⟩) W := by
  refine run_convert_bytes_back W 40 9 5 ⟨g, 0, none⟩ cap L Tryz.underlying40 Tryz.underlying5 Tryz.underlying9 (fun j hj => ?_)
  have e2 : (⟨g, 0, none⟩ : Addr).add j = ⟨g, j, none⟩ := by unfold Addr.add; split <;> simp_all
  rw [e2]; exact h j hj
theorem head_len (n : Nat) : (headY n).length = 4 := rfl
attribute [local irreducible] layB layY storX textX headY
theorem WroteF.other {w w1 w2 : World} {lo b : Nat} {og : Option Nat} {r : Nat × Nat} (h : WroteF w w1 lo b og r) (hB : But [] w1 w2) : WroteF w w2 lo b og r := by
  obtain ⟨og', hF, hg, hB1⟩ := h
  exact WroteF.step hg hB1 (hF.but hB (by simp) (by simp)) (fun g e => .inl e) (hB.more (by simp))
theorem wrapi {a : Int} (h0 : 0 ≤ a) (h1 : a < 100000) : IntKind.i64.wrap a = a := by simp [IntKind.wrap_i64]; omega
end Go.Proofs.YtghegmbafbpnjaaGreatDoor
namespace Go.Proofs.YtghegmbafbpnjaaGreatDoor
set_option maxRecDepth 100000
section
variable {α β : Type}
end
/-- Weights, and how often each symbol stands in them. -/
abbrev Tg := Nat × List Int
def Bnd (B W : Nat) (L : List Tg) : Prop := ∀ x ∈ L, x.1 ≤ W ∧ ∀ s, 0 ≤ x.2.getD s 0 ∧ x.2.getD s 0 ≤ (B : Int)
theorem Bnd.more {B B' W W' : Nat} {L : List Tg} (h : Bnd B W L) (hB : B ≤ B') (hW : W ≤ W') : Bnd B' W' L := fun x hx => ⟨by have := (h x hx).1; omega, fun s => by have := (h x hx).2 s; omega⟩
end Go.Proofs.YtghegmbafbpnjaaGreatDoor
namespace Go.Proofs.YtghegmbafbpnjaaGreatDoor
set_option maxRecDepth 100000
open Go Go.RowKit
/-- A thing: its weight, whether it is a coin, where its numbers lie, and these. -/
structure Th where
  n : Nat
  b : Bool
  a : Option Addr
  c : Nat
  v : List Int
def thCells (len : Nat) (L : List Th) : List Value := L.flatMap fun x => [.int .i64 x.n, .bool x.b, .slice x.a len x.c]
theorem thCells_at (len : Nat) : ∀ (L : List Th) (i : Nat) (h : i < L.length), (thCells len L)[i * 3]? = some (.int .i64 L[i].n) ∧ (thCells len L)[i * 3 + 1]? = some (.bool L[i].b) ∧ (thCells len L)[i * 3 + 2]? = some (.slice L[i].a len L[i].c)
  | x :: L, 0, _ => by simp [thCells]
  | x :: L, i + 1, h => by
    have := thCells_at len L i (by simpa using h)
    have e : thCells len (x :: L) = .int .i64 x.n :: .bool x.b :: .slice x.a len x.c :: thCells len L := by simp [thCells]
    rw [e, show (i + 1) * 3 = i * 3 + 1 + 1 + 1 from by omega, show i * 3 + 1 + 1 + 1 + 1 = i * 3 + 1 + 1 + 1 + 1 from rfl]
    simpa using this
theorem length_thCells (len : Nat) (L : List Th) : (thCells len L).length = L.length * 3 := by
  induction L with
  | nil => rfl
  | cons x L ih => simp only [thCells, List.flatMap_cons, List.length_append] at ih ⊢; rw [ih]; simp; omega
/-- The numbers of things. -/
def Vecs (w : World) (len : Nat) (L : List Th) : Prop := ∀ x ∈ L, Ints w x.a len x.v
theorem Vecs.but {w w' : World} {len : Nat} {L : List Th} (h : Vecs w len L) (hw : But [] w w') : Vecs w' len L := fun x hx => (h x hx).but hw (by simp)
/-- A slice reads as these things. -/
def Things (w : World) (A : Option Addr) (n len : Nat) (L : List Th) : Prop :=
  L.length = n ∧ (0 < n → ∃ g o, A = some ⟨g, o, none⟩ ∧ g < w.heap.size ∧ ∀ (i : Nat) (h : i < L.length), w.cell? ⟨g, o + i * 3, none⟩ = some (.int .i64 L[i].n) ∧ w.cell? ⟨g, o + i * 3 + 1, none⟩ = some (.bool L[i].b) ∧ w.cell? ⟨g, o + i * 3 + 2, none⟩ = some (.slice L[i].a len L[i].c)) ∧ Vecs w len L
theorem Things.but {w w' : World} {A : Option Addr} {n len : Nat} {L : List Th} (h : Things w A n len L) (hw : But [] w w') : Things w' A n len L :=
  ⟨h.1, fun hn => by
    obtain ⟨g, o, e, hg, hc⟩ := h.2.1 hn
    exact ⟨g, o, e, Nat.lt_of_lt_of_le hg hw.size, fun i hi => ⟨hw.cell (hc i hi).1 (by simp), hw.cell (hc i hi).2.1 (by simp), hw.cell (hc i hi).2.2 (by simp)⟩⟩, h.2.2.but hw⟩
theorem Things.at {w : World} {A : Option Addr} {n len : Nat} {L : List Th} (h : Things w A n len L) {i : Nat} (hi : i < n) :
    ∃ g o, A = some ⟨g, o, none⟩ ∧ g < w.heap.size ∧ w.cell? ⟨g, o + i * 3, none⟩ = some (.int .i64 (L[i]'(by have := h.1; omega)).n) ∧ w.cell? ⟨g, o + i * 3 + 1, none⟩ = some (.bool (L[i]'(by have := h.1; omega)).b) ∧ w.cell? ⟨g, o + i * 3 + 2, none⟩ = some (.slice (L[i]'(by have := h.1; omega)).a len (L[i]'(by have := h.1; omega)).c) := by
  obtain ⟨g, o, e, hg, hc⟩ := h.2.1 (by omega)
  exact ⟨g, o, e, hg, hc i (by have := h.1; omega)⟩
theorem Things.nil (w : World) (A : Option Addr) (len : Nat) : Things w A 0 len [] := ⟨rfl, fun h => absurd h (by omega), fun x hx => by cases hx⟩
theorem Things.news {w : World} {g o n len : Nat} {L : List Th} (h : Things w (some ⟨g, o, none⟩) n len L) (hn : 0 < n) : ∀ j u, (thCells len L)[j]? = some u → w.cell? ((⟨g, o, none⟩ : Addr).add j) = some u := by
  intro j u hu
  obtain ⟨g', o', e, _, hc⟩ := h.2.1 hn
  injection e with e
  injection e with e1 e2
  subst e1 e2
  have hj : j < L.length * 3 := by
    have := (List.getElem?_eq_some_iff.1 hu).1
    rwa [length_thCells] at this
  obtain ⟨h0, h1, h2⟩ := thCells_at len L (j / 3) (by omega)
  obtain ⟨c0, c1, c2⟩ := hc (j / 3) (by omega)
  rw [Go.WideShapes.add_plain]
  have hr : j = j / 3 * 3 ∨ j = j / 3 * 3 + 1 ∨ j = j / 3 * 3 + 2 := by omega
  rcases hr with e | e | e
  · rw [← e] at h0 c0; rw [c0, ← h0, hu]
  · rw [← e] at h1; rw [Nat.add_assoc, ← e] at c1; rw [c1, ← h1, hu]
  · rw [← e] at h2; rw [Nat.add_assoc, ← e] at c2; rw [c2, ← h2, hu]
/-- A slice of things of the call's own. -/
def OwnT (w : World) (base len : Nat) (v : Value) (L : List Th) : Prop := w.ownsRow base 130 3 v L.length (thCells len L)
theorem OwnT.nil (w : World) (base len : Nat) : OwnT w base len (.slice none 0 0) [] := World.ownsRow_nil _ _ _ _
theorem OwnT.but {w w' : World} {base len : Nat} {v : Value} {L : List Th} (h : OwnT w base len v L) (hw : But [] w w') : OwnT w' base len v L := by
  unfold OwnT at h ⊢
  refine ⟨h.1, ?_⟩
  rcases h.2 with h2 | ⟨g, cap, cur, hv, hg, hh, r⟩
  · exact .inl h2
  · refine .inr ⟨g, cap, cur, hv, hg, ?_, r⟩
    have hlt : g < w.heap.size := (h.lt g (by rw [hv]; rfl)).2
    rw [hw.block g hlt (by simp)]
    exact hh
theorem OwnT.open {w : World} {base len : Nat} {v : Value} {L : List Th} (h : OwnT w base len v L) (hv : Vecs w len L) : ∃ A c, v = .slice A L.length c ∧ Things w A L.length len L := by
  unfold OwnT at h
  rcases h.2 with ⟨rfl, e⟩ | ⟨g, cap, cur, rfl, hg, hh, r⟩
  · have : L = [] := List.eq_nil_of_length_eq_zero e
    subst this
    exact ⟨none, 0, rfl, Things.nil _ _ _⟩
  · refine ⟨some ⟨g, 0, none⟩, cap, rfl, rfl, fun hn => ⟨g, 0, rfl, (h.lt g rfl).2, fun i hi => ?_⟩, hv⟩
    obtain ⟨h0, h1, h2⟩ := thCells_at len L i hi
    have c0 := h.cells (g := g) rfl (i * 3) _ h0
    have c1 := h.cells (g := g) rfl (i * 3 + 1) _ h1
    have c2 := h.cells (g := g) rfl (i * 3 + 2) _ h2
    rw [Go.WideShapes.add_plain] at c0 c1 c2
    exact ⟨c0, c1, c2⟩
end Go.Proofs.YtghegmbafbpnjaaGreatDoor
namespace Go.Proofs.YtghegmbafbpnjaaGreatDoor
set_option maxRecDepth 100000
open Go Go.RowKit
theorem getD_mid {d A X B : List (Nat × Nat)} {i : Nat} (h : d = A ++ X ++ B) (h1 : A.length ≤ i) (h2 : i < A.length + X.length) : d.getD i (0, 0) = X[i - A.length]'(by omega) := by
  subst h
  rw [List.getD_eq_getElem?_getD, List.append_assoc, List.getElem?_append_right h1, List.getElem?_append_left (by omega), List.getElem?_eq_getElem (by omega)]; rfl
theorem last_take {X : List (Nat × Nat)} {k : Nat} (h : k < X.length) : (X.take (k + 1)).getLast? = some X[k] := by
  rw [List.take_succ_eq_append_getElem h]; exact List.getLast?_concat
theorem head_drop {X : List (Nat × Nat)} {k : Nat} (h : k < X.length) : (X.drop k).head? = some X[k] := by
  rw [List.drop_eq_getElem_cons h]; rfl
theorem head_all {X : List (Nat × Nat)} {x : Nat × Nat} (h : Srt X) (hh : ∀ y, X.head? = some y → lx x y) : ∀ y ∈ X, lx x y := by
  intro y hy
  cases X with
  | nil => cases hy
  | cons z X =>
    have hz := hh z rfl
    rcases List.mem_cons.1 hy with rfl | hy
    · exact hz
    · exact lx_trans hz ((List.pairwise_cons.1 h).1 y hy)
set_option maxRecDepth 1000000 in
set_option maxHeartbeats 4000000 in
theorem sym_left {w : World} {g o n cap a m b : Nat} {A Y B : List (Nat × Nat)} {x : Nat × Nat} (hd : CL w g o (A ++ x :: Y ++ B)) (hdl : (A ++ x :: Y ++ B).length = n) (hn : n ≤ 1000) (hgl : g < w.heap.size)
    (ha : a = A.length) (hm : m = a + 1) (hb : b = m + Y.length) (hY : Srt Y) (hc : ∀ y ∈ Y, x.1 < y.1) :
    Calls Tryz.prog 131 #[.slice (some ⟨g, o, none⟩) n cap, .int .i64 a, .int .i64 m, .int .i64 b, .func (.func 119) #[] #[]] w fun e w' => e = .returned (.tuple #[]) ∧ (∃ S, Srt S ∧ S.Perm (x :: Y) ∧ CL w' g o (A ++ S ++ B)) ∧ But [g] w w' := by
  have mixed : Tryz.prog.follows .mixedOrders = true := by kernel_rfl
  have hbn : b ≤ n := by simp at hdl; omega
  have hma : (m : Int) - (a : Int) = 1 := by omega
  have hma2 : a < m := by omega
  have hmb : m ≤ b := by omega
  have HA := Lib.hid ha
  have HM := Lib.hid hm
  have HBB := Lib.hid hb
  have HDL := Lib.hid hdl
  have HSY := Lib.hid hY
  clear ha hm hb hdl hY
  go_enter Tryz.func131, Tryz.ntmps131
  go_wp2
  go_loopw [10, 11] (fun iv jv wr => ∃ i j : Nat, m ≤ i ∧ i ≤ j ∧ j ≤ b ∧ iv = .int .i64 i ∧ jv = .int .i64 j ∧ (∀ y, (Y.take (i - m)).getLast? = some y → lx y x) ∧ (∀ y, (Y.drop (j - m)).head? = some y → lx x y) ∧ CL wr g o (A ++ x :: Y ++ B) ∧ But [g] w wr) (fun iv jv _ => (intOf jv).toNat - (intOf iv).toNat)
  case atStart => exact ⟨m, b, Nat.le_refl _, hmb, Nat.le_refl _, rfl, rfl, by simp, by have := HBB.out; rw [List.drop_of_length_le (by omega)]; simp, hd, But.refl _ _⟩
  case round =>
    obtain ⟨i, j, hmi, hij, hjb, rfl, rfl, h1, h2, hd', hB⟩ := hrel
    clear hd hma
    have hgj : g < wr.heap.size := Nat.lt_of_lt_of_le hgl hB.size
    by_cases hlt : i < j
    · obtain ⟨h, hh⟩ : ∃ h, h = (i + j) / 2 := ⟨_, rfl⟩
      have hhi : ((i : Int) + (j : Int)) / 2 = (h : Int) := by omega
      have hih : i ≤ h ∧ h < j := by omega
      have hhn : h < n := by omega
      have hgx := getD_at (d := A ++ x :: Y ++ B) (A := A) (x := x) (B := Y ++ B) (i := a) (by simp) HA.out
      have hym : h - m < Y.length := by have := HBB.out; omega
      have hgy : (A ++ x :: Y ++ B).getD h (0, 0) = Y[h - m]'hym := by
        have := getD_mid (d := A ++ x :: Y ++ B) (A := A ++ [x]) (X := Y) (B := B) (i := h) (by simp) (by have := HA.out; have := HM.out; simp; omega) (by have := HA.out; have := HM.out; have := HBB.out; simp; omega)
        rw [this]; congr 1; have := HA.out; have := HM.out; simp; omega
      have hlt1 := last_take hym
      have hhd1 := head_drop hym
      have hcy := hc _ (List.getElem_mem hym)
      generalize Y[h - m]'hym = y at *
      have x0' := fun n' os => ((hd'.grow hgj n' os).get (i := a) (by have := HDL.out; omega) hgx).1
      have x1' := fun n' os => ((hd'.grow hgj n' os).get (i := a) (by have := HDL.out; omega) hgx).2.1
      have y0' := fun n' os => ((hd'.grow hgj n' os).get (i := h) (by have := HDL.out; omega) hgy).1
      have y1' := fun n' os => ((hd'.grow hgj n' os).get (i := h) (by have := HDL.out; omega) hgy).2.1
      have hcg := fun n' os => cmp_coins y.1 y.2 x.1 x.2 (Sort.grow (wr.drewN n') os)
      have hz0 : (0 : Int) ≤ (h : Int) := by omega
      have hz1 : (h : Int) < (n : Int) := by omega
      have hz2 : (0 : Int) ≤ (a : Int) := by omega
      have hz3 : (a : Int) < (n : Int) := by omega
      have HD := Lib.hid hd'
      have HB := Lib.hid hB
      have H1 := Lib.hid h1
      have H2 := Lib.hid h2
      have HL1 := Lib.hid hlt1
      have HL2 := Lib.hid hhd1
      have HC := Lib.hid hc
      have HCY := Lib.hid hcy
      clear hd' hB h1 h2 hlt1 hhd1 hgx hgy hh hc hcy
      by_cases hlv : (y.2 : Int) < (x.2 : Int)
      · have hcv := cmp_neg hlv
        generalize cmpOf (y.2 : Int) (x.2 : Int) = cv at *
        go_wp2_with fail
        go_quiet_grown (first | (go_at_call 119; refine Calls.grown_of (hcg _ _)))
        go_wp2
        go_roundw
        case rel =>
          refine ⟨h + 1, j, by omega, by omega, hjb, by go_num, rfl, ?_, H2.out, HD.out.grow hgj nq osq, HB.out.grow nq osq⟩
          intro z hz
          rw [show h + 1 - m = (h - m) + 1 from by omega, HL1.out] at hz
          obtain rfl := Option.some.inj hz
          exact .inl (by omega)
        case measure => simp [intOf]; omega
      · have hcv := cmp_not hlv
        generalize cmpOf (y.2 : Int) (x.2 : Int) = cv at *
        go_wp2_with fail
        go_quiet_grown (first | (go_at_call 119; refine Calls.grown_of (hcg _ _)))
        go_wp2
        go_roundw
        case rel =>
          refine ⟨i, h, hmi, by omega, by omega, rfl, rfl, H1.out, ?_, HD.out.grow hgj nq osq, HB.out.grow nq osq⟩
          intro z hz
          rw [HL2.out] at hz
          obtain rfl := Option.some.inj hz
          have := HCY.out
          unfold lx; omega
        case measure => simp [intOf]; omega
    · obtain rfl : i = j := by omega
      have HD := Lib.hid hd'
      have HB := Lib.hid hB
      have H1 := Lib.hid h1
      have H2 := Lib.hid h2
      have HC := Lib.hid hc
      have hi1 : i - m ≤ Y.length := by have := HBB.out; omega
      clear hd' hB h1 h2 hc
      obtain ⟨wo, rfl⟩ : ∃ wo : World, wo = wr := ⟨_, rfl⟩
      go_wp2
      go_loopw [13] (fun kv wr => ∃ (k : Nat) (P Q : List (Nat × Nat)), kv = .int .i64 k ∧ A.length + P.length = k ∧ P ++ Q = Y ∧ P.length ≤ i - m ∧ CL wr g o (A ++ P ++ x :: Q ++ B) ∧ But [g] w wr) (fun kv _ => i - (intOf kv).toNat)
      case atStart => exact ⟨a, [], Y, rfl, by have := HA.out; simp; omega, rfl, by simp, by simpa using HD.out, HB.out⟩
      case round =>
        obtain ⟨k, P, Q, rfl, hkl, hPQ, hPl, hdk, hBk⟩ := hrel
        have hLk : (A ++ P ++ x :: Q ++ B).length = n := by rw [← HDL.out, ← hPQ]; simp; omega
        by_cases hkt : P.length < i - m
        · have hk1 : (k : Int) < (i : Int) - 1 := by have := HA.out; have := HM.out; omega
          obtain ⟨y, Q, rfl⟩ : ∃ y Q', Q = y :: Q' := by
            cases Q with
            | nil => exfalso; have := congrArg List.length hPQ; simp at this; omega
            | cons y Q => exact ⟨y, Q, rfl⟩
          have hx := getD_at (d := A ++ P ++ x :: (y :: Q) ++ B) (A := A ++ P) (x := x) (B := y :: Q ++ B) (i := k) (by simp) (by simp; omega)
          have hy := getD_at (d := A ++ P ++ x :: (y :: Q) ++ B) (A := A ++ P ++ [x]) (x := y) (B := Q ++ B) (i := k + 1) (by simp) (by simp; omega)
          have hkn : k + 1 < n := by simp at hLk; omega
          obtain ⟨x0', x1', x2', x3'⟩ := hdk.get (i := k) (by omega) hx
          obtain ⟨y0', y1', y2', y3'⟩ := hdk.get (i := k + 1) (by omega) hy
          obtain ⟨xs, xc⟩ := x
          obtain ⟨ys, yc⟩ := y
          dsimp only at x0' x1' y0' y1'
          have p0 : (0 : Int) ≤ (k : Int) := by omega
          have p1 : (k : Int) < (n : Int) := by omega
          have q0 : (0 : Int) ≤ (k : Int) + 1 := by omega
          have q1 : (k : Int) + 1 < (n : Int) := by omega
          have e0 : ((k : Int) + 1).toNat = k + 1 := by omega
          have HX := Lib.hid hx
          have HY := Lib.hid hy
          have HQ := Lib.hid hdk
          have HBQ := Lib.hid hBk
          have HPQ := Lib.hid hPQ
          have HLK := Lib.hid hLk
          have HKL := Lib.hid hkl
          clear hx hy hdk hBk hPQ hLk hkl
          go_wp2
          go_region
          go_wp2
          go_roundw
          case rel =>
            refine ⟨k + 1, P ++ [(ys, yc)], Q, by go_num, by have := HKL.out; simp; omega, by rw [← HPQ.out]; simp, by simp; omega, ?_, (HBQ.out.swap _ _ _ _).drew⟩
            have e : sw (A ++ P ++ (xs, xc) :: ((ys, yc) :: Q) ++ B) k (k + 1) = A ++ (P ++ [(ys, yc)]) ++ (xs, xc) :: Q ++ B := by
              have := sw_next (A ++ P) (Q ++ B) (xs, xc) (ys, yc) k (k + 1) (by have := HKL.out; simp; omega) rfl
              simpa using this
            rw [← e]
            exact (HQ.out.swap (by have := HLK.out; omega) (by have := HLK.out; omega) (by omega) HX.out HY.out).heap rfl
          case measure => simp [intOf]; omega
        · have hk1 : ¬ (k : Int) < (i : Int) - 1 := by have := HA.out; have := HM.out; omega
          have hP : P = Y.take (i - m) := by rw [← hPQ, List.take_left' (by omega)]
          have hQ : Q = Y.drop (i - m) := by rw [← hPQ, List.drop_left' (by omega)]
          go_wp2
          refine bodyPost_ret (results_none rfl _ _ _) rfl ⟨rfl, ⟨P ++ x :: Q, srt_insert (by rw [hPQ]; exact HSY.out) (by rw [hP]; exact H1.out) ?_, ?_, by simpa using hdk⟩, hBk⟩
          · rw [hQ]
            have hs := HSY.out
            rw [← List.take_append_drop (i - m) Y] at hs
            exact head_all (List.pairwise_append.1 hs).2.1 H2.out
          · rw [← hPQ]
            exact List.perm_middle
end Go.Proofs.YtghegmbafbpnjaaGreatDoor
namespace Go.Proofs.YtghegmbafbpnjaaGreatDoor
set_option maxRecDepth 100000
open Go Go.RowKit
theorem srt_put {S1 S2 : List (Nat × Nat)} {x : Nat × Nat} (h : Srt (S1 ++ S2)) (h1 : ∀ y, S1.getLast? = some y → lx y x) (h2 : ∀ y, S2.head? = some y → lx x y) : Srt (S1 ++ x :: S2) :=
  srt_insert h h1 (head_all (List.pairwise_append.1 h).2.1 h2)

set_option maxRecDepth 1000000 in
set_option maxHeartbeats 4000000 in
theorem sym_right {w : World} {g o n cap a m b : Nat} {A X B : List (Nat × Nat)} {y : Nat × Nat} (hd : CL w g o (A ++ X ++ y :: B)) (hdl : (A ++ X ++ y :: B).length = n) (hn : n ≤ 1000) (hgl : g < w.heap.size)
    (ha : a = A.length) (hm : m = a + X.length) (hb : b = m + 1) (hX2 : 2 ≤ X.length) (hX : Srt X) (hc : ∀ x ∈ X, x.1 < y.1) :
    Calls Tryz.prog 131 #[.slice (some ⟨g, o, none⟩) n cap, .int .i64 a, .int .i64 m, .int .i64 b, .func (.func 119) #[] #[]] w fun e w' => e = .returned (.tuple #[]) ∧ (∃ S, Srt S ∧ S.Perm (X ++ [y]) ∧ CL w' g o (A ++ S ++ B)) ∧ But [g] w w' := by
  have mixed : Tryz.prog.follows .mixedOrders = true := by kernel_rfl
  have hbn : b ≤ n := by simp at hdl; omega
  have hma : ((m : Int) - (a : Int) == 1) = false := by simp; omega
  have hbm : (b : Int) - (m : Int) = 1 := by omega
  have hma2 : a ≤ m := by omega
  have hmb : m < b := by omega
  have HA := Lib.hid ha
  have HM := Lib.hid hm
  have HBB := Lib.hid hb
  have HDL := Lib.hid hdl
  have HSX := Lib.hid hX
  clear ha hm hb hdl hX
  go_enter Tryz.func131, Tryz.ntmps131
  go_wp2
  go_loopw [14, 15] (fun iv jv wr => ∃ i j : Nat, a ≤ i ∧ i ≤ j ∧ j ≤ m ∧ iv = .int .i64 i ∧ jv = .int .i64 j ∧ (∀ x, (X.take (i - a)).getLast? = some x → lx x y) ∧ (∀ x, (X.drop (j - a)).head? = some x → lx y x) ∧ CL wr g o (A ++ X ++ y :: B) ∧ But [g] w wr) (fun iv jv _ => (intOf jv).toNat - (intOf iv).toNat)
  case atStart => exact ⟨a, m, Nat.le_refl _, hma2, Nat.le_refl _, rfl, rfl, by simp, by have := HM.out; rw [List.drop_of_length_le (by omega)]; simp, hd, But.refl _ _⟩
  case round =>
    obtain ⟨i, j, hmi, hij, hjb, rfl, rfl, h1, h2, hd', hB⟩ := hrel
    clear hd hma hbm
    have hgj : g < wr.heap.size := Nat.lt_of_lt_of_le hgl hB.size
    by_cases hlt : i < j
    · obtain ⟨h, hh⟩ : ∃ h, h = (i + j) / 2 := ⟨_, rfl⟩
      have hhi : ((i : Int) + (j : Int)) / 2 = (h : Int) := by omega
      have hih : i ≤ h ∧ h < j := by omega
      have hhn : h < n := by omega
      have hgy := getD_at (d := A ++ X ++ y :: B) (A := A ++ X) (x := y) (B := B) (i := m) rfl (by have := HM.out; have := HA.out; simp; omega)
      have hym : h - a < X.length := by have := HM.out; omega
      have hgx : (A ++ X ++ y :: B).getD h (0, 0) = X[h - a]'hym := by
        have := getD_mid (d := A ++ X ++ y :: B) (A := A) (X := X) (B := y :: B) (i := h) rfl (by have := HA.out; omega) (by have := HA.out; have := HM.out; omega)
        rw [this]; congr 1; have := HA.out; omega
      have hlt1 := last_take hym
      have hhd1 := head_drop hym
      have hcy := hc _ (List.getElem_mem hym)
      generalize X[h - a]'hym = x at *
      have x0' := fun n' os => ((hd'.grow hgj n' os).get (i := h) (by have := HDL.out; omega) hgx).1
      have x1' := fun n' os => ((hd'.grow hgj n' os).get (i := h) (by have := HDL.out; omega) hgx).2.1
      have y0' := fun n' os => ((hd'.grow hgj n' os).get (i := m) (by have := HDL.out; omega) hgy).1
      have y1' := fun n' os => ((hd'.grow hgj n' os).get (i := m) (by have := HDL.out; omega) hgy).2.1
      have hcg := fun n' os => cmp_coins y.1 y.2 x.1 x.2 (Sort.grow (wr.drewN n') os)
      have hz0 : (0 : Int) ≤ (h : Int) := by omega
      have hz1 : (h : Int) < (n : Int) := by omega
      have hz2 : (0 : Int) ≤ (m : Int) := by omega
      have hz3 : (m : Int) < (n : Int) := by omega
      have HD := Lib.hid hd'
      have HB := Lib.hid hB
      have H1 := Lib.hid h1
      have H2 := Lib.hid h2
      have HL1 := Lib.hid hlt1
      have HL2 := Lib.hid hhd1
      have HC := Lib.hid hc
      have HCY := Lib.hid hcy
      clear hd' hB h1 h2 hlt1 hhd1 hgx hgy hh hc hcy
      by_cases hlv : (y.2 : Int) < (x.2 : Int)
      · have hcv := cmp_neg hlv
        generalize cmpOf (y.2 : Int) (x.2 : Int) = cv at *
        have hcb : (!decide (cv < 0)) = false := by simp; omega
        go_wp2_with fail
        go_quiet_grown (first | (go_at_call 119; refine Calls.grown_of (hcg _ _)))
        go_wp2
        go_roundw
        case rel =>
          refine ⟨i, h, hmi, by omega, by omega, rfl, rfl, H1.out, ?_, HD.out.grow hgj nq osq, HB.out.grow nq osq⟩
          intro z hz
          rw [HL2.out] at hz
          obtain rfl := Option.some.inj hz
          exact .inl (by omega)
        case measure => simp [intOf]; omega
      · have hcv := cmp_not hlv
        generalize cmpOf (y.2 : Int) (x.2 : Int) = cv at *
        have hcb : (!decide (cv < 0)) = true := by simp; omega
        go_wp2_with fail
        go_quiet_grown (first | (go_at_call 119; refine Calls.grown_of (hcg _ _)))
        go_wp2
        go_roundw
        case rel =>
          refine ⟨h + 1, j, by omega, by omega, hjb, by go_num, rfl, ?_, H2.out, HD.out.grow hgj nq osq, HB.out.grow nq osq⟩
          intro z hz
          rw [show h + 1 - a = (h - a) + 1 from by omega, HL1.out] at hz
          obtain rfl := Option.some.inj hz
          have := HCY.out
          unfold lx; omega
        case measure => simp [intOf]; omega
    · obtain rfl : i = j := by omega
      have HD := Lib.hid hd'
      have HB := Lib.hid hB
      have H1 := Lib.hid h1
      have H2 := Lib.hid h2
      have HC := Lib.hid hc
      have hi1 : i - a ≤ X.length := by have := HM.out; omega
      clear hd' hB h1 h2 hc
      obtain ⟨wo, rfl⟩ : ∃ wo : World, wo = wr := ⟨_, rfl⟩
      go_wp2
      go_loopw [17] (fun kv wr => ∃ (k : Nat) (P Q : List (Nat × Nat)), kv = .int .i64 k ∧ A.length + P.length = k ∧ P ++ Q = X ∧ i - a ≤ P.length ∧ CL wr g o (A ++ P ++ y :: Q ++ B) ∧ But [g] w wr) (fun kv _ => (intOf kv).toNat)
      case atStart => exact ⟨m, X, [], rfl, by have := HA.out; have := HM.out; omega, by simp, hi1, by simpa using HD.out, HB.out⟩
      case round =>
        obtain ⟨k, P, Q, rfl, hkl, hPQ, hPl, hdk, hBk⟩ := hrel
        have hLk : (A ++ P ++ y :: Q ++ B).length = n := by rw [← HDL.out, ← hPQ]; simp; omega
        by_cases hkt : i - a < P.length
        · have hk1 : decide (i < k) = true := by have := HA.out; have := HM.out; simp; omega
          have hk2 : (i : Int) < (k : Int) := by have := HA.out; have := HM.out; omega
          rcases List.eq_nil_or_concat P with e | ⟨P, x, e⟩
          · subst e; exfalso; simp at hkt
          rw [List.concat_eq_append] at e
          subst e
          obtain ⟨kp, rfl⟩ : ∃ kp, k = kp + 1 := ⟨k - 1, by simp at hkl; omega⟩
          have hkl2 : A.length + P.length = kp := by simp at hkl; omega
          have hx := getD_at (d := A ++ (P ++ [x]) ++ y :: Q ++ B) (A := A ++ P) (x := x) (B := y :: Q ++ B) (i := kp) (by simp) (by simp; omega)
          have hy := getD_at (d := A ++ (P ++ [x]) ++ y :: Q ++ B) (A := A ++ P ++ [x]) (x := y) (B := Q ++ B) (i := kp + 1) (by simp) (by simp; omega)
          have hkn : kp + 1 < n := by simp at hLk; omega
          obtain ⟨x0', x1', x2', x3'⟩ := hdk.get (i := kp) (by omega) hx
          obtain ⟨y0', y1', y2', y3'⟩ := hdk.get (i := kp + 1) (by omega) hy
          obtain ⟨xs, xc⟩ := x
          obtain ⟨ys, yc⟩ := y
          dsimp only at x0' x1' y0' y1'
          have hwp : IntKind.i64.wrap (kp : Int) = (kp : Int) := by rw [IntKind.wrap_i64]; omega
          have p0 : (0 : Int) ≤ (kp : Int) := by omega
          have p1 : (kp : Int) < (n : Int) := by omega
          have q0 : (0 : Int) ≤ (kp : Int) + 1 := by omega
          have q1 : (kp : Int) + 1 < (n : Int) := by omega
          have e0 : ((kp : Int) + 1).toNat = kp + 1 := by omega
          have HX := Lib.hid hx
          have HY := Lib.hid hy
          have HQ := Lib.hid hdk
          have HBQ := Lib.hid hBk
          have HPQ := Lib.hid hPQ
          have HLK := Lib.hid hLk
          have HKL := Lib.hid hkl2
          have HKT := Lib.hid hkt
          clear hx hy hdk hBk hPQ hLk hkl hkl2 hkt hPl
          go_wp2
          go_region
          go_wp2
          go_roundw
          case rel =>
            refine ⟨kp, P, (xs, xc) :: Q, rfl, HKL.out, by rw [← HPQ.out]; simp, by have := HKT.out; simp at this; omega, ?_, (HBQ.out.swap _ _ _ _).drew⟩
            have e : sw (A ++ (P ++ [(xs, xc)]) ++ (ys, yc) :: Q ++ B) (kp + 1) kp = A ++ P ++ (ys, yc) :: ((xs, xc) :: Q) ++ B := by
              rw [sw_comm _ _ _ (by omega)]
              have := sw_next (A ++ P) (Q ++ B) (xs, xc) (ys, yc) kp (kp + 1) (by have := HKL.out; simp; omega) rfl
              simpa using this
            rw [← e]
            exact (HQ.out.swap (by have := HLK.out; omega) (by have := HLK.out; omega) (by omega) HY.out HX.out).heap rfl
          case measure => simp [intOf]; try omega
        · have hk1 : decide (i < k) = false := by have := HA.out; have := HM.out; simp; omega
          have hk2 : ¬ (i : Int) < (k : Int) := by have := HA.out; have := HM.out; omega
          have hPl2 : P.length = i - a := by omega
          have hP : P = X.take (i - a) := by rw [← hPQ, List.take_left' hPl2]
          have hQ : Q = X.drop (i - a) := by rw [← hPQ, List.drop_left' hPl2]
          go_wp2
          refine bodyPost_ret (results_none rfl _ _ _) rfl ⟨rfl, ⟨P ++ y :: Q, srt_put (by rw [hPQ]; exact HSX.out) (by rw [hP]; exact H1.out) (by rw [hQ]; exact H2.out), ?_, by simpa using hdk⟩, hBk⟩
          rw [← hPQ]
          have : (P ++ y :: Q).Perm (y :: (P ++ Q)) := List.perm_middle
          exact this.trans (List.perm_append_singleton y (P ++ Q)).symm
end Go.Proofs.YtghegmbafbpnjaaGreatDoor
