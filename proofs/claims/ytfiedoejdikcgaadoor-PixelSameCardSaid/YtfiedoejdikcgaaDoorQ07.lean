/- Several texts in one: PxA, FiA, FiB, FiC, FiD, PxC, HpA (what PixelImages, PixelRows, PixelSame reach of them). -/
import Derived.Test.YtfiedoejdikcgaaDoorQ01
import Derived.Test.YtfiedoejdikcgaaDoorQ02
import Derived.Test.YtfiedoejdikcgaaDoorQ03
import Derived.Test.YtfiedoejdikcgaaDoorQ04
import Derived.Test.YtfiedoejdikcgaaDoorQ05
import Derived.Test.YtfiedoejdikcgaaDoorQ06
import Derived.Below
import Derived.BigQuiet
import Derived.BigRegion
import Derived.Deep.AppendLies
import Derived.Deep.CutBlock
import Derived.Deep.CutRange
import Derived.Deep.DeepCutAuto
import Derived.Deep.Draws
import Derived.Deep.QuietTactic
import Derived.Deep.RegionLaw
import Derived.Deep.RegionWith
import Derived.Handy
import Derived.Laws.BitsAllLaws
import Derived.Laws.BitsLemmas
import Derived.Laws.BytesArg
import Derived.Laws.IdiomStrings
import Derived.Laws.MakeOwn
import Derived.Laws.OwnMore
import Derived.Laws.Rows
import Derived.Laws.StructEq
import Derived.Lib.BufferWrite
import Derived.Lib.Hide
import Derived.Maps.AppendAt
import Derived.OrdersHeld
import Derived.OrdersIn
import Derived.Outline
import Derived.OwnWalk
import Derived.OwnWalkIn
import Derived.RangeFuncCalls
import Derived.RegionTactic
import Derived.TacticsInMore
import Derived.Test.YtfiedoejdikcgaaDoorChecked
import Derived.WalkKit
set_option maxRecDepth 100000
set_option linter.unusedVariables false
set_option maxRecDepth 100000
set_option linter.unusedVariables false
namespace Go.Proofs.YtfiedoejdikcgaaDoor
set_option maxRecDepth 100000
open Go Go.RowKit
/-- A block of bytes that may be written. -/
def BytesB (w : World) (g : Nat) (l : List UInt8) : Prop := Is w g 5 (cellsF l).toArray
theorem BytesB.but {w w' : World} {g : Nat} {l : List UInt8} {S : List Nat} (h : BytesB w g l) (k : But S w w') (hg : g ∉ S) : BytesB w' g l := Is.but h k hg
theorem BytesB.off {w : World} {gp : Nat} {l : List UInt8} (h : BytesB w gp l) {g o : Nat} {x : Int} (hc : w.cell? ⟨g, o, none⟩ = some (.int .i64 x)) : g ∉ [gp] := by
  rw [List.mem_singleton]
  rintro rfl
  rw [Is.cell h, List.getElem?_toArray] at hc
  unfold cellsF at hc
  rw [List.getElem?_map] at hc
  cases hl : l[o]? with
  | none => rw [hl] at hc; cases hc
  | some y => rw [hl] at hc; cases hc
theorem Nums.keep {w w' : World} {A : Option Addr} {n gp : Nat} {L : List Nat} {l : List UInt8} (h : Nums w A n L) (hb : BytesB w gp l) (hw : But [gp] w w') : Nums w' A n L :=
  ⟨h.1, fun hn => by
    obtain ⟨g, o, e, hg, hc⟩ := h.2 hn
    exact ⟨g, o, e, Nat.lt_of_lt_of_le hg hw.size, fun i hi => hw.cell (hc i hi) (hb.off (hc i hi))⟩⟩
theorem But.wide {w w' : World} {gp : Nat} (h : But [] w w') : But [gp] w w' := h.more fun k hk => by cases hk
/-- Numbers of a slice. -/
theorem Nums.part {w : World} {A : Option Addr} {n lo k : Nat} {L : List Nat} (h : Nums w A n L) (hk : 0 < k) (hlo : lo + k ≤ n) : ∃ g o, A = some ⟨g, o, none⟩ ∧ Nums w (some ⟨g, o + lo, none⟩) k ((L.drop lo).take k) := by
  obtain ⟨g, o, e, hg, hc⟩ := h.2 (by omega)
  refine ⟨g, o, e, by rw [List.length_take, List.length_drop, h.1]; omega, fun _ => ⟨g, o + lo, rfl, hg, fun i hi => ?_⟩⟩
  rw [List.length_take, List.length_drop] at hi
  rw [List.getElem_take, List.getElem_drop, Nat.add_assoc]
  exact hc (lo + i) (by omega)
theorem cellsF_set (pix : List UInt8) (k : Nat) (q : List UInt8) (h : k + q.length ≤ pix.length) : (cellsF pix).take k ++ (cellsF q ++ (cellsF pix).drop (k + q.length)) = cellsF (setN pix k q) := by
  unfold setN cellsF
  rw [List.map_append, List.map_append, List.map_take, List.map_drop]
/-- Bytes of a string copied into a block. -/
theorem run_copyB {w : World} {g k dLen dCap : Nat} {s : ByteArray} {l : List UInt8} (h : BytesB w g l) (hle : s.size ≤ dLen) (hfit : k + s.size ≤ l.length) (ty : TypeId) :
    ∃ w', (Builtin.copy_ #[45, 9] ty #[.slice (some ⟨g, k, none⟩) dLen dCap, .string s]).run Tryd.prog w = .ok (goInt s.size) w' ∧ BytesB w' g (setN l k s.data.toList) ∧ But [g] w w' := by
  have hr := Lib.run_copy_row_string (P := Tryd.prog) w 45 9 ty 5 g k dLen dCap s (cellsF l).toArray 5 Tryd.underlying45 (by obtain ⟨i0, hi0, hz0, hz1, hz2⟩ := info_parts info_u8F; rw [hi0]; exact congrArg some hz1) h hle (by rw [List.size_toArray, cellsF_length]; exact hfit)
  refine ⟨_, hr, ?_, ?_⟩
  · have e : ((cellsF l).toArray.toList.take k ++ Lib.byteCells s.data.toList ++ (cellsF l).toArray.toList.drop (k + s.size)).toArray = (cellsF (setN l k s.data.toList)).toArray := by
      rw [← cellsF_set l k s.data.toList (by rw [Array.length_toList]; exact hfit), List.append_assoc, Array.length_toList]
      rfl
    rw [e]
    exact setRow_heap w g _ _ _ _ h
  · exact ⟨rfl, rfl, rfl, by simp [World.setRow], fun i hi hg => setRow_other w g i _ (by simpa using hg)⟩
theorem noughtsB (w : World) (n : Nat) : BytesB (noughtsF w n) w.heap.size (List.replicate n 0) := by
  unfold BytesB noughtsF
  have e : (cellsF (List.replicate n 0)).toArray = madeCells (Value.int .u8 0).cells n := by
    have e : (Value.int .u8 0).cells = #[.int .u8 0] := rfl
    unfold madeCells cellsF
    rw [e]
    apply Array.ext'
    simp [Nat.mod_one]
    exact (List.eq_replicate_iff.2 ⟨by simp, by simp⟩).symm
  rw [e]
  exact Is.fresh w _ _
theorem BytesB.text {w : World} {g : Nat} {l : List UInt8} (h : BytesB w g l) (cap : Nat) : (convert 45 9 (.slice (some ⟨g, 0, none⟩) l.length cap)).run Tryd.prog w = .ok (.string (strL l)) w :=
  conv_atF fun j hj => by
    rw [Is.cell h, List.getElem?_toArray]
    unfold cellsF
    rw [List.getElem?_map, List.getElem?_eq_getElem hj]
    rfl
set_option maxHeartbeats 1000000 in
theorem ebytes_any (w : World) {a b c l : Int} {D S : Nat} (hs : samplesI c = (S : Int)) (hD : D ≤ 16) (hS : S ≤ 4) :
    Calls Tryd.prog 28 #[.agg #[.int .i64 a, .int .i64 b, .int .i64 D, .int .i64 c, .int .i64 l]] w fun e w' => e = .returned (.int .i64 (max 1 (D * S / 8) : Nat)) ∧ But [] w w' := by
  have HB := Lib.hid ((But.refl [] w).alloc (.cells #[.int .i64 a, .int .i64 b, .int .i64 D, .int .i64 c, .int .i64 l] 29))
  have hI := Is.fresh w 29 #[.int .i64 a, .int .i64 b, .int .i64 D, .int .i64 c, .int .i64 l]
  have c2 := hI.cell 2
  have c3 := hI.cell 3
  obtain ⟨p, hp⟩ : ∃ p, p = D * S := ⟨_, rfl⟩
  have hpl : p ≤ 64 := by rw [hp]; show _ ≤ 16 * 4; exact Nat.mul_le_mul hD hS
  have e0 : (D : Int) * (S : Int) = (p : Int) := by rw [hp, Int.natCast_mul]
  obtain ⟨q, hq⟩ : ∃ q, q = p / 8 := ⟨_, rfl⟩
  have e1 : (p : Int).tdiv 8 = (q : Int) := by rw [Int.tdiv_eq_ediv_of_nonneg (by omega)]; omega
  have e2 : (p : Int) / 8 = (q : Int) := by omega
  have t1 := wrapI_in (show p < 1000000000000000 by omega)
  have t2 := wrapI_in (show q < 1000000000000000 by omega)
  have HS : Hid (∀ W, Calls Tryd.prog 16 #[.int .i64 c] W fun e w' => e = .returned (.int .i64 (S : Nat)) ∧ w' = W) := Lib.hid fun W => (esamples_any W c).mono fun _ _ ⟨h1, h2⟩ => ⟨by rw [h1, hs], h2.symm⟩
  rw [← hp, ← hq]
  obtain ⟨m, hm⟩ : ∃ m, m = max 1 q := ⟨_, rfl⟩
  rw [← hm]
  clear hp hq hI hs
  by_cases h0 : q = 0
  · obtain rfl : 1 = m := by omega
    subst h0
    clear hm
    go_enter Tryd.func28, Tryd.ntmps28
    go_upto_region 1 with (fail)
    go_quiet ((go_at_call 16; exact Calls.quiet_of_same (HS.out _)))
    go_wp2
    go_ret
    exact ⟨rfl, HB.out.drewN _⟩
  · obtain rfl : q = m := by omega
    clear hm
    go_enter Tryd.func28, Tryd.ntmps28
    go_upto_region 1 with (fail)
    go_quiet ((go_at_call 16; exact Calls.quiet_of_same (HS.out _)))
    all_goals go_wp2
    all_goals go_ret
    all_goals refine ⟨?_, HB.out.drewN _⟩
    all_goals first | rfl | (have e : (q : Int) = 1 := by omega
                             rw [e]; rfl)
/-- Whether a raster may be. -/
def checkA (a b : Int) (pix : ByteArray) : Int := if rightH a b 16 6 0 ≠ 0 then rightH a b 16 6 0 else if (pix.size : Int) ≠ 8 * a * b then 24 else 0
end Go.Proofs.YtfiedoejdikcgaaDoor
set_option maxRecDepth 100000
set_option linter.unusedVariables false
namespace Go.Proofs.YtfiedoejdikcgaaDoor
set_option maxRecDepth 100000
open Go Go.RowKit
/-- The byte at a place, nought where there is none. -/
def atF (s : ByteArray) (i : Int) : Nat := if i < 0 then 0 else (s.data.toList.getD i.toNat 0).toNat
theorem atF_neg (s : ByteArray) {i : Int} (h : i < 0) : atF s i = 0 := by unfold atF; rw [if_pos h]
theorem atF_over (s : ByteArray) {i : Int} (h0 : 0 ≤ i) (h : (s.size : Int) ≤ i) : atF s i = 0 := by
  unfold atF; rw [if_neg (by omega), getD_over s (by omega)]; rfl
theorem atF_nat (s : ByteArray) (k : Nat) : atF s (k : Int) = (s.data.toList.getD k 0).toNat := by
  unfold atF; rw [if_neg (by omega)]; rfl
theorem atF_behind (s : ByteArray) (n k : Nat) : atF s ((k : Int) - (n : Int)) = behindF s.data.toList n k := by
  unfold atF behindF
  by_cases h : k < n
  · rw [if_pos (by omega), if_pos h]
  · rw [if_neg (by omega), if_neg h, show ((k : Int) - (n : Int)).toNat = k - n by omega]
set_option maxHeartbeats 1000000 in
theorem eat_any (w : World) (s : ByteArray) (i : Int) (hs : s.size ≤ 140737488355328) :
    Calls Tryd.prog 48 #[.string s, .int .i64 i] w fun e w' => e = .returned (.int .i64 (atF s i)) ∧ w = w' := by
  by_cases h0 : i < 0
  · have h1 : decide (i < 0) = true := decide_eq_true h0
    have HR := Lib.hid (atF_neg s h0)
    go_enter Tryd.func48, Tryd.ntmps48
    go_wp2
    go_ret
    exact ⟨by rw [HR.out]; rfl, rfl⟩
  · obtain ⟨k, rfl⟩ : ∃ k : Nat, i = (k : Int) := ⟨i.toNat, by omega⟩
    by_cases h1 : k < s.size
    · have HR : Hid (atF s (k : Int) = s[k].toNat) := Lib.hid (by rw [atF_nat, getD_byte s h1])
      have hb := s[k].toNat_lt
      have hwr : wrap64 ((s[k].toNat : Nat) : Int) = (s[k].toNat : Nat) := IntWalk.wrap64_in _ ⟨by omega, by omega⟩
      go_enter Tryd.func48, Tryd.ntmps48
      go_wp2
      go_ret
      exact ⟨by rw [HR.out]; rfl, rfl⟩
    · have HR : Hid (atF s (k : Int) = 0) := Lib.hid (atF_over s (by omega) (by omega))
      go_enter Tryd.func48, Tryd.ntmps48
      go_wp2
      go_ret
      exact ⟨by rw [HR.out]; rfl, rfl⟩
set_option maxHeartbeats 1000000 in
/-- How far two numbers are apart. -/
theorem eaway_any (w : World) (a b : Int) (ha : -100000 ≤ a ∧ a ≤ 100000) (hb : -100000 ≤ b ∧ b ≤ 100000) :
    Calls Tryd.prog 66 #[.int .i64 a, .int .i64 b] w fun e w' => e = .returned (.int .i64 ((a - b).natAbs : Nat)) ∧ w = w' := by
  obtain ⟨a1, a2⟩ := ha
  obtain ⟨b1, b2⟩ := hb
  go_enter Tryd.func66, Tryd.ntmps66
  go_wp2
  all_goals
    go_ret
    refine ⟨?_, rfl⟩
    exact congrArg (fun x => Ending.returned (.int .i64 x)) (by omega)
theorem predF_1 (a b c : Nat) : predF 1 a b c = a := by unfold predF; rw [if_pos rfl]
theorem predF_2 (a b c : Nat) : predF 2 a b c = b := by unfold predF; rw [if_neg (by decide), if_pos rfl]
theorem predF_3 (a b c : Nat) : predF 3 a b c = (a + b) / 2 := by unfold predF; rw [if_neg (by decide), if_neg (by decide), if_pos rfl]
theorem predF_4 (a b c : Nat) : predF 4 a b c = if ((b : Int) - c).natAbs ≤ ((a : Int) - c).natAbs ∧ ((b : Int) - c).natAbs ≤ ((a : Int) + b - c - c).natAbs then a else if ((a : Int) - c).natAbs ≤ ((a : Int) + b - c - c).natAbs then b else c := by
  unfold predF; rw [if_neg (by decide), if_neg (by decide), if_neg (by decide), if_pos rfl]
theorem predF_none {kind : Int} (h1 : kind ≠ 1) (h2 : kind ≠ 2) (h3 : kind ≠ 3) (h4 : kind ≠ 4) (a b c : Nat) : predF kind a b c = 0 := by
  unfold predF; rw [if_neg h1, if_neg h2, if_neg h3, if_neg h4]
theorem predF_lt (kind : Int) {a b c : Nat} (ha : a < 256) (hb : b < 256) (hc : c < 256) : predF kind a b c < 256 := by
  unfold predF
  repeat' split
  all_goals omega
set_option maxHeartbeats 1000000 in
/-- What a kind foretells of a byte. -/
theorem etells_any (w : World) (kind : Int) {a b c : Nat} (ha : a < 256) (hb : b < 256) (hc : c < 256) :
    Calls Tryd.prog 47 #[.int .i64 kind, .int .i64 a, .int .i64 b, .int .i64 c] w fun e w' => e = .returned (.int .i64 (predF kind a b c : Nat)) ∧ w = w' := by
  by_cases h1 : kind = 1
  · subst h1
    rw [predF_1]
    go_enter Tryd.func47, Tryd.ntmps47
    go_wp2
    go_ret
    exact ⟨rfl, rfl⟩
  by_cases h2 : kind = 2
  · subst h2
    rw [predF_2]
    go_enter Tryd.func47, Tryd.ntmps47
    go_wp2
    go_ret
    exact ⟨rfl, rfl⟩
  by_cases h3 : kind = 3
  · subst h3
    rw [predF_3]
    go_enter Tryd.func47, Tryd.ntmps47
    go_wp2
    go_ret
    exact ⟨by first | rfl | (congr 2; omega), rfl⟩
  by_cases h4 : kind = 4
  · subst h4
    rw [predF_4]
    obtain ⟨p, hp⟩ : ∃ p, (a : Int) + b - c = p := ⟨_, rfl⟩
    obtain ⟨x, hx⟩ : ∃ x, x = ((b : Int) - c).natAbs := ⟨_, rfl⟩
    obtain ⟨y, hy⟩ : ∃ x, x = ((a : Int) - c).natAbs := ⟨_, rfl⟩
    obtain ⟨z, hz⟩ : ∃ x, x = ((a : Int) + b - c - c).natAbs := ⟨_, rfl⟩
    have H1 : Hid (∀ v, Calls Tryd.prog 66 #[.int .i64 p, .int .i64 a] v fun e w' => e = .returned (.int .i64 (x : Nat)) ∧ v = w') := Lib.hid fun v => by
      rw [hx, show (b : Int) - c = p - a by omega]; exact eaway_any v _ _ (by omega) (by omega)
    have H2 : Hid (∀ v, Calls Tryd.prog 66 #[.int .i64 p, .int .i64 b] v fun e w' => e = .returned (.int .i64 (y : Nat)) ∧ v = w') := Lib.hid fun v => by
      rw [hy, show (a : Int) - c = p - b by omega]; exact eaway_any v _ _ (by omega) (by omega)
    have H3 : Hid (∀ v, Calls Tryd.prog 66 #[.int .i64 p, .int .i64 c] v fun e w' => e = .returned (.int .i64 (z : Nat)) ∧ v = w') := Lib.hid fun v => by
      rw [hz, hp]; exact eaway_any v _ _ (by omega) (by omega)
    rw [← hx, ← hy, ← hz]
    have hpb : -1000 ≤ p ∧ p ≤ 1000 := by omega
    obtain ⟨p0, p1⟩ := hpb
    clear hx hy hz
    by_cases c1 : x ≤ y
    · by_cases c2 : x ≤ z
      · have HR := Lib.hid (show (if x ≤ y ∧ x ≤ z then a else if y ≤ z then b else c) = a by rw [if_pos ⟨c1, c2⟩])
        go_enter Tryd.func47, Tryd.ntmps47
        go_wp2_with fail
        refine (H1.out _).mono ?_; rintro e w1 ⟨rfl, rfl⟩
        go_wp2_with fail
        refine (H2.out _).mono ?_; rintro e w1 ⟨rfl, rfl⟩
        go_wp2_with fail
        refine (H1.out _).mono ?_; rintro e w1 ⟨rfl, rfl⟩
        go_wp2_with fail
        refine (H3.out _).mono ?_; rintro e w1 ⟨rfl, rfl⟩
        go_wp2_with fail
        go_ret
        first | exact ⟨rfl, rfl⟩ | exact ⟨by rw [HR.out]; rfl, rfl⟩
      · by_cases c3 : y ≤ z
        · exact absurd (Nat.le_trans c1 c3) c2
        · have HR : Hid ((if x ≤ y ∧ x ≤ z then a else if y ≤ z then b else c) = c) := Lib.hid (by rw [if_neg (by omega), if_neg c3])
          go_enter Tryd.func47, Tryd.ntmps47
          go_wp2_with fail
          refine (H1.out _).mono ?_; rintro e w1 ⟨rfl, rfl⟩
          go_wp2_with fail
          refine (H2.out _).mono ?_; rintro e w1 ⟨rfl, rfl⟩
          go_wp2_with fail
          refine (H1.out _).mono ?_; rintro e w1 ⟨rfl, rfl⟩
          go_wp2_with fail
          refine (H3.out _).mono ?_; rintro e w1 ⟨rfl, rfl⟩
          go_wp2_with fail
          refine (H2.out _).mono ?_; rintro e w1 ⟨rfl, rfl⟩
          go_wp2_with fail
          refine (H3.out _).mono ?_; rintro e w1 ⟨rfl, rfl⟩
          go_wp2_with fail
          go_ret
          first | exact ⟨rfl, rfl⟩ | exact ⟨by rw [HR.out]; rfl, rfl⟩
    · by_cases c3 : y ≤ z
      · have HR : Hid ((if x ≤ y ∧ x ≤ z then a else if y ≤ z then b else c) = b) := Lib.hid (by rw [if_neg (by omega), if_pos c3])
        go_enter Tryd.func47, Tryd.ntmps47
        go_wp2_with fail
        refine (H1.out _).mono ?_; rintro e w1 ⟨rfl, rfl⟩
        go_wp2_with fail
        refine (H2.out _).mono ?_; rintro e w1 ⟨rfl, rfl⟩
        go_wp2_with fail
        refine (H2.out _).mono ?_; rintro e w1 ⟨rfl, rfl⟩
        go_wp2_with fail
        refine (H3.out _).mono ?_; rintro e w1 ⟨rfl, rfl⟩
        go_wp2_with fail
        go_ret
        first | exact ⟨rfl, rfl⟩ | exact ⟨by rw [HR.out]; rfl, rfl⟩
      · have HR : Hid ((if x ≤ y ∧ x ≤ z then a else if y ≤ z then b else c) = c) := Lib.hid (by rw [if_neg (by omega), if_neg c3])
        go_enter Tryd.func47, Tryd.ntmps47
        go_wp2_with fail
        refine (H1.out _).mono ?_; rintro e w1 ⟨rfl, rfl⟩
        go_wp2_with fail
        refine (H2.out _).mono ?_; rintro e w1 ⟨rfl, rfl⟩
        go_wp2_with fail
        refine (H2.out _).mono ?_; rintro e w1 ⟨rfl, rfl⟩
        go_wp2_with fail
        refine (H3.out _).mono ?_; rintro e w1 ⟨rfl, rfl⟩
        go_wp2_with fail
        go_ret
        first | exact ⟨rfl, rfl⟩ | exact ⟨by rw [HR.out]; rfl, rfl⟩
  · have d1 : (kind == 1) = false := by simpa using h1
    have d2 : (kind == 2) = false := by simpa using h2
    have d3 : (kind == 3) = false := by simpa using h3
    have d4 : (kind == 4) = false := by simpa using h4
    rw [predF_none h1 h2 h3 h4]
    go_enter Tryd.func47, Tryd.ntmps47
    go_wp2
    go_ret
    exact ⟨rfl, rfl⟩
/-- Which arguments may be. -/
def wrongP (bpp : Int) (s t : ByteArray) : Int := if bpp < 1 ∨ 8 < bpp ∨ (t.size ≠ 0 ∧ t.size ≠ s.size) then 1 else 0
def wrongF (bpp kind : Int) (s t : ByteArray) : Int := if wrongP bpp s t ≠ 0 then 1 else if kind < 0 ∨ 4 < kind then 28 else 0
theorem wrongP_cases (bpp : Int) (s t : ByteArray) : wrongP bpp s t = 0 ∨ wrongP bpp s t = 1 := by unfold wrongP; split <;> simp
theorem wrongF_cases (bpp kind : Int) (s t : ByteArray) : wrongF bpp kind s t = 0 ∨ wrongF bpp kind s t = 1 ∨ wrongF bpp kind s t = 28 := by
  unfold wrongF
  repeat' split
  all_goals simp
theorem wrongF_zero {bpp kind : Int} {s t : ByteArray} (h : wrongF bpp kind s t = 0) : (1 ≤ bpp ∧ bpp ≤ 8) ∧ (t.size = 0 ∨ t.size = s.size) ∧ 0 ≤ kind ∧ kind ≤ 4 := by
  unfold wrongF at h
  by_cases h1 : wrongP bpp s t ≠ 0
  · rw [if_pos h1] at h; exact absurd h (by decide)
  · rw [if_neg h1] at h
    by_cases h2 : kind < 0 ∨ 4 < kind
    · rw [if_pos h2] at h; exact absurd h (by decide)
    · unfold wrongP at h1
      by_cases h3 : bpp < 1 ∨ 8 < bpp ∨ (t.size ≠ 0 ∧ t.size ≠ s.size)
      · rw [if_pos h3] at h1; exact absurd h1 (by decide)
      · omega
end Go.Proofs.YtfiedoejdikcgaaDoor
set_option maxRecDepth 100000
set_option linter.unusedVariables false
namespace Go.Proofs.YtfiedoejdikcgaaDoor
set_option maxRecDepth 100000
open Go Go.RowKit
/-- A compare with the empty string, as the walk reads it. -/
theorem empty_eqF {t : ByteArray} (h : t.size = 0) : t = ByteArray.empty := by
  apply ByteArray.ext; apply Array.ext'
  have : t.data.toList.length = 0 := by rw [Array.length_toList]; exact h
  exact List.eq_nil_of_length_eq_zero this
theorem empty_toF {t : ByteArray} (h : t.size = 0) : t.toList = [] := by rw [ByteArray.toList_eq, empty_eqF h]; rfl
theorem empty_neF {t : ByteArray} (h : t.size ≠ 0) : (t.toList == []) = false := by
  rw [ByteArray.toList_eq]
  have h2 : t.data.toList ≠ [] := fun e => h (by show t.data.size = 0; rw [← Array.length_toList, e]; rfl)
  simpa using h2
set_option maxHeartbeats 1000000 in
theorem ewrong_any (w : World) (bpp kind : Int) (s t : ByteArray) (hs : s.size ≤ 140737488355328) (ht : t.size ≤ 140737488355328) :
    Calls Tryd.prog 46 #[.int .i64 bpp, .int .i64 kind, .string s, .string t] w fun e w' => e = .returned (.int .i64 (wrongF bpp kind s t)) ∧ w = w' := by
  obtain ⟨r, hr⟩ : ∃ r, r = wrongF bpp kind s t := ⟨_, rfl⟩
  rw [← hr]
  have HR := Lib.hid hr
  clear hr
  by_cases hz : t.size = 0
  · have e1 := empty_toF hz
    have HZ := Lib.hid hz
    go_enter Tryd.func46, Tryd.ntmps46
    go_wp2
    all_goals
      go_ret
      refine ⟨?_, rfl⟩
      rw [HR.out]
      have hz := HZ.out
      clear HR HZ e1
      unfold wrongF wrongP
      simp_all
      try omega
  · have e1 := empty_neF hz
    have HZ := Lib.hid hz
    go_enter Tryd.func46, Tryd.ntmps46
    go_wp2
    all_goals
      go_ret
      refine ⟨?_, rfl⟩
      rw [HR.out]
      have hz := HZ.out
      clear HR HZ e1
      unfold wrongF wrongP
      simp_all
      try omega
end Go.Proofs.YtfiedoejdikcgaaDoor
set_option maxRecDepth 100000
set_option linter.unusedVariables false
namespace Go.Proofs.YtfiedoejdikcgaaDoor
set_option maxRecDepth 100000
open Go Go.RowKit
/-- A line that is filtered, of whatever arguments. -/
def doA (bpp kind : Int) (s t : ByteArray) : List UInt8 := if wrongF bpp kind s t = 0 then doF kind bpp.toNat s.data.toList t.data.toList else []
theorem doA_ok {n : Nat} {kind : Int} {s t : ByteArray} (h : wrongF (n : Int) kind s t = 0) : doA (n : Int) kind s t = doF kind n s.data.toList t.data.toList := by unfold doA; rw [if_pos h]; rfl
theorem doA_bad {bpp kind : Int} {s t : ByteArray} (h : wrongF bpp kind s t ≠ 0) : doA bpp kind s t = [] := by unfold doA; rw [if_neg h]
theorem byteF_run {s : ByteArray} {k : Nat} (hk : k < s.size) (w : World) : (Instr.index 9 (.string s) (.int .i64 (k : Int))).run Tryd.prog w = .ok (.int .u8 (s[k].toNat : Nat)) w := by
  simp [go_sem, Tryd.underlying9, hk]
end Go.Proofs.YtfiedoejdikcgaaDoor
set_option maxRecDepth 100000
set_option linter.unusedVariables false
namespace Go.Proofs.YtfiedoejdikcgaaDoor
set_option maxRecDepth 100000
open Go Go.RowKit
/-- A line of which the filter is undone, of whatever arguments. -/
def undoA (bpp kind : Int) (s t : ByteArray) : List UInt8 := if wrongF bpp kind s t = 0 then undoF kind bpp.toNat s.data.toList t.data.toList else []
theorem undoA_ok {n : Nat} {kind : Int} {s t : ByteArray} (h : wrongF (n : Int) kind s t = 0) : undoA (n : Int) kind s t = undoF kind n s.data.toList t.data.toList := by unfold undoA; rw [if_pos h]; rfl
theorem undoA_bad {bpp kind : Int} {s t : ByteArray} (h : wrongF bpp kind s t ≠ 0) : undoA bpp kind s t = [] := by unfold undoA; rw [if_neg h]
theorem behindF_lt (l : List UInt8) (n k : Nat) : behindF l n k < 256 := by
  unfold behindF
  split
  · omega
  · exact UInt8.toNat_lt _
end Go.Proofs.YtfiedoejdikcgaaDoor
set_option maxRecDepth 100000
set_option linter.unusedVariables false
namespace Go.Proofs.YtfiedoejdikcgaaDoor
set_option maxRecDepth 100000
open Go Go.RowKit
theorem Pss.keep {w w' : World} {A : Option Addr} {n gp : Nat} {L : List P6} {l : List UInt8} (h : Pss w A n L) (hb : BytesB w gp l) (hw : But [gp] w w') : Pss w' A n L :=
  ⟨h.1, fun hn => by
    obtain ⟨g, o, e, hg, hc⟩ := h.2 hn
    have h0 : 0 < L.length := by rw [h.1]; exact hn
    have hc0 : w.cell? ⟨g, o + 0 * 6 + 0, none⟩ = some (.int .i64 (L[0].1 : Nat)) := hc 0 0 h0 (by decide)
    have hoff := hb.off hc0
    refine ⟨g, o, e, Nat.lt_of_lt_of_le hg hw.size, fun i k hi hk => ?_⟩
    have h1 := hc i k hi hk
    rw [← h1]
    have hb := hw.block g hg hoff
    simp [World.cell?, hb]⟩
theorem runI_above {S : ShP} {js : List RowJ} (h : ∀ j, js.head? = some j → j.first = true) (raw A B pix : List UInt8) : runI S js raw A pix = runI S js raw B pix := by
  cases js with
  | nil => rfl
  | cons j js =>
    have hj := h j rfl
    rw [runI, runI, hj]
    rfl
theorem jobs_head {w h : Nat} : ∀ L : List PassL, (∀ p, p ∈ L → someP w h p = true) → ∀ j, (jobsL w h L).head? = some j → j.first = true := by
  intro L hL j hj
  cases L with
  | nil => cases hj
  | cons p L =>
    have hp := of_decide_eq_true (hL p (List.mem_cons_self ..))
    have e : jobsL w h (p :: L) = leftJ w h (p :: L) 0 p 0 := (leftJ_start (L := p :: L) (i := 0) rfl hp.1).symm
    rw [e, leftJ_next hp.2] at hj
    have : jobP w p 0 = j := Option.some.inj hj
    rw [← this]
    rfl
theorem sampleN_lt (row : List UInt8) (D i : Nat) : sampleN row D i < 2 ^ D := by
  unfold sampleN
  exact valN_lt fun b _ => bitN_lt _ _
theorem samps_cut {S : ShP} {line : List UInt8} {N x : Nat} (hx : x < N) : ((unpackT line S.d (samplesN S.c * N)).drop (samplesN S.c * x)).take (samplesN S.c) = sampsL S line x := by
  have h1 : samplesN S.c * (x + 1) ≤ samplesN S.c * N := Nat.mul_le_mul_left _ hx
  rw [Nat.mul_add, Nat.mul_one] at h1
  unfold sampsL unpackT
  apply List.ext_getElem
  · rw [List.length_take, List.length_drop, List.length_map, List.length_range, List.length_map, List.length_range]
    omega
  · intro i h2 h3
    rw [List.getElem_take, List.getElem_drop, List.getElem_map, List.getElem_map, List.getElem_range, List.getElem_range]
theorem sampsL_lt (S : ShP) (line : List UInt8) (x i : Nat) : (sampsL S line x).getD i 0 < 2 ^ S.d := by
  unfold sampsL
  rw [List.getD_eq_getElem?_getD, List.getElem?_map]
  cases (List.range (samplesN S.c))[i]? with
  | none => exact Nat.pow_pos (by decide)
  | some k => exact sampleN_lt _ _ _
theorem sampsL_length (S : ShP) (line : List UInt8) (x : Nat) : (sampsL S line x).length = samplesN S.c := by unfold sampsL; rw [List.length_map, List.length_range]
theorem pixel_samps {a b d c l : Int} {W H D C : Nat} {pal tr : ByteArray} {has : Bool} (R : RightP a b d c l W H D C) (line : List UInt8) (x : Nat) :
    pixelA (D : Int) (C : Int) pal tr has ((sampsL ⟨W, H, D, C, pal.data.toList, tr.data.toList, has⟩ line x).map fun y => ((y : Nat) : Int)) =
      (strL (pixS ⟨W, H, D, C, pal.data.toList, tr.data.toList, has⟩ (sampsL ⟨W, H, D, C, pal.data.toList, tr.data.toList, has⟩ line x)).1, (pixS ⟨W, H, D, C, pal.data.toList, tr.data.toList, has⟩ (sampsL ⟨W, H, D, C, pal.data.toList, tr.data.toList, has⟩ line x)).2) := by
  have hlt : ∀ i, (sampsL ⟨W, H, D, C, pal.data.toList, tr.data.toList, has⟩ line x).getD i 0 < 2 ^ D := sampsL_lt ⟨W, H, D, C, pal.data.toList, tr.data.toList, has⟩ line x
  rw [pixelA_ok (n := samplesN C) (by rw [List.length_map]; exact sampsL_length _ _ _) R.sam (by have := R.s1; omega) R.dep, pixA_S R.dep hlt]
  refine inR_yes fun i y hy => ?_
  have hg := getD_of hy
  rw [map_getD] at hg
  have := hlt i
  rw [← hg]
  constructor
  · omega
  · exact_mod_cast this
/-- The shape and the answer's block stand. -/
def ImS (b0 b4 : Nat) (cs : Array Value) (v : World) : Prop := Is v b0 31 cs ∧ Is v b4 23 #[.int .i64 0, .int .i64 0, .string ⟨#[]⟩]
theorem ImS.but {b0 b4 : Nat} {cs : Array Value} {v v' : World} (h : ImS b0 b4 cs v) (k : But [] v v') : ImS b0 b4 cs v' := ⟨h.1.but k (by simp), h.2.but k (by simp)⟩
end Go.Proofs.YtfiedoejdikcgaaDoor
set_option maxRecDepth 100000
set_option linter.unusedVariables false
namespace Go.Proofs.YtfiedoejdikcgaaDoor
set_option maxRecDepth 100000
open Go Go.RowKit
set_option maxHeartbeats 1000000 in
theorem psamples_any (w : World) (c : Int) : Calls Tryd.prog 63 #[.int .i64 c] w fun e w' => e = .returned (.int .i64 (samplesI c)) ∧ w = w' := by
  obtain ⟨r, hr⟩ : ∃ r, r = samplesI c := ⟨_, rfl⟩
  rw [← hr]
  have HR := Lib.hid hr
  clear hr
  go_enter Tryd.func63, Tryd.ntmps63
  go_wp2
  all_goals
    go_ret
    refine ⟨?_, rfl⟩
    rw [HR.out]
    unfold samplesI
    clear HR
    simp at *
    try simp [*]
set_option maxHeartbeats 1000000 in
theorem pside_any (w : World) (n : Int) : Calls Tryd.prog 39 #[.int .i64 n] w fun e w' => e = .returned (.bool (decide (1 ≤ n ∧ n ≤ 2147483647))) ∧ w = w' := by
  obtain ⟨s, hs⟩ : ∃ s, s = decide (1 ≤ n ∧ n ≤ 2147483647) := ⟨_, rfl⟩
  rw [← hs]
  by_cases h1 : 1 ≤ n
  · by_cases h2 : n ≤ 2147483647
    · have HN := Lib.hid (show s = true by rw [hs]; exact decide_eq_true ⟨h1, h2⟩)
      clear hs
      go_enter Tryd.func39, Tryd.ntmps39
      go_wp2
      go_ret
      exact ⟨by rw [HN.out]; rfl, rfl⟩
    · have HN := Lib.hid (show s = false by rw [hs]; exact decide_eq_false fun h => h2 h.2)
      clear hs
      go_enter Tryd.func39, Tryd.ntmps39
      go_wp2
      go_ret
      exact ⟨by rw [HN.out]; rfl, rfl⟩
  · have HN := Lib.hid (show s = false by rw [hs]; exact decide_eq_false fun h => h1 h.1)
    clear hs
    go_enter Tryd.func39, Tryd.ntmps39
    go_wp2
    go_ret
    exact ⟨by rw [HN.out]; rfl, rfl⟩
theorem take_in {l : List Int} {i : Nat} {x : Int} (h : i < l.length) (h1 : ¬ x ∈ l.take i) (h2 : ¬ x = l[i]) : ¬ x ∈ l.take (i + 1) := by
  rw [List.take_add_one, List.getElem?_eq_getElem h]
  simp only [Option.toList_some, List.mem_append, List.mem_singleton]
  rintro (h | h)
  · exact h1 h
  · exact h2 h
set_option maxHeartbeats 1000000 in
theorem pindex_any (w : World) {g n cap : Nat} {l : List Int} {x : Int} (hn : l.length = n) (hb : n ≤ 16) (hc : ∀ (j : Nat) (h : j < l.length), w.cell? ⟨g, j, none⟩ = some (.int .i64 l[j])) :
    Calls Tryd.prog 69 #[.slice (some ⟨g, 0, none⟩) n cap, .int .i64 x] w fun e w' => ∃ r : Int, e = .returned (.int .i64 r) ∧ (0 ≤ r ↔ x ∈ l) ∧ w = w' := by
  have HN := Lib.hid hn
  have HC := Lib.hid hc
  clear hn hc
  go_enter Tryd.func69, Tryd.ntmps69
  go_wp2
  go_loop [8] (fun iv => ∃ i : Nat, i ≤ n ∧ iv = .int .i64 i ∧ Hid (¬ x ∈ l.take i)) (fun iv => n - (intOf iv).toNat)
  case atStart => exact ⟨0, Nat.zero_le _, rfl, Lib.hid (by simp)⟩
  case round =>
    obtain ⟨i, hi, rfl, HT⟩ := hrel
    by_cases hlt : i < n
    · have hil : i < l.length := by rw [HN.out]; exact hlt
      have c := HC.out i hil
      have ht := take_in (x := x) hil HT.out
      have hm : l[i] ∈ l := List.getElem_mem hil
      obtain ⟨y, hy⟩ : ∃ y, y = l[i] := ⟨_, rfl⟩
      rw [← hy] at c ht hm
      have HM := Lib.hid hm
      have HTT := Lib.hid ht
      have k0 : (0 : Int) ≤ (i : Int) := by omega
      have k1 : (i : Int) < (n : Int) := by omega
      clear hy hil hm ht
      by_cases he : x = y
      · subst he
        have HM := Lib.hid (show 0 ≤ (i : Int) ↔ x ∈ l from ⟨fun _ => HM.out, fun _ => k0⟩)
        go_wp2
        go_ret
        exact ⟨(i : Int), rfl, HM.out, rfl⟩
      · have HZ := Lib.hid (HTT.out he)
        go_wp2
        go_round
        case rel => exact ⟨i + 1, by omega, by go_num, HZ⟩
        case measure => simp [intOf]; omega
    · obtain rfl : i = n := by omega
      have HM := Lib.hid (show 0 ≤ (-1 : Int) ↔ x ∈ l by
        have e : l.take i = l := List.take_of_length_le (by rw [HN.out]; exact Nat.le_refl _)
        have h := HT.out
        rw [e] at h
        exact ⟨fun h1 => absurd h1 (by decide), fun h1 => absurd h1 h⟩)
      go_wp2
      go_ret
      exact ⟨-1, rfl, HM.out, rfl⟩
set_option maxHeartbeats 1000000 in
theorem pcontains_any (w : World) {g n cap : Nat} {l : List Int} {x : Int} (hI : Is w g 3 (l.map (Value.int .i64)).toArray) (hn : l.length = n) (hb : n ≤ 16) :
    Calls Tryd.prog 58 #[.slice (some ⟨g, 0, none⟩) n cap, .int .i64 x] w fun e w' => e = .returned (.bool (decide (x ∈ l))) ∧ w = w' := by
  have H := Lib.hid (pindex_any w (cap := cap) (x := x) hn hb (fun j h => by rw [hI.cell]; simp [h]))
  obtain ⟨m, hm⟩ : ∃ m, m = decide (x ∈ l) := ⟨_, rfl⟩
  rw [← hm]
  have HM := Lib.hid hm
  clear hI hm
  go_enter Tryd.func58, Tryd.ntmps58
  go_wp2_with (go_at_call 69; refine H.out.mono ?_; rintro e w1 ⟨r, rfl, hr, hw⟩; have hd : decide (0 ≤ r) = m := (by rw [HM.out]; exact decide_eq_decide.mpr hr); clear hr; subst hw)
  go_ret
  exact ⟨rfl, rfl⟩
set_option maxHeartbeats 1000000 in
theorem pdepth_any (w : World) (c d : Int) :
    Calls Tryd.prog 40 #[.int .i64 c, .int .i64 d] w fun e w' => e = .returned (.bool (depthOk d c)) ∧ But [] w w' := by
  have P : ∀ x y : Int, ((x = y) = True ∧ (x == y) = true) ∨ ((x = y) = False ∧ (x == y) = false) := fun x y => by by_cases h : x = y <;> simp [h]
  have PP := Lib.hid P
  have H5 : Hid (∀ W : World, Calls Tryd.prog 58 #[.slice (some ⟨W.heap.size, 0, none⟩) 5 5, .int .i64 d] (W.alloc (.cells #[.int .i64 1, .int .i64 2, .int .i64 4, .int .i64 8, .int .i64 16] 3)) fun e w' => e = .returned (.bool (decide (d ∈ [1, 2, 4, 8, 16]))) ∧ (W.alloc (.cells #[.int .i64 1, .int .i64 2, .int .i64 4, .int .i64 8, .int .i64 16] 3)) = w') := Lib.hid fun W => pcontains_any _ (l := [1, 2, 4, 8, 16]) (Is.fresh _ _ _) rfl (by decide)
  have H4 : Hid (∀ W : World, Calls Tryd.prog 58 #[.slice (some ⟨W.heap.size, 0, none⟩) 4 4, .int .i64 d] (W.alloc (.cells #[.int .i64 1, .int .i64 2, .int .i64 4, .int .i64 8] 3)) fun e w' => e = .returned (.bool (decide (d ∈ [1, 2, 4, 8]))) ∧ (W.alloc (.cells #[.int .i64 1, .int .i64 2, .int .i64 4, .int .i64 8] 3)) = w') := Lib.hid fun W => pcontains_any _ (l := [1, 2, 4, 8]) (Is.fresh _ _ _) rfl (by decide)
  have H2 : Hid (∀ W : World, Calls Tryd.prog 58 #[.slice (some ⟨W.heap.size, 0, none⟩) 2 2, .int .i64 d] (W.alloc (.cells #[.int .i64 8, .int .i64 16] 3)) fun e w' => e = .returned (.bool (decide (d ∈ [8, 16]))) ∧ (W.alloc (.cells #[.int .i64 8, .int .i64 16] 3)) = w') := Lib.hid fun W => pcontains_any _ (l := [8, 16]) (Is.fresh _ _ _) rfl (by decide)
  have HB := Lib.hid (But.refl [] w)
  obtain ⟨m5, hm5⟩ : ∃ m, m = decide (d ∈ [1, 2, 4, 8, 16]) := ⟨_, rfl⟩
  obtain ⟨m4, hm4⟩ : ∃ m, m = decide (d ∈ [1, 2, 4, 8]) := ⟨_, rfl⟩
  obtain ⟨m2, hm2⟩ : ∃ m, m = decide (d ∈ [8, 16]) := ⟨_, rfl⟩
  rw [← hm5] at H5
  rw [← hm4] at H4
  rw [← hm2] at H2
  have HM5 := Lib.hid hm5
  have HM4 := Lib.hid hm4
  have HM2 := Lib.hid hm2
  clear P hm5 hm4 hm2
  rcases PP.out c 0 with ⟨p0, r0⟩ | ⟨p0, r0⟩
  · have HG := Lib.hid (show m5 = depthOk d c by rw [HM5.out, of_eq_true p0]; unfold depthOk; simp)
    go_enter Tryd.func40, Tryd.ntmps40
    go_wp2_with (go_at_call 58; refine (H5.out _).mono ?_; rintro e w1 ⟨rfl, hw⟩; subst hw)
    go_ret
    exact ⟨by rw [← HG.out]; rfl, HB.out.alloc _⟩
  rcases PP.out c 2 with ⟨p2, r2⟩ | ⟨p2, r2⟩
  · have HG := Lib.hid (show m2 = depthOk d c by rw [HM2.out, of_eq_true p2]; unfold depthOk; simp)
    go_enter Tryd.func40, Tryd.ntmps40
    go_wp2_with (go_at_call 58; refine (H2.out _).mono ?_; rintro e w1 ⟨rfl, hw⟩; subst hw)
    go_ret
    exact ⟨by rw [← HG.out]; rfl, HB.out.alloc _⟩
  rcases PP.out c 4 with ⟨p4, r4⟩ | ⟨p4, r4⟩
  · have HG := Lib.hid (show m2 = depthOk d c by rw [HM2.out, of_eq_true p4]; unfold depthOk; simp)
    go_enter Tryd.func40, Tryd.ntmps40
    go_wp2_with (go_at_call 58; refine (H2.out _).mono ?_; rintro e w1 ⟨rfl, hw⟩; subst hw)
    go_ret
    exact ⟨by rw [← HG.out]; rfl, HB.out.alloc _⟩
  rcases PP.out c 6 with ⟨p6, r6⟩ | ⟨p6, r6⟩
  · have HG := Lib.hid (show m2 = depthOk d c by rw [HM2.out, of_eq_true p6]; unfold depthOk; simp)
    go_enter Tryd.func40, Tryd.ntmps40
    go_wp2_with (go_at_call 58; refine (H2.out _).mono ?_; rintro e w1 ⟨rfl, hw⟩; subst hw)
    go_ret
    exact ⟨by rw [← HG.out]; rfl, HB.out.alloc _⟩
  rcases PP.out c 3 with ⟨p3, r3⟩ | ⟨p3, r3⟩
  · have HG := Lib.hid (show m4 = depthOk d c by rw [HM4.out, of_eq_true p3]; unfold depthOk; simp)
    go_enter Tryd.func40, Tryd.ntmps40
    go_wp2_with (go_at_call 58; refine (H4.out _).mono ?_; rintro e w1 ⟨rfl, hw⟩; subst hw)
    go_ret
    exact ⟨by rw [← HG.out]; rfl, HB.out.alloc _⟩
  · have HG := Lib.hid (show depthOk d c = false by
      have e0 := of_eq_false p0; have e2 := of_eq_false p2; have e3 := of_eq_false p3; have e4 := of_eq_false p4; have e6 := of_eq_false p6
      exact decide_eq_false (by omega))
    go_enter Tryd.func40, Tryd.ntmps40
    go_wp2
    go_ret
    exact ⟨by rw [HG.out]; rfl, HB.out⟩
end Go.Proofs.YtfiedoejdikcgaaDoor
