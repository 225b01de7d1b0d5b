/- Several texts in one: ZlA, Codes, Ints, Check, CheckB, Ord, OrdW (what Unwraps, Wraps reach of them). -/
import Derived.Test.YtghegmbafbpnjaaGreatDoorPm01
import Derived.Test.YtghegmbafbpnjaaGreatDoorPm02
import Derived.Below
import Derived.BigQuiet
import Derived.BigRegion
import Derived.Deep.AppendLies
import Derived.Deep.CutRange
import Derived.Deep.DeepCutAuto
import Derived.Deep.Draws
import Derived.Deep.QuietTactic
import Derived.Deep.RegionLaw
import Derived.Deep.RegionWith
import Derived.Deep.Slices
import Derived.Laws.BitsAllLaws
import Derived.Laws.BitsLemmas
import Derived.Laws.IdiomStrings
import Derived.Laws.OwnMore
import Derived.Laws.Rows
import Derived.Lib.AppendStr
import Derived.Lib.Hide
import Derived.Lib.Strings
import Derived.OneCell
import Derived.OpenShut
import Derived.Outline
import Derived.OwnWalk
import Derived.ProofKit
import Derived.RegionTactic
import Derived.StillTailTactics
import Derived.Test.YtghegmbafbpnjaaGreatDoorChecked
import Derived.WalkKit
import Derived.WalkLawsBesides
import Derived.WalkSpells
set_option maxRecDepth 100000
set_option linter.unusedVariables false
set_option maxRecDepth 100000
set_option linter.unusedVariables false
namespace Go.Proofs.YtghegmbafbpnjaaGreatDoor
set_option maxRecDepth 100000
open Go Go.RowKit
theorem conv_atZ {W : World} {g cap : Nat} {L : List UInt8} (h : ∀ j (hj : j < L.length), W.cell? ⟨g, j, none⟩ = some (.int .u8 (L[j].toNat : Int))) :
    (convert 40 9 (.slice (some ⟨g, 0, none⟩) L.length cap)).run Tryz.prog W = .ok (.string (strL L)) W := by
  refine run_convert_bytes_back W 40 9 5 ⟨g, 0, none⟩ cap L Tryz.underlying40 Tryz.underlying5 Tryz.underlying9 (fun j hj => ?_)
  have e2 : (⟨g, 0, none⟩ : Addr).add j = ⟨g, j, none⟩ := by unfold Addr.add; split <;> simp_all
  rw [e2]; exact h j hj
theorem conv_fourZ (W : World) {n a b c d : Nat} (h1 : a = n / 16777216 % 256) (h2 : b = n / 65536 % 256) (h3 : c = n / 256 % 256) (h4 : d = n % 256) :
    (convert 40 9 (.slice (some ⟨W.heap.size, 0, none⟩) 4 4)).run Tryz.prog (W.alloc (.cells #[.int .u8 a, .int .u8 b, .int .u8 c, .int .u8 d] 5)) = .ok (.string (strL (fourL n))) (W.alloc (.cells #[.int .u8 a, .int .u8 b, .int .u8 c, .int .u8 d] 5)) := by
  refine conv_atZ (L := fourL n) (cap := 4) fun j hj => ?_
  have a1 := UInt8.toNat_ofNat' (n := n / 16777216)
  have a2 := UInt8.toNat_ofNat' (n := n / 65536)
  have a3 := UInt8.toNat_ofNat' (n := n / 256)
  have a4 := UInt8.toNat_ofNat' (n := n)
  rw [World.cell?_alloc_mark]
  rw [fourL_length] at hj
  unfold fourL
  match j, hj with
  | 0, _ => show some (Value.int .u8 (a : Int)) = some (Value.int .u8 ((UInt8.ofNat (n / 16777216)).toNat : Int)); rw [a1, h1]
  | 1, _ => show some (Value.int .u8 (b : Int)) = some (Value.int .u8 ((UInt8.ofNat (n / 65536)).toNat : Int)); rw [a2, h2]
  | 2, _ => show some (Value.int .u8 (c : Int)) = some (Value.int .u8 ((UInt8.ofNat (n / 256)).toNat : Int)); rw [a3, h3]
  | 3, _ => show some (Value.int .u8 (d : Int)) = some (Value.int .u8 ((UInt8.ofNat n).toNat : Int)); rw [a4, h4]
set_option maxHeartbeats 1000000 in
theorem psum_any (w : World) {s : ByteArray} (hs : s.size ≤ maxLen) :
    Calls Tryz.prog 11 #[.string s] w fun e w' => e = .returned (.string (strL (fourL (adSum s.data.toList)))) ∧ But [] w w' := by
  have HA := Lib.hid (bits_adler s w hs)
  have hlt := adSum_lt s.data.toList
  obtain ⟨n, hn⟩ : ∃ n, n = adSum s.data.toList := ⟨_, rfl⟩
  rw [← hn] at HA hlt ⊢
  obtain ⟨a, ha⟩ : ∃ a, a = n / 16777216 % 256 := ⟨_, rfl⟩
  obtain ⟨b, hb⟩ : ∃ a, a = n / 65536 % 256 := ⟨_, rfl⟩
  obtain ⟨c, hc⟩ : ∃ a, a = n / 256 % 256 := ⟨_, rfl⟩
  obtain ⟨d, hd⟩ : ∃ a, a = n % 256 := ⟨_, rfl⟩
  have b1 : IntKind.u8.wrap ((n : Int) / 16777216) = (a : Int) := by simp [IntKind.wrap_u8]; omega
  have b2 : IntKind.u8.wrap ((n : Int) / 65536) = (b : Int) := by simp [IntKind.wrap_u8]; omega
  have b3 : IntKind.u8.wrap ((n : Int) / 256) = (c : Int) := by simp [IntKind.wrap_u8]; omega
  have b4 : IntKind.u8.wrap (n : Int) = (d : Int) := by simp [IntKind.wrap_u8]; omega
  have kc := fun W : World => conv_fourZ W ha hb hc hd
  have hB := (But.refl [] w).alloc (.cells #[.int .u8 a, .int .u8 b, .int .u8 c, .int .u8 d] 5)
  have HB := Lib.hid hB
  clear hs hn ha hb hc hd hB
  go_enter Tryz.func11, Tryz.ntmps11
  go_wp2_with fail
  refine HA.out.mono ?_
  rintro e w1 ⟨rfl, rfl⟩
  go_wp2
  go_ret
  exact ⟨rfl, HB.out⟩
theorem bits32 (b : Nat) (h : b < 256) : bits .and .i64 (b : Int) 32 = ((32 * (b / 32 % 2) : Nat) : Int) := by
  have h0 : ∀ b, b < 256 → bits .and .i64 ((b : Nat) : Int) 32 = ((32 * (b / 32 % 2) : Nat) : Int) := by decide +kernel
  exact h0 b h
set_option maxHeartbeats 1000000 in
theorem phead_few (w : World) {s : ByteArray} (hs : s.size < 2) :
    Calls Tryz.prog 15 #[.string s] w fun e w' => e = .returned (.int .i64 3) ∧ w = w' := by
  have d : decide ((s.size : Int) < 2) = true := by simp; omega
  go_enter Tryz.func15, Tryz.ntmps15
  go_wp2
  go_ret
  exact ⟨rfl, rfl⟩
theorem byteZ_run {s : ByteArray} {k : Nat} (hk : k < s.size) (w : World) : (Instr.index 9 (.string s) (.int .i64 (k : Int))).run Tryz.prog w = .ok (.int .u8 (s[k].toNat : Nat)) w := by
  rw [run_index_string w 9 s .i64 _ Tryz.underlying9, dif_pos (by omega)]
  simp
set_option maxHeartbeats 1000000 in
theorem phead_any (w : World) {s : ByteArray} {x y : Nat} (hs : 2 ≤ s.size) (hx : x = s[0].toNat) (hy : y = s[1].toNat) :
    Calls Tryz.prog 15 #[.string s] w fun e w' => e = .returned (.int .i64 (if x % 16 ≠ 8 ∨ 7 < x / 16 ∨ (256 * x + y) % 31 ≠ 0 ∨ y / 32 % 2 = 1 then 16 else 0)) ∧ But [] w w' := by
  have d : decide ((s.size : Int) < 2) = false := by simp; omega
  have x1 := s[0].toNat_lt
  have y1 := s[1].toNat_lt
  have k0 : ∀ w, (Instr.index 9 (.string s) (.int .i64 0)).run Tryz.prog w = .ok (.int .u8 (s[0].toNat : Nat)) w := fun w => byteZ_run (k := 0) (by omega) w
  have k1 : ∀ w, (Instr.index 9 (.string s) (.int .i64 1)).run Tryz.prog w = .ok (.int .u8 (s[1].toNat : Nat)) w := fun w => byteZ_run (k := 1) (by omega) w
  simp only [← hx] at k0 x1
  simp only [← hy] at k1 y1
  obtain ⟨r, hr⟩ : ∃ r : Int, r = if x % 16 ≠ 8 ∨ 7 < x / 16 ∨ (256 * x + y) % 31 ≠ 0 ∨ y / 32 % 2 = 1 then 16 else 0 := ⟨_, rfl⟩
  rw [← hr]
  have HR := Lib.hid hr
  have h32 := bits32 y (by omega)
  clear hx hy hr
  go_enter Tryz.func15, Tryz.ntmps15
  go_wp2
  go_quiet (fail)
  go_wp2
  all_goals
    go_ret
    refine ⟨?_, (But.refl [] w).drewN nq⟩
    rw [HR.out]
    clear HR k0 k1 h32
    simp at *
    omega
set_option maxHeartbeats 1000000 in
theorem pcheck_any (w : World) {t x : ByteArray} (ht : t.size ≤ 1000000000000000) (hx : x.size ≤ maxLen) :
    Calls Tryz.prog 17 #[.string t, .string x] w fun e w' => e = .returned (.int .i64 (if t.size < 4 then 3 else if t.data.toList.take 4 ≠ fourL (adSum x.data.toList) then 17 else if 4 < t.size then 4 else 0)) ∧ But [] w w' := by
  have HS := Lib.hid (fun v => psum_any v hx)
  obtain ⟨F, hF⟩ : ∃ F, F = fourL (adSum x.data.toList) := ⟨_, rfl⟩
  rw [← hF] at HS ⊢
  obtain ⟨r, hr⟩ : ∃ r : Int, r = if t.size < 4 then 3 else if t.data.toList.take 4 ≠ F then 17 else if 4 < t.size then 4 else 0 := ⟨_, rfl⟩
  rw [← hr]
  have HR := Lib.hid hr
  clear hx hr hF
  by_cases h4 : t.size < 4
  · have d : decide ((t.size : Int) < 4) = true := by simp; omega
    have HR2 := Lib.hid (show r = 3 by rw [HR.out, if_pos h4])
    clear HR
    go_enter Tryz.func17, Tryz.ntmps17
    go_wp2
    go_ret
    exact ⟨by rw [HR2.out]; rfl, But.refl [] w⟩
  · have d : decide ((t.size : Int) < 4) = false := by simp; omega
    have hsl : ∀ w, (Instr.slice 9 (.string t) none (some (.int .i64 4)) none).run Tryz.prog w = .ok (.string (strL (t.data.toList.take 4))) w := fun w => by
      rw [run_slice_string_to_if w 9 t .i64 4 Tryz.underlying9, if_pos (by omega), show ((4 : Int).toNat) = 4 from rfl, ext_list, List.drop_zero]
    obtain ⟨y, hy⟩ : ∃ y, y = strL (t.data.toList.take 4) := ⟨_, rfl⟩
    obtain ⟨z, hz⟩ : ∃ z, z = strL F := ⟨_, rfl⟩
    rw [← hy] at hsl
    rw [← hz] at HS
    have hyz : y = z ↔ t.data.toList.take 4 = F := by
      rw [hy, hz]
      exact ⟨fun h => by rw [← strL_list (t.data.toList.take 4), h, strL_list], fun h => by rw [h]⟩
    have HYZ := Lib.hid hyz
    have h4' : ¬ t.size < 4 := h4
    clear hy hz hyz h4
    by_cases hq : y = z
    · subst hq
      by_cases h5 : 4 < t.size
      · have d5 : decide ((4 : Int) < (t.size : Int)) = true := by simp; omega
        have HR2 := Lib.hid (show r = 4 by rw [HR.out, if_neg h4', if_neg (by have := HYZ.out.1 rfl; simp [this]), if_pos h5])
        clear HR HYZ h5
        go_enter Tryz.func17, Tryz.ntmps17
        go_upto_region 3 with (fail)
        go_region_with (go_at_call 11; refine (HS.out _).mono ?_; rintro e w1 ⟨rfl, hB⟩; have HB := Lib.hid hB; clear hB)
        go_wp2
        go_ret
        exact ⟨by rw [HR2.out]; rfl, ((But.refl [] w).drew).trans HB.out⟩
      · have d5 : decide ((4 : Int) < (t.size : Int)) = false := by simp; omega
        have HR2 := Lib.hid (show r = 0 by rw [HR.out, if_neg h4', if_neg (by have := HYZ.out.1 rfl; simp [this]), if_neg h5])
        clear HR HYZ h5
        go_enter Tryz.func17, Tryz.ntmps17
        go_upto_region 3 with (fail)
        go_region_with (go_at_call 11; refine (HS.out _).mono ?_; rintro e w1 ⟨rfl, hB⟩; have HB := Lib.hid hB; clear hB)
        go_wp2
        go_ret
        exact ⟨by rw [HR2.out]; rfl, ((But.refl [] w).drew).trans HB.out⟩
    · have HR2 := Lib.hid (show r = 17 by rw [HR.out, if_neg h4', if_pos (fun h => hq (HYZ.out.2 h))])
      have hq2 : (!y.toList == z.toList) = true := by
        rw [ByteArray.toList_eq, ByteArray.toList_eq, Bool.not_eq_true', beq_eq_false_iff_ne]
        exact fun h => hq (by apply ByteArray.ext; apply Array.ext'; exact h)
      clear HR HYZ
      go_enter Tryz.func17, Tryz.ntmps17
      go_upto_region 3 with (fail)
      go_region_with (go_at_call 11; refine (HS.out _).mono ?_; rintro e w1 ⟨rfl, hB⟩; have HB := Lib.hid hB; clear hB)
      go_wp2
      go_ret
      exact ⟨by rw [HR2.out]; rfl, ((But.refl [] w).drew).trans HB.out⟩
end Go.Proofs.YtghegmbafbpnjaaGreatDoor
namespace Go.Proofs.YtghegmbafbpnjaaGreatDoor
set_option maxRecDepth 100000
/-- How much of all codes a length takes. -/
def kr (x : Int) : Nat := if 0 < x then 2 ^ (15 - x.toNat) else 0
def ksum (l : List Int) : Nat := (l.map kr).sum
/-- How many symbols have codes. -/
def many (l : List Int) : Nat := (l.filter fun x => decide (0 < x)).length
/-- The greatest length. -/
def top (l : List Int) : Int := l.foldl (fun m x => if 0 < x then max m x else m) 0
def okLen (x : Int) : Bool := decide (0 ≤ x ∧ x ≤ 15)
def okLens (l : List Int) : Bool := l.all okLen
/-- What Check tells. -/
def chk (l : List Int) : Int :=
  if 288 < l.length then 1 else if okLens l = false then 1 else if 32768 < ksum l then 10 else
  if ksum l < 32768 ∧ 0 < many l ∧ ¬ (many l = 1 ∧ ksum l = 16384) then 11 else 0

theorem ksum_snoc (l : List Int) (x : Int) : ksum (l ++ [x]) = ksum l + kr x := by simp [ksum]
theorem many_snoc (l : List Int) (x : Int) : many (l ++ [x]) = many l + (if 0 < x then 1 else 0) := by
  unfold many; rw [List.filter_append, List.length_append]; congr 1
  by_cases h : 0 < x <;> simp [h]
theorem top_snoc (l : List Int) (x : Int) : top (l ++ [x]) = if 0 < x then max (top l) x else top l := by
  unfold top; rw [List.foldl_append]; rfl
theorem okLens_snoc (l : List Int) (x : Int) : okLens (l ++ [x]) = (okLens l && okLen x) := by simp [okLens]
theorem kr_le (x : Int) : kr x ≤ 32768 := by
  unfold kr; split
  · exact Nat.le_trans (Nat.pow_le_pow_right (by decide) (Nat.sub_le _ _)) (by decide)
  · exact Nat.zero_le _
theorem ksum_le (l : List Int) : ksum l ≤ 32768 * l.length := by
  induction l with
  | nil => simp [ksum]
  | cons x l ih => have := kr_le x; simp only [ksum, List.map_cons, List.sum_cons, List.length_cons] at ih ⊢; omega
theorem many_le (l : List Int) : many l ≤ l.length := List.length_filter_le _ _
theorem top_mono (l : List Int) : ∀ m : Int, m ≤ l.foldl (fun m x => if 0 < x then max m x else m) m := by
  induction l with
  | nil => intro m; exact Int.le_refl _
  | cons x l ih =>
    intro m
    simp only [List.foldl_cons]
    refine Int.le_trans ?_ (ih _)
    split <;> omega
theorem top_nonneg (l : List Int) : 0 ≤ top l := top_mono l 0
theorem top_mem (l : List Int) : ∀ x ∈ l, x ≤ top l := by
  unfold top
  have : ∀ m : Int, ∀ x ∈ l, 0 < x → x ≤ l.foldl (fun m x => if 0 < x then max m x else m) m := by
    induction l with
    | nil => intro m x hx; cases hx
    | cons y l ih =>
      intro m x hx h0
      simp only [List.foldl_cons]
      rcases List.mem_cons.1 hx with rfl | hx
      · refine Int.le_trans ?_ (top_mono l _)
        rw [if_pos h0]; omega
      · exact ih _ x hx h0
  intro x hx
  by_cases h : 0 < x
  · exact this 0 x hx h
  · exact Int.le_trans (by omega) (top_nonneg l)
/-- One symbol alone: how much it takes tells its length. -/
theorem one_sum : ∀ l : List Int, okLens l = true → many l = 0 → ksum l = 0 ∧ top l = 0
  | [], _, _ => ⟨rfl, rfl⟩
  | x :: l, h, hm => by
    unfold many at hm
    rw [List.filter_cons] at hm
    by_cases h0 : 0 < x
    · rw [if_pos (by simpa using h0)] at hm; simp at hm
    · rw [if_neg (by simpa using h0)] at hm
      simp only [okLens, List.all_cons, Bool.and_eq_true] at h
      obtain ⟨i1, i2⟩ := one_sum l h.2 hm
      refine ⟨?_, ?_⟩
      · simp only [ksum, List.map_cons, List.sum_cons] at i1 ⊢; rw [i1]; unfold kr; rw [if_neg h0]
      · unfold top at i2 ⊢; simp only [List.foldl_cons]; rw [if_neg h0]; exact i2
theorem foldTop_zero : ∀ (l : List Int) (m : Int), many l = 0 → l.foldl (fun m x => if 0 < x then max m x else m) m = m
  | [], _, _ => rfl
  | x :: l, m, hm => by
    unfold many at hm
    rw [List.filter_cons] at hm
    by_cases h0 : 0 < x
    · rw [if_pos (by simpa using h0)] at hm; simp at hm
    · rw [if_neg (by simpa using h0)] at hm
      simp only [List.foldl_cons]; rw [if_neg h0]; exact foldTop_zero l m hm
theorem one_sum' : ∀ l : List Int, okLens l = true → many l = 1 → ∃ m : Nat, 1 ≤ m ∧ m ≤ 15 ∧ ksum l = 2 ^ (15 - m) ∧ top l = m
  | [], _, hm => by simp [many] at hm
  | x :: l, h, hm => by
    have hm' := hm
    unfold many at hm
    rw [List.filter_cons] at hm
    simp only [okLens, List.all_cons, Bool.and_eq_true, okLen, decide_eq_true_eq] at h
    by_cases h0 : 0 < x
    · rw [if_pos (by simpa using h0)] at hm
      have hz : many l = 0 := by simpa [many] using hm
      obtain ⟨i1, _⟩ := one_sum l h.2 hz
      refine ⟨x.toNat, by omega, by omega, ?_, ?_⟩
      · simp only [ksum, List.map_cons, List.sum_cons] at i1 ⊢; rw [i1]; unfold kr; rw [if_pos h0]; rfl
      · unfold top; simp only [List.foldl_cons]; rw [if_pos h0, foldTop_zero l _ hz]; omega
    · rw [if_neg (by simpa using h0)] at hm
      obtain ⟨m, i0, i1, i2, i3⟩ := one_sum' l h.2 hm
      refine ⟨m, i0, i1, ?_, ?_⟩
      · simp only [ksum, List.map_cons, List.sum_cons] at i2 ⊢; rw [i2]; unfold kr; rw [if_neg h0]; omega
      · unfold top at i3 ⊢; simp only [List.foldl_cons]; rw [if_neg h0]; exact i3
theorem single_iff (l : List Int) (h : okLens l = true) : (many l = 1 ∧ ksum l = 16384) ↔ (many l = 1 ∧ top l = 1) := by
  constructor
  · rintro ⟨h1, h2⟩
    obtain ⟨m, h3, h4, h5, h6⟩ := one_sum' l h h1
    refine ⟨h1, ?_⟩
    rw [h6]
    have : m = 1 := by
      apply Classical.byContradiction; intro hc
      have := Nat.pow_le_pow_right (n := 2) (by decide) (show 15 - m ≤ 13 by omega)
      omega
    omega
  · rintro ⟨h1, h2⟩
    obtain ⟨m, h3, h4, h5, h6⟩ := one_sum' l h h1
    have : m = 1 := by omega
    subst this
    exact ⟨h1, h5⟩
/-- The document's test is the program's. -/
theorem chk_ref (l : List Int) : chk l = (if 288 < l.length then 1 else if okLens l = false then 1 else if 32768 < ksum l then 10 else
  if ksum l < 32768 ∧ 0 < many l ∧ ¬ (many l = 1 ∧ top l = 1) then 11 else 0) := by
  unfold chk
  by_cases h1 : 288 < l.length
  · rw [if_pos h1, if_pos h1]
  · rw [if_neg h1, if_neg h1]
    by_cases h2 : okLens l = false
    · rw [if_pos h2, if_pos h2]
    · rw [if_neg h2, if_neg h2]
      simp only [single_iff l (by simpa using h2)]
theorem chk_zero {l : List Int} (h : chk l = 0) : l.length ≤ 288 ∧ okLens l = true ∧ ksum l ≤ 32768 ∧ (ksum l = 32768 ∨ many l = 0 ∨ (many l = 1 ∧ ksum l = 16384)) := by
  unfold chk at h
  by_cases h1 : 288 < l.length
  · rw [if_pos h1] at h; omega
  rw [if_neg h1] at h
  by_cases h2 : okLens l = false
  · rw [if_pos h2] at h; omega
  rw [if_neg h2] at h
  by_cases h3 : 32768 < ksum l
  · rw [if_pos h3] at h; omega
  rw [if_neg h3] at h
  by_cases h4 : ksum l < 32768 ∧ 0 < many l ∧ ¬ (many l = 1 ∧ ksum l = 16384)
  · rw [if_pos h4] at h; omega
  refine ⟨by omega, by simpa using h2, by omega, ?_⟩
  by_cases h5 : many l = 1 ∧ ksum l = 16384
  · exact .inr (.inr h5)
  · rcases Nat.eq_zero_or_pos (many l) with h6 | h6
    · exact .inr (.inl h6)
    · left; apply Classical.byContradiction; intro h7; exact h4 ⟨by omega, h6, h5⟩
end Go.Proofs.YtghegmbafbpnjaaGreatDoor
namespace Go.Proofs.YtghegmbafbpnjaaGreatDoor
set_option maxRecDepth 100000
open Go Go.RowKit Go.ChangeShapes Go.WideShapes
/-- A slice reads as these numbers. -/
def Ints (w : World) (A : Option Addr) (n : Nat) (l : List Int) : Prop :=
  l.length = n ∧ (0 < n → ∃ g o, A = some ⟨g, o, none⟩ ∧ g < w.heap.size ∧ ∀ (i : Nat) (h : i < l.length), w.cell? ⟨g, o + i, none⟩ = some (.int .i64 l[i]))
theorem Ints.but {w w' : World} {A : Option Addr} {n : Nat} {l : List Int} {S : List Nat} (h : Ints w A n l) (hw : But S w w') (hA : ∀ k ∈ S, Off A k) : Ints w' A n l :=
  ⟨h.1, fun hn => by
    obtain ⟨g, o, e, hg, hc⟩ := h.2 hn
    exact ⟨g, o, e, Nat.lt_of_lt_of_le hg hw.size, fun i hi => hw.cell (hc i hi) (fun hS => hA g hS _ e rfl)⟩⟩
theorem Ints.at {w : World} {A : Option Addr} {n : Nat} {l : List Int} (h : Ints w A n l) {i : Nat} (hi : i < n) :
    ∃ g o, A = some ⟨g, o, none⟩ ∧ g < w.heap.size ∧ w.cell? ⟨g, o + i, none⟩ = some (.int .i64 (l[i]'(by have := h.1; omega))) := by
  obtain ⟨g, o, e, hg, hc⟩ := h.2 (by omega)
  exact ⟨g, o, e, hg, hc i (by have := h.1; omega)⟩
end Go.Proofs.YtghegmbafbpnjaaGreatDoor
namespace Go.Proofs.YtghegmbafbpnjaaGreatDoor
set_option maxRecDepth 100000
open Go Go.RowKit
theorem lens_take {l : List Int} {k : Nat} (h : k < l.length) : l.take (k + 1) = l.take k ++ [l[k]] := List.take_succ_eq_append_getElem h
theorem kr_pos {x : Int} {m : Nat} (h : x = m) (h0 : 0 < x) (h1 : m ≤ 15) : (32768 : Int) / 2 ^ m = (kr x : Nat) := by
  unfold kr; rw [if_pos h0]; subst h
  have e : (15 : Nat) - (m : Int).toNat = 15 - m := by omega
  rw [e]
  have : (2 : Int) ^ m * 2 ^ (15 - m) = 32768 := by rw [← Int.pow_add, show m + (15 - m) = 15 from by omega]; rfl
  rw [← this, Int.mul_ediv_cancel_left _ (by have := Int.pow_pos (n := 2) (m := m) (by decide); omega)]
  simp

set_option maxHeartbeats 1000000 in
set_option maxRecDepth 100000 in
theorem check_any {w : World} {A : Option Addr} {len cap : Nat} {l : List Int} (hl : Ints w A len l) (hm : len ≤ maxLen) :
    Calls Tryz.prog 99 #[.slice A len cap] w fun e w' => e = .returned (.int .i64 (chk l)) ∧ w = w' := by
  unfold maxLen at hm
  have hlen := hl.1
  by_cases h288 : 288 < len
  · have hc : chk l = 1 := by unfold chk; rw [if_pos (by omega)]
    rw [hc]
    clear hc hl hlen
    go_enter Tryz.func99, Tryz.ntmps99
    go_wp2
    go_ret
    exact ⟨rfl, rfl⟩
  · go_enter Tryz.func99, Tryz.ntmps99
    go_wp2
    go_loop [3, 4, 13] (fun sm wd i => ∃ k : Nat, k ≤ len ∧ okLens (l.take k) = true ∧ i = .int .i64 k ∧ sm = .int .i64 (ksum (l.take k)) ∧ wd = .int .i64 (many (l.take k))) (fun _ _ i => len - (intOf i).toNat)
    case atStart => exact ⟨0, Nat.zero_le _, rfl, rfl, rfl, rfl⟩
    case round =>
      obtain ⟨k, hk, hok, rfl, rfl, rfl⟩ := hrel
      have hks := ksum_le (l.take k)
      have hms := many_le (l.take k)
      rw [List.length_take] at hks hms
      by_cases hlt : k < len
      · obtain ⟨g, o, rfl, hg, hc⟩ := hl.at hlt
        have hts := lens_take (l := l) (k := k) (by omega)
        have HS := Lib.hid hts
        have HX := Lib.hid (show l[k]'(by omega) ∈ l from List.getElem_mem _)
        generalize l[k]'(by omega) = x at *
        clear hl hts
        by_cases hr : 0 ≤ x ∧ x ≤ 15
        · obtain ⟨m, rfl⟩ := Int.eq_ofNat_of_zero_le hr.1
          have hm15 : m ≤ 15 := by omega
          have HO := Lib.hid (show okLens (l.take (k + 1)) = true by rw [HS.out, okLens_snoc, hok]; simp [okLen]; omega)
          have HK := Lib.hid (show ksum (l.take (k + 1)) = ksum (l.take k) + kr m by rw [HS.out, ksum_snoc])
          have HM := Lib.hid (show many (l.take (k + 1)) = many (l.take k) + (if 0 < (m : Int) then 1 else 0) by rw [HS.out, many_snoc])
          have n0 : decide ((m : Int) < 0) = false := by simp
          have n1 : decide ((15 : Int) < (m : Int)) = false := by simp; omega
          clear hr HS hok HX
          by_cases h0 : 0 < (m : Int)
          · have HP := Lib.hid (kr_pos (m := m) rfl h0 hm15)
            have hkl := kr_le m
            go_wp2
            go_round
            case rel => exact ⟨k + 1, by omega, HO.out, by go_num, by rw [HP.out, HK.out, IntWalk.wrap64_in _ ⟨by omega, by omega⟩]; go_num, by rw [HM.out, if_pos h0]; go_num⟩
            case measure => simp [intOf]; omega
          · go_wp2
            go_round
            case rel => exact ⟨k + 1, by omega, HO.out, by go_num, by rw [HK.out]; unfold kr; rw [if_neg h0]; rfl, by rw [HM.out, if_neg h0]; rfl⟩
            case measure => simp [intOf]; omega
        · have hc1 : chk l = 1 := by
            unfold chk; split
            · rfl
            · rw [if_pos]
              apply Classical.byContradiction
              intro h
              have h2 : okLens l = true := by simpa using h
              have := List.all_eq_true.1 h2 x HX.out
              simp only [okLen, decide_eq_true_eq] at this
              exact hr this
          have HC1 := Lib.hid hc1
          clear hc1 HS hok HX hlen
          by_cases hn : x < 0
          · go_wp2
            go_ret
            rw [HC1.out]
            exact ⟨rfl, rfl⟩
          · have n0 : decide (x < 0) = false := by simp; omega
            have n1 : 15 < x := by omega
            go_wp2
            go_ret
            rw [HC1.out]
            exact ⟨rfl, rfl⟩
      · obtain rfl : k = len := by omega
        rw [List.take_of_length_le (by omega)] at hok hks hms ⊢
        have HC := Lib.hid (show chk l = (if 32768 < ksum l then 10 else if ksum l < 32768 ∧ 0 < many l ∧ ¬ (many l = 1 ∧ ksum l = 16384) then 11 else 0) by
          unfold chk; rw [if_neg (by omega), if_neg (by simp [hok])])
        generalize ksum l = S at *
        generalize many l = M at *
        clear hl hok hlen
        obtain ⟨s, hs⟩ : ∃ s : Int, s = (S : Int) := ⟨_, rfl⟩
        obtain ⟨m, hmm⟩ : ∃ m : Int, m = (M : Int) := ⟨_, rfl⟩
        have HC2 := Lib.hid (show (if 32768 < S then (10 : Int) else if S < 32768 ∧ 0 < M ∧ ¬ (M = 1 ∧ S = 16384) then 11 else 0) = (if 32768 < s then 10 else if s < 32768 ∧ 0 < m ∧ ¬ (m = 1 ∧ s = 16384) then 11 else 0) by
          have e1 : (32768 < S) = ((32768 : Int) < s) := by rw [hs]; apply propext; omega
          have e2 : (S < 32768 ∧ 0 < M ∧ ¬ (M = 1 ∧ S = 16384)) = (s < 32768 ∧ 0 < m ∧ ¬ (m = 1 ∧ s = 16384)) := by rw [hs, hmm]; apply propext; omega
          simp only [e1, e2])
        rw [← hs, ← hmm]
        clear hs hmm hks hms
        by_cases c1 : 32768 < s
        · go_wp2
          all_goals
            go_ret
            rw [HC.out, HC2.out, if_pos c1]
            exact ⟨rfl, rfl⟩
        · have C1 := Lib.hid c1
          have d1 : decide ((32768 : Int) < s) = false := by simp; omega
          clear c1
          by_cases c2 : s < 32768
          · have C2 := Lib.hid c2
            have d2 : decide (s < 32768) = true := by simp; omega
            clear c2
            by_cases c3 : 0 < m
            · have C3 := Lib.hid c3
              have d3 : decide (0 < m) = true := by simp; omega
              clear c3
              by_cases c4 : m = 1
              · have e4 : (m == 1) = true := by simp; omega
                have C4 := Lib.hid c4
                clear c4
                by_cases c5 : s = 16384
                · have e5 : (s == 16384) = true := by simp; omega
                  have C5 := Lib.hid c5
                  clear c5
                  go_wp2
                  go_ret
                  rw [HC.out, HC2.out, if_neg (by have := C1.out; omega), if_neg (by have := C4.out; have := C5.out; omega)]
                  exact ⟨rfl, rfl⟩
                · have e5 : (s == 16384) = false := by simp; omega
                  have C5 := Lib.hid c5
                  clear c5
                  go_wp2
                  go_ret
                  rw [HC.out, HC2.out, if_neg (by have := C1.out; omega), if_pos (by have := C2.out; have := C3.out; have := C5.out; omega)]
                  exact ⟨rfl, rfl⟩
              · have e4 : (m == 1) = false := by simp; omega
                have C4 := Lib.hid c4
                clear c4
                go_wp2
                go_ret
                rw [HC.out, HC2.out, if_neg (by have := C1.out; omega), if_pos (by have := C2.out; have := C3.out; have := C4.out; omega)]
                exact ⟨rfl, rfl⟩
            · have e4 : (m == 1) = false := by simp; omega
              have d3 : decide (0 < m) = false := by simp; omega
              have C3 := Lib.hid c3
              clear c3
              go_wp2
              go_ret
              rw [HC.out, HC2.out, if_neg (by have := C1.out; omega), if_neg (by have := C3.out; omega)]
              exact ⟨rfl, rfl⟩
          · have C2 := Lib.hid c2
            have d2 : decide (s < 32768) = false := by simp; omega
            clear c2
            by_cases c4 : m = 1
            · have e4 : (m == 1) = true := by simp; omega
              have C4 := Lib.hid c4
              have e5 : (s == 16384) = false := by have := C2.out; simp; omega
              clear c4
              go_wp2
              go_ret
              rw [HC.out, HC2.out, if_neg (by have := C1.out; omega), if_neg (by have := C2.out; omega)]
              exact ⟨rfl, rfl⟩
            · have e4 : (m == 1) = false := by simp; omega
              have C4 := Lib.hid c4
              clear c4
              go_wp2
              go_ret
              rw [HC.out, HC2.out, if_neg (by have := C1.out; omega), if_neg (by have := C2.out; omega)]
              exact ⟨rfl, rfl⟩
end Go.Proofs.YtghegmbafbpnjaaGreatDoor
namespace Go.Proofs.YtghegmbafbpnjaaGreatDoor
set_option maxRecDepth 100000
open Go Go.RowKit
theorem kr_shl {m : Nat} (h0 : 0 < (m : Int)) : (2 : Int) ^ (15 - m) = (kr m : Nat) := by
  unfold kr; rw [if_pos h0]; simp

set_option maxHeartbeats 1000000 in
theorem ref_sum {w : World} {A : Option Addr} {len cap : Nat} {l : List Int} (hl : Ints w A len l) (h288 : len ≤ 288) (hok : okLens l = true) :
    Calls Tryz.prog 115 #[.slice A len cap] w fun e w' => e = .returned (.tuple #[.int .i64 (ksum l), .int .i64 (many l), .int .i64 (top l)]) ∧ w = w' := by
  have hlen := hl.1
  go_enter Tryz.func115, Tryz.ntmps115
  go_wp2
  go_loop [5, 6, 7, 8] (fun sm wd tp i => ∃ k : Nat, k ≤ len ∧ i = .int .i64 k ∧ sm = .int .i64 (ksum (l.take k)) ∧ wd = .int .i64 (many (l.take k)) ∧ tp = .int .i64 (top (l.take k))) (fun _ _ _ i => len - (intOf i).toNat)
  case atStart => exact ⟨0, Nat.zero_le _, rfl, rfl, rfl, rfl⟩
  case round =>
    obtain ⟨k, hk, rfl, rfl, rfl, rfl⟩ := hrel
    have hks := ksum_le (l.take k)
    have hms := many_le (l.take k)
    rw [List.length_take] at hks hms
    by_cases hlt : k < len
    · obtain ⟨g, o, rfl, hg, hc⟩ := hl.at hlt
      have hts := lens_take (l := l) (k := k) (by omega)
      have HS := Lib.hid hts
      have hx := List.all_eq_true.1 hok _ (List.getElem_mem (show k < l.length by omega))
      generalize l[k]'(by omega) = x at *
      clear hl hts hok
      simp only [okLen, decide_eq_true_eq] at hx
      obtain ⟨m, rfl⟩ := Int.eq_ofNat_of_zero_le hx.1
      have hm15 : m ≤ 15 := by omega
      have HK := Lib.hid (show ksum (l.take (k + 1)) = ksum (l.take k) + kr m by rw [HS.out, ksum_snoc])
      have HM := Lib.hid (show many (l.take (k + 1)) = many (l.take k) + (if 0 < (m : Int) then 1 else 0) by rw [HS.out, many_snoc])
      have HT := Lib.hid (show top (l.take (k + 1)) = if 0 < (m : Int) then max (top (l.take k)) m else top (l.take k) by rw [HS.out, top_snoc])
      clear HS hx
      generalize ksum (l.take k) = S at *
      generalize many (l.take k) = M at *
      generalize top (l.take k) = T at *
      by_cases h0 : 0 < (m : Int)
      · have HP := Lib.hid (kr_shl h0)
        have hkl := kr_le m
        have e15 : IntKind.i64.wrap (15 - (m : Int)) = ((15 - m : Nat) : Int) := by rw [IntKind.wrap_i64]; omega
        go_wp2
        all_goals
          go_round
          case rel => exact ⟨k + 1, by omega, by go_num, by rw [HK.out, HP.out, IntWalk.wrap64_in ((kr (m : Int) : Nat) : Int) ⟨by omega, by omega⟩, IntWalk.wrap64_in _ ⟨by omega, by omega⟩]; go_num, by rw [HM.out, if_pos h0]; go_num, by rw [HT.out, if_pos h0]; congr 1; split <;> omega⟩
          case measure => simp [intOf]; omega
      · go_wp2
        go_round
        case rel => exact ⟨k + 1, by omega, by go_num, by rw [HK.out]; unfold kr; rw [if_neg h0]; rfl, by rw [HM.out, if_neg h0]; rfl, by rw [HT.out, if_neg h0]⟩
        case measure => simp [intOf]; omega
    · obtain rfl : k = len := by omega
      rw [List.take_of_length_le (by omega)] at hks hms ⊢
      clear hl hok hlen
      go_wp2
      go_ret3
      exact ⟨rfl, rfl⟩

set_option maxHeartbeats 1000000 in
set_option maxRecDepth 100000 in
theorem ref_check {w : World} {A : Option Addr} {len cap : Nat} {l : List Int} (hl : Ints w A len l) (hm : len ≤ maxLen) :
    Calls Tryz.prog 107 #[.slice A len cap] w fun e w' => e = .returned (.int .i64 (chk l)) ∧ w = w' := by
  unfold maxLen at hm
  have hlen := hl.1
  by_cases h288 : 288 < len
  · have hc : chk l = 1 := by unfold chk; rw [if_pos (by omega)]
    rw [hc]
    clear hc hl hlen
    go_enter Tryz.func107, Tryz.ntmps107
    go_wp2
    go_ret
    exact ⟨rfl, rfl⟩
  · have hsum := fun hok => ref_sum (cap := cap) hl (by omega) hok
    have HSUM := Lib.hid hsum
    clear hsum
    go_enter Tryz.func107, Tryz.ntmps107
    go_wp2
    go_loop [3] (fun i => ∃ k : Nat, k ≤ len ∧ okLens (l.take k) = true ∧ i = .int .i64 k) (fun i => len - (intOf i).toNat)
    case atStart => exact ⟨0, Nat.zero_le _, rfl, rfl⟩
    case round =>
      obtain ⟨k, hk, hok, rfl⟩ := hrel
      by_cases hlt : k < len
      · obtain ⟨g, o, rfl, hg, hc⟩ := hl.at hlt
        have hts := lens_take (l := l) (k := k) (by omega)
        have HS := Lib.hid hts
        have HX := Lib.hid (show l[k]'(by omega) ∈ l from List.getElem_mem _)
        generalize l[k]'(by omega) = x at *
        clear hl hts
        by_cases hr : 0 ≤ x ∧ x ≤ 15
        · have HO := Lib.hid (show okLens (l.take (k + 1)) = true by rw [HS.out, okLens_snoc, hok]; simp [okLen]; omega)
          have n0 : decide (x < 0) = false := by simp; omega
          have n1 : decide ((15 : Int) < x) = false := by simp; omega
          clear hr HS hok HX
          go_wp2
          go_round
          case rel => exact ⟨k + 1, by omega, HO.out, by go_num⟩
          case measure => simp [intOf]; omega
        · have hc1 : chk l = 1 := by
            unfold chk; split
            · rfl
            · rw [if_pos]
              apply Classical.byContradiction
              intro h
              have h2 : okLens l = true := by simpa using h
              have := List.all_eq_true.1 h2 x HX.out
              simp only [okLen, decide_eq_true_eq] at this
              exact hr this
          have HC1 := Lib.hid hc1
          clear hc1 HS hok HX hlen
          by_cases hn : x < 0
          · go_wp2
            go_ret
            rw [HC1.out]
            exact ⟨rfl, rfl⟩
          · have n0 : decide (x < 0) = false := by simp; omega
            have n1 : 15 < x := by omega
            go_wp2
            go_ret
            rw [HC1.out]
            exact ⟨rfl, rfl⟩
      · obtain rfl : k = len := by omega
        rw [List.take_of_length_le (by omega)] at hok
        have HC := Lib.hid (show chk l = (if 32768 < ksum l then 10 else if ksum l < 32768 ∧ 0 < many l ∧ ¬ (many l = 1 ∧ top l = 1) then 11 else 0) by
          rw [chk_ref, if_neg (by omega), if_neg (by simp [hok])])
        have hs := HSUM.out hok
        generalize ksum l = S at *
        generalize many l = M at *
        generalize top l = T at *
        clear hl hok hlen HSUM
        obtain ⟨s, hS⟩ : ∃ s : Int, s = (S : Int) := ⟨_, rfl⟩
        obtain ⟨m, hM⟩ : ∃ m : Int, m = (M : Int) := ⟨_, rfl⟩
        have HC2 := Lib.hid (show (if 32768 < S then (10 : Int) else if S < 32768 ∧ 0 < M ∧ ¬ (M = 1 ∧ T = 1) then 11 else 0) = (if 32768 < s then 10 else if s < 32768 ∧ 0 < m ∧ ¬ (m = 1 ∧ T = 1) then 11 else 0) by
          have e1 : (32768 < S) = ((32768 : Int) < s) := by rw [hS]; apply propext; omega
          have e2 : (S < 32768 ∧ 0 < M ∧ ¬ (M = 1 ∧ T = 1)) = (s < 32768 ∧ 0 < m ∧ ¬ (m = 1 ∧ T = 1)) := by rw [hS, hM]; apply propext; omega
          simp only [e1, e2])
        rw [← hS, ← hM] at hs
        clear hS hM
        have HS := Lib.hid hs
        clear hs
        by_cases c1 : 32768 < s
        · go_wp2_with fail
          refine HS.out.mono ?_
          rintro e w' ⟨rfl, rfl⟩
          go_wp2
          go_ret
          rw [HC.out, HC2.out, if_pos c1]
          exact ⟨rfl, rfl⟩
        · have C1 := Lib.hid c1
          have d1 : decide ((32768 : Int) < s) = false := by simp; omega
          clear c1
          have fin : ∀ v : Int, v = (if s < 32768 ∧ 0 < m ∧ ¬ (m = 1 ∧ T = 1) then 11 else 0) → Ending.returned (.int .i64 v) = .returned (.int .i64 (chk l)) := by
            intro v hv; rw [HC.out, HC2.out, if_neg (by have := C1.out; omega), hv]
          have FIN := Lib.hid fin
          clear fin HC HC2
          by_cases c2 : s < 32768
          · have C2 := Lib.hid c2
            have d2 : decide (s < 32768) = true := by simp; omega
            clear c2
            by_cases c3 : 0 < m
            · have C3 := Lib.hid c3
              have d3 : decide (0 < m) = true := by simp; omega
              clear c3
              by_cases c4 : m = 1
              · have e4 : (m == 1) = true := by simp; omega
                have C4 := Lib.hid c4
                clear c4
                by_cases c5 : T = 1
                · have e5 : (T == 1) = true := by simp; omega
                  have C5 := Lib.hid c5
                  clear c5
                  go_wp2_with fail
                  refine HS.out.mono ?_
                  rintro e w' ⟨rfl, rfl⟩
                  go_wp2
                  go_ret
                  exact ⟨FIN.out _ (by rw [if_neg (by have := C4.out; have := C5.out; omega)]), rfl⟩
                · have e5 : (T == 1) = false := by simp; omega
                  have C5 := Lib.hid c5
                  clear c5
                  go_wp2_with fail
                  refine HS.out.mono ?_
                  rintro e w' ⟨rfl, rfl⟩
                  go_wp2
                  go_ret
                  exact ⟨FIN.out _ (by rw [if_pos (by have := C2.out; have := C3.out; have := C5.out; omega)]), rfl⟩
              · have e4 : (m == 1) = false := by simp; omega
                have C4 := Lib.hid c4
                clear c4
                go_wp2_with fail
                refine HS.out.mono ?_
                rintro e w' ⟨rfl, rfl⟩
                go_wp2
                go_ret
                exact ⟨FIN.out _ (by rw [if_pos (by have := C2.out; have := C3.out; have := C4.out; omega)]), rfl⟩
            · have d3 : decide (0 < m) = false := by simp; omega
              have C3 := Lib.hid c3
              clear c3
              go_wp2_with fail
              refine HS.out.mono ?_
              rintro e w' ⟨rfl, rfl⟩
              go_wp2
              go_ret
              exact ⟨FIN.out _ (by rw [if_neg (by have := C3.out; omega)]), rfl⟩
          · have C2 := Lib.hid c2
            have d2 : decide (s < 32768) = false := by simp; omega
            clear c2
            go_wp2_with fail
            refine HS.out.mono ?_
            rintro e w' ⟨rfl, rfl⟩
            go_wp2
            go_ret
            exact ⟨FIN.out _ (by rw [if_neg (by have := C2.out; omega)]), rfl⟩
end Go.Proofs.YtghegmbafbpnjaaGreatDoor
namespace Go.Proofs.YtghegmbafbpnjaaGreatDoor
set_option maxRecDepth 100000
/-- The symbols below k that have this length. -/
def inLen (l : List Int) (n k : Nat) : List Nat := (List.range k).filter fun s => decide (l.getD s 0 = (n : Int))
/-- The symbols with lengths from 1 to n, in the order of their codes. -/
def ordTo (l : List Int) : Nat → List Nat
  | 0 => []
  | n + 1 => ordTo l n ++ inLen l (n + 1) l.length
def ord (l : List Int) : List Nat := ordTo l 15
/-- Lengths to n are done, and of the next one the symbols below k. -/
def pre (l : List Int) (n k : Nat) : List Nat := ordTo l n ++ inLen l (n + 1) k
def stp (l : List Int) (st : List Int × Nat) (s : Nat) : List Int × Nat := (st.1.set s ((st.2 / 2 ^ (15 - (l.getD s 0).toNat) : Nat) : Int), st.2 + kr (l.getD s 0))
def cst (l : List Int) (p : List Nat) : List Int × Nat := p.foldl (stp l) (List.replicate l.length 0, 0)
/-- The codes when these symbols have got theirs. -/
def cds (l : List Int) (p : List Nat) : List Int := (cst l p).1
/-- How much these symbols take. -/
def kp (l : List Int) (p : List Nat) : Nat := (cst l p).2
def codes (l : List Int) : List Int := cds l (ord l)
def was (l : List Int) (p : List Nat) : Nat := match p.getLast? with
  | none => 0
  | some s => (l.getD s 0).toNat

theorem inLen_succ (l : List Int) (n k : Nat) : inLen l n (k + 1) = if l.getD k 0 = (n : Int) then inLen l n k ++ [k] else inLen l n k := by
  unfold inLen; rw [List.range_succ, List.filter_append]
  by_cases h : l.getD k 0 = (n : Int)
  · rw [if_pos h]; simp only [List.filter_cons, List.filter_nil]; rw [if_pos (by simpa using h)]
  · rw [if_neg h]; simp only [List.filter_cons, List.filter_nil]; rw [if_neg (by simpa using h)]; simp
theorem inLen_zero (l : List Int) (n : Nat) : inLen l n 0 = [] := rfl
theorem pre_zero (l : List Int) (n : Nat) : pre l n 0 = ordTo l n := by simp [pre, inLen_zero]
theorem pre_full (l : List Int) (n : Nat) : pre l n l.length = ordTo l (n + 1) := rfl
theorem pre_succ (l : List Int) (n k : Nat) : pre l n (k + 1) = if l.getD k 0 = ((n + 1 : Nat) : Int) then pre l n k ++ [k] else pre l n k := by
  unfold pre; rw [inLen_succ]; split <;> simp
theorem mem_inLen {l : List Int} {n k s : Nat} : s ∈ inLen l n k ↔ s < k ∧ l.getD s 0 = (n : Int) := by
  unfold inLen; rw [List.mem_filter, List.mem_range]; simp
theorem mem_ordTo {l : List Int} {s : Nat} : ∀ {n : Nat}, s ∈ ordTo l n ↔ s < l.length ∧ 1 ≤ l.getD s 0 ∧ l.getD s 0 ≤ (n : Int)
  | 0 => by simp [ordTo]; intro _ _; omega
  | n + 1 => by
    rw [ordTo, List.mem_append, mem_ordTo, mem_inLen]
    constructor
    · rintro (⟨h1, h2, h3⟩ | ⟨h1, h2⟩)
      · exact ⟨h1, h2, by omega⟩
      · exact ⟨h1, by omega, by omega⟩
    · rintro ⟨h1, h2, h3⟩
      by_cases h : l.getD s 0 ≤ (n : Int)
      · exact .inl ⟨h1, h2, h⟩
      · exact .inr ⟨h1, by omega⟩
theorem pre_prefix (l : List Int) (n k : Nat) (hk : k ≤ l.length) : ∃ r, ordTo l (n + 1) = pre l n k ++ r := by
  rw [← pre_full]
  have : ∀ d, ∃ r, pre l n (k + d) = pre l n k ++ r := by
    intro d
    induction d with
    | zero => exact ⟨[], by simp⟩
    | succ d ih =>
      obtain ⟨r, hr⟩ := ih
      rw [← Nat.add_assoc, pre_succ]
      split
      · exact ⟨r ++ [k + d], by rw [hr, List.append_assoc]⟩
      · exact ⟨r, hr⟩
  obtain ⟨r, hr⟩ := this (l.length - k)
  exact ⟨r, by rw [← hr]; congr 1; omega⟩
theorem ordTo_prefix (l : List Int) (n : Nat) : ∀ d, ∃ r, ordTo l (n + d) = ordTo l n ++ r
  | 0 => ⟨[], by simp⟩
  | d + 1 => by
    obtain ⟨r, hr⟩ := ordTo_prefix l n d
    exact ⟨r ++ inLen l (n + d + 1) l.length, by rw [← Nat.add_assoc, ordTo, hr, List.append_assoc]⟩
theorem pre_ord (l : List Int) (n k : Nat) (hk : k ≤ l.length) (hn : n < 15) : ∃ r, ord l = pre l n k ++ r := by
  obtain ⟨r, hr⟩ := pre_prefix l n k hk
  obtain ⟨r2, hr2⟩ := ordTo_prefix l (n + 1) (15 - (n + 1))
  refine ⟨r ++ r2, ?_⟩
  rw [← List.append_assoc, ← hr, ← hr2, ord]; congr 1; omega
theorem nodup_inLen (l : List Int) (n k : Nat) : (inLen l n k).Nodup := List.Pairwise.filter _ List.nodup_range
theorem nodup_ordTo (l : List Int) : ∀ n, (ordTo l n).Nodup
  | 0 => List.nodup_nil
  | n + 1 => by
    rw [ordTo, List.nodup_append]
    refine ⟨nodup_ordTo l n, nodup_inLen _ _ _, fun a ha b hb e => ?_⟩
    subst e
    have h1 := (mem_ordTo.1 ha).2.2
    have h2 := (mem_inLen.1 hb).2
    omega
theorem sorted_ordTo (l : List Int) : ∀ n, (ordTo l n).Pairwise fun a b => l.getD a 0 ≤ l.getD b 0
  | 0 => List.Pairwise.nil
  | n + 1 => by
    rw [ordTo, List.pairwise_append]
    refine ⟨sorted_ordTo l n, ?_, fun a ha b hb => ?_⟩
    · refine List.Pairwise.imp_of_mem (R := fun _ _ => True) ?_ (List.pairwise_of_forall (fun _ _ => trivial))
      intro a b ha hb _
      rw [(mem_inLen.1 ha).2, (mem_inLen.1 hb).2]; exact Int.le_refl _
    · have h1 := (mem_ordTo.1 ha).2.2
      have h2 := (mem_inLen.1 hb).2
      omega
theorem ord_len {l : List Int} {s : Nat} (h : s ∈ ord l) : s < l.length ∧ 1 ≤ l.getD s 0 ∧ l.getD s 0 ≤ 15 := mem_ordTo.1 h

theorem cst_snoc (l : List Int) (p : List Nat) (s : Nat) : cst l (p ++ [s]) = stp l (cst l p) s := by unfold cst; rw [List.foldl_append]; rfl
theorem cds_snoc (l : List Int) (p : List Nat) (s : Nat) : cds l (p ++ [s]) = (cds l p).set s ((kp l p / 2 ^ (15 - (l.getD s 0).toNat) : Nat) : Int) := by
  unfold cds; rw [cst_snoc]; rfl
theorem kp_snoc (l : List Int) (p : List Nat) (s : Nat) : kp l (p ++ [s]) = kp l p + kr (l.getD s 0) := by
  unfold kp; rw [cst_snoc]; rfl
theorem length_cds (l : List Int) (p : List Nat) : (cds l p).length = l.length := by
  have : ∀ st : List Int × Nat, st.1.length = l.length → (p.foldl (stp l) st).1.length = l.length := by
    induction p with
    | nil => intro st h; exact h
    | cons s p ih => intro st h; exact ih _ (by simp [stp, h])
  exact this _ (by simp)
theorem kp_eq (l : List Int) (p : List Nat) : kp l p = (p.map fun s => kr (l.getD s 0)).sum := by
  have : ∀ st : List Int × Nat, (p.foldl (stp l) st).2 = st.2 + (p.map fun s => kr (l.getD s 0)).sum := by
    induction p with
    | nil => intro st; simp
    | cons s p ih => intro st; simp only [List.foldl_cons, ih, List.map_cons, List.sum_cons]; unfold stp; simp only; omega
  have h := this (List.replicate l.length 0, 0)
  simpa [kp, cst] using h
theorem was_snoc (l : List Int) (p : List Nat) (s : Nat) : was l (p ++ [s]) = (l.getD s 0).toNat := by simp [was]

/-- Nothing is counted twice. -/
theorem sum_le_of_nodup (f : Nat → Nat) : ∀ (n : Nat) (p : List Nat), p.Nodup → (∀ s ∈ p, s < n) → (p.map f).sum ≤ ((List.range n).map f).sum
  | 0, p, _, h => by
    cases p with
    | nil => simp
    | cons s p => have := h s (by simp); omega
  | n + 1, p, hn, h => by
    have ih := sum_le_of_nodup f n (p.filter fun s => decide (s ≠ n)) (List.Pairwise.filter _ hn) (fun s hs => by
      obtain ⟨h1, h2⟩ := List.mem_filter.1 hs
      have := h s h1
      have h3 : s ≠ n := by simpa using h2
      omega)
    rw [List.range_succ, List.map_append, List.sum_append]
    have key : (p.map f).sum ≤ ((p.filter fun s => decide (s ≠ n)).map f).sum + f n := by
      clear ih h
      induction p with
      | nil => simp
      | cons s p ih =>
        have hd := List.nodup_cons.1 hn
        have := ih hd.2
        by_cases e : s = n
        · subst e
          have : p.filter (fun t => decide (t ≠ s)) = p := List.filter_eq_self.2 (fun t ht => by simp; rintro rfl; exact hd.1 ht)
          rw [List.filter_cons, if_neg (by simp), this]
          simp only [List.map_cons, List.sum_cons]; omega
        · rw [List.filter_cons, if_pos (by simpa using e)]
          simp only [List.map_cons, List.sum_cons]; omega
    simp only [List.map_cons, List.map_nil, List.sum_cons, List.sum_nil, Nat.add_zero]
    omega
theorem range_sum (l : List Int) : ((List.range l.length).map fun s => kr (l.getD s 0)).sum = ksum l := by
  unfold ksum
  congr 1
  apply List.ext_getElem
  · simp
  · intro i h1 h2
    simp only [List.getElem_map, List.getElem_range]
    rw [List.getD_eq_getElem?_getD, List.getElem?_eq_getElem (by simpa using h2)]; rfl
theorem kp_le {l : List Int} {p r : List Nat} (h : ord l = p ++ r) : kp l p ≤ ksum l := by
  rw [kp_eq, ← range_sum]
  have hn : p.Nodup := (List.nodup_append.1 (h ▸ nodup_ordTo l 15 : (p ++ r).Nodup)).1
  exact sum_le_of_nodup _ _ _ hn (fun s hs => (ord_len (h ▸ List.mem_append_left r hs)).1)
theorem next_len {l : List Int} {p r : List Nat} {s : Nat} (h : ord l = p ++ s :: r) : was l p ≤ (l.getD s 0).toNat := by
  unfold was
  cases e : p.getLast? with
  | none => exact Nat.zero_le _
  | some t =>
    have ht : t ∈ p := List.mem_of_getLast? e
    have hs := (List.pairwise_append.1 (h ▸ sorted_ordTo l 15 : (p ++ s :: r).Pairwise fun a b => l.getD a 0 ≤ l.getD b 0)).2.2 t ht s (by simp)
    show (l.getD t 0).toNat ≤ _
    omega
/-- What the symbols take is so many times what the last of them takes. -/
theorem kp_whole {l : List Int} : ∀ {p r : List Nat}, ord l = p ++ r → ∃ c, kp l p = c * 2 ^ (15 - was l p) := by
  intro p
  induction h : p.length generalizing p with
  | zero =>
    intro r _
    have : p = [] := List.eq_nil_of_length_eq_zero h
    subst this
    exact ⟨0, by simp [kp, cst]⟩
  | succ n ih =>
    intro r hr
    rcases List.eq_nil_or_concat p with e | ⟨q, s, e⟩
    · subst e; simp at h
    · subst e
      rw [List.concat_eq_append] at hr h ⊢
      rw [List.append_assoc, List.singleton_append] at hr
      obtain ⟨c, hc⟩ := ih (p := q) (by simp at h; exact h) hr
      have hl := next_len hr
      have hs := ord_len (s := s) (l := l) (by rw [hr]; simp)
      rw [was_snoc, kp_snoc, hc]
      refine ⟨c * 2 ^ ((l.getD s 0).toNat - was l q) + 1, ?_⟩
      have e1 : 15 - was l q = ((l.getD s 0).toNat - was l q) + (15 - (l.getD s 0).toNat) := by omega
      have e2 : kr (l.getD s 0) = 2 ^ (15 - (l.getD s 0).toNat) := by unfold kr; rw [if_pos (by omega)]
      rw [e2, e1, Nat.add_mul, Nat.mul_assoc, ← Nat.pow_add, Nat.one_mul]
/-- The next code: the previous one and 1, shifted. -/
theorem next_code {l : List Int} {p r : List Nat} {s : Nat} (h : ord l = p ++ s :: r) :
    kp l p / 2 ^ (15 - was l p) * 2 ^ ((l.getD s 0).toNat - was l p) = kp l p / 2 ^ (15 - (l.getD s 0).toNat) := by
  obtain ⟨c, hc⟩ := kp_whole h
  have hl := next_len h
  have hs := ord_len (s := s) (l := l) (by rw [h]; simp)
  rw [hc, Nat.mul_div_cancel _ (Nat.two_pow_pos _)]
  have e1 : 15 - was l p = ((l.getD s 0).toNat - was l p) + (15 - (l.getD s 0).toNat) := by omega
  rw [e1, Nat.pow_add, ← Nat.mul_assoc, Nat.mul_div_cancel _ (Nat.two_pow_pos _)]
/-- Behind it: one more. -/
theorem next_more {l : List Int} {p r : List Nat} {s : Nat} (h : ord l = p ++ s :: r) :
    kp l (p ++ [s]) / 2 ^ (15 - was l (p ++ [s])) = kp l p / 2 ^ (15 - (l.getD s 0).toNat) + 1 := by
  have hs := ord_len (s := s) (l := l) (by rw [h]; simp)
  have e2 : kr (l.getD s 0) = 2 ^ (15 - (l.getD s 0).toNat) := by unfold kr; rw [if_pos (by omega)]
  rw [was_snoc, kp_snoc, e2, Nat.add_div_right _ (Nat.two_pow_pos _)]
theorem code_lt {l : List Int} {p r : List Nat} {s : Nat} (h : ord l = p ++ s :: r) (hk : ksum l ≤ 32768) : kp l p / 2 ^ (15 - (l.getD s 0).toNat) < 2 ^ (l.getD s 0).toNat := by
  have hs := ord_len (s := s) (l := l) (by rw [h]; simp)
  have e2 : kr (l.getD s 0) = 2 ^ (15 - (l.getD s 0).toNat) := by unfold kr; rw [if_pos (by omega)]
  have hle := kp_le (l := l) (p := p ++ [s]) (r := r) (by rw [h]; simp)
  rw [kp_snoc, e2] at hle
  have hp := Nat.two_pow_pos (15 - (l.getD s 0).toNat)
  rw [Nat.div_lt_iff_lt_mul hp, ← Nat.pow_add]
  rw [show (l.getD s 0).toNat + (15 - (l.getD s 0).toNat) = 15 from by omega]
  omega
end Go.Proofs.YtghegmbafbpnjaaGreatDoor
namespace Go.Proofs.YtghegmbafbpnjaaGreatDoor
set_option maxRecDepth 100000
open Go Go.RowKit
/-- A slice of numbers of the call's own. -/
def OwnI (w : World) (base : Nat) (v : Value) (l : List Int) : Prop := w.ownsRow base 3 1 v l.length (l.map (.int .i64))
theorem info_int : (Tryz.prog.info? 3).map (fun i => (i.zero, i.size, i.bytes)) = some (some (.int .i64 0), 1, 8) := by kernel_rfl
theorem OwnI.open {w : World} {base : Nat} {v : Value} {l : List Int} (h : OwnI w base v l) : ∃ A c, v = .slice A l.length c ∧ Ints w A l.length l ∧ (∀ a, A = some a → v.ownBlock = some a.block) := by
  unfold OwnI at h
  rcases h.2 with ⟨rfl, e⟩ | ⟨g, cap, cur, rfl, hg, hh, r⟩
  · have : l = [] := by cases l with
      | nil => rfl
      | cons x l => simp at e
    subst this
    exact ⟨none, 0, rfl, ⟨rfl, fun h => absurd h (by simp)⟩, by simp⟩
  · refine ⟨some ⟨g, 0, none⟩, cap, rfl, ⟨rfl, fun hn => ⟨g, 0, rfl, (h.lt g rfl).2, fun i hi => ?_⟩⟩, by simp [Value.ownBlock]⟩
    have hc := h.cells (g := g) rfl i (.int .i64 l[i]) (by simp [hi])
    rw [Go.WideShapes.add_plain] at hc
    exact hc
theorem OwnI.nil (w : World) (base : Nat) : OwnI w base (.slice none 0 0) [] := World.ownsRow_nil _ _ _ _
theorem OwnI.but {w w' : World} {base : Nat} {v : Value} {l : List Int} (h : OwnI w base v l) {S : List Nat} (hw : But S w w') (hS : ∀ k ∈ S, v.ownBlock ≠ some k) : OwnI w' base v l := by
  unfold OwnI at h ⊢
  refine ⟨h.1, ?_⟩
  rcases h.2 with h2 | ⟨g, cap, cur, hv, hg, hh, r⟩
  · exact .inl h2
  · refine .inr ⟨g, cap, cur, hv, hg, ?_, r⟩
    have hlt : g < w.heap.size := (h.lt g (by rw [hv]; rfl)).2
    rw [hw.block g hlt (fun hk => hS g hk (by rw [hv]; rfl))]
    exact hh

theorem OwnI.pushed {w wr w' : World} {v v' : Value} {L : List Int} {x : Int} (hB : But [] w wr) (hO : OwnI wr w.heap.size v L)
    (h1 : w'.ownsRow w.heap.size 3 1 v' (L.length + 1) (L.map (.int .i64) ++ [.int .i64 x])) (hg : (wr.alloc (.cells #[.int .i64 x] 3)).grownBy w' v.ownBlock) :
    OwnI w' w.heap.size v' (L ++ [x]) ∧ But [] w w' := by
  refine ⟨?_, (hB.alloc _).grown hg (fun g e => .inr (hO.lt g e).1)⟩
  unfold OwnI
  rw [List.length_append, List.map_append]
  exact h1
theorem nats_snoc (p : List Nat) (s : Nat) : (p ++ [s]).map (fun s : Nat => (s : Int)) = p.map (fun s : Nat => (s : Int)) ++ [(s : Int)] := by simp

set_option maxHeartbeats 1000000 in
set_option maxRecDepth 100000 in
theorem ordered_any {w : World} {A : Option Addr} {len cap : Nat} {l : List Int} (hl : Ints w A len l) (h288 : len ≤ 288) :
    Calls Tryz.prog 100 #[.slice A len cap] w fun e w' => ∃ v, e = .returned v ∧ OwnI w' w.heap.size v ((ord l).map fun s : Nat => (s : Int)) ∧ But [] w w' := by
  obtain ⟨i0, hi0, hz0, hz1, hz2⟩ := info_parts info_int
  have hlen := hl.1
  have hp : ∀ n k, k ≤ len → n < 15 → (pre l n k).length ≤ 288 := fun n k hk hn => by
    obtain ⟨r, hr⟩ := pre_ord l n k (by omega) hn
    have hnd : (pre l n k).Nodup := (List.nodup_append.1 (hr ▸ nodup_ordTo l 15 : (pre l n k ++ r).Nodup)).1
    have := sum_le_of_nodup (fun _ => 1) len (pre l n k) hnd (fun s hs => by
      have := (ord_len (l := l) (s := s) (hr ▸ List.mem_append_left r hs)).1; omega)
    simp only [List.map_const', List.sum_replicate_nat, List.length_range, Nat.mul_one] at this
    omega
  have HP := Lib.hid hp
  clear hp
  go_enter Tryz.func100, Tryz.ntmps100
  go_wp2
  go_loopw [3, 4] (fun v n wr => ∃ m : Nat, m ≤ 15 ∧ n = .int .i64 ((m : Int) + 1) ∧ OwnI wr w.heap.size v ((ordTo l m).map fun s : Nat => (s : Int)) ∧ But [] w wr) (fun _ n _ => 16 - (intOf n).toNat)
  case atStart => exact ⟨0, by omega, rfl, OwnI.nil _ _, But.refl _ _⟩
  case round =>
    obtain ⟨m, hm, rfl, ho, hb⟩ := hrel
    by_cases hlt : m < 15
    · obtain ⟨wo, rfl⟩ : ∃ wo : World, wo = wr := ⟨_, rfl⟩
      have t15 : decide ((m : Int) + 1 ≤ 15) = true := by simp; omega
      go_wp2
      have hlo := hl.but hb (by simp)
      go_loopw [3, 13] (fun v i wr => ∃ k : Nat, k ≤ len ∧ i = .int .i64 k ∧ OwnI wr w.heap.size v ((pre l m k).map fun s : Nat => (s : Int)) ∧ But [] w wr) (fun _ i _ => len - (intOf i).toNat)
      case atStart => exact ⟨0, Nat.zero_le _, rfl, by rw [pre_zero]; exact ho, hb⟩
      case round =>
        clear ho hb hlo
        obtain ⟨k, hk, rfl, ho, hb⟩ := hrel
        by_cases hlt2 : k < len
        · obtain ⟨g, o, rfl, hg, hc⟩ := (hl.but hb (by simp)).at hlt2
          have hgd : l.getD k 0 = l[k]'(by omega) := by rw [List.getD_eq_getElem?_getD, List.getElem?_eq_getElem (by omega)]; rfl
          have hps := pre_succ l m k
          rw [hgd] at hps
          have HPS := Lib.hid hps
          clear hps hgd
          generalize l[k]'(by omega) = x at *
          have hlp := HP.out m k hk hlt
          clear hlen
          by_cases he : x = (m : Int) + 1
          · subst he
            have hpe : pre l m (k + 1) = pre l m k ++ [k] := by rw [HPS.out, if_pos (by omega)]
            have HPE := Lib.hid hpe
            have hB0 := hb.alloc (.cells #[.int .i64 (k : Int)] 3)
            have HO := Lib.hid ho
            have HB := Lib.hid hb
            have hsz := hb.size
            have hpl : ((pre l m k).map fun s : Nat => (s : Int)).length ≤ 288 := by rw [List.length_map]; exact hlp
            obtain ⟨L, hL⟩ : ∃ L, L = (pre l m k).map (fun s : Nat => (s : Int)) := ⟨_, rfl⟩
            rw [← hL] at ho HO hpl
            have HL := Lib.hid hL.symm
            clear hL
            clear hpe ho hb hlp
            go_wp2_with (at_builtin; refine wpList_append_own _ rfl _ _ 58 rfl w.heap.size 3 i0 (.int .i64 0) 1 8 Tryz.underlying58 hi0 hz0 hz1 hz2 rfl (by decide) _ L.length (L.map (.int .i64)) rfl (HO.out.alloc _) ⟨wr.heap.size, 0, none⟩ 1 1 [.int .i64 (k : Int)] rfl rfl ?c1 ?c2 ?c3 ?c4 ?c5 ?_)
            case c1 => exact World.news_of_block (cs := #[.int .i64 (k : Int)]) (t := 3) (fr := (0, 0)) (heap_alloc_new wr _)
            case c2 => simp [Value.oneCell']
            case c3 => unfold maxLen; omega
            case c4 => omega
            case c5 => simp; omega
            intro v' w1 hown1 hgrow _
            have HN := Lib.hid (OwnI.pushed HB.out HO.out hown1 hgrow)
            clear hown1 hgrow
            go_wp2
            go_roundw
            case rel => exact ⟨k + 1, by omega, by go_num, by rw [HPE.out, nats_snoc, HL.out]; exact HN.out.1, HN.out.2⟩
            case measure => simp [intOf]; omega
          · have hpe : pre l m (k + 1) = pre l m k := by rw [HPS.out, if_neg (by omega)]
            have HPE := Lib.hid hpe
            have he2 : (x == (m : Int) + 1) = false := by simp; omega
            clear hpe he
            go_wp2
            go_roundw
            case rel => exact ⟨k + 1, by omega, by go_num, by rw [HPE.out]; exact ho, hb⟩
            case measure => simp [intOf]; omega
        · obtain rfl : k = len := by omega
          rw [← hlen, pre_full] at ho
          go_wp2
          go_roundw
          case rel => exact ⟨m + 1, by omega, by go_num, ho, hb⟩
          case measure => simp [intOf]; omega
    · obtain rfl : m = 15 := by omega
      go_wp2
      go_ret
      exact ⟨_, rfl, ho, hb⟩
end Go.Proofs.YtghegmbafbpnjaaGreatDoor
