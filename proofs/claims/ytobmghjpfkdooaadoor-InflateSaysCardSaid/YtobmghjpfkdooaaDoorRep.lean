/- A number so many times: slices.Repeat at a list of one. -/
import Derived.Test.YtobmghjpfkdooaaDoorCodesW
import Derived.Laws.CopyOwn
import Derived.OwnWalk
namespace Go.Proofs.YtobmghjpfkdooaaDoor
set_option maxRecDepth 100000
open Go Go.RowKit

theorem and_low (n : Nat) (h : n ≤ 100000) : Go.bits .and .u64 (n : Int) 4294967295 = (n : Int) := by
  have h1 := u64_and_nat n 4294967295 (by omega) (by decide)
  have h2 : n &&& 4294967295 = n := by
    have := Nat.and_two_pow_sub_one_eq_mod n 32
    rw [show (4294967295 : Nat) = 2 ^ 32 - 1 from rfl, this]
    exact Nat.mod_eq_of_lt (by omega)
  rw [h2] at h1
  exact h1
theorem u64_low (n : Nat) (h : n ≤ 100000) : IntKind.u64.wrap (n : Int) = (n : Int) := by
  rw [IntKind.wrap_u64]; omega
theorem mul64_one (n : Nat) (h : n ≤ 100000) (w : World) :
    Calls Tryd.prog 60 #[.int .u64 1, .int .u64 n] w fun e w' => e = .returned (.tuple #[.int .u64 0, .int .u64 n]) ∧ w = w' := by
  have e1 := and_low n h
  have e2 : (n : Int) / 4294967296 = 0 := by omega
  have e3 : Go.bits .and .u64 1 4294967295 = 1 := and_low 1 (by omega)
  have e4 := u64_low n h
  have e5 : Go.bits .and .u64 0 4294967295 = 0 := and_low 0 (by omega)
  go_enter Tryd.func60, Tryd.ntmps60
  go_wp2
  go_ret2
  exact ⟨rfl, rfl⟩
theorem mul_one (n : Nat) (h : n ≤ 100000) (w : World) :
    Calls Tryd.prog 55 #[.int .u64 1, .int .u64 n] w fun e w' => e = .returned (.tuple #[.int .u64 0, .int .u64 n]) ∧ w = w' := by
  have e4 := u64_low n h
  have HM := Lib.hid (mul64_one n h w)
  clear h
  go_enter Tryd.func55, Tryd.ntmps55
  go_wp2_with fail
  refine HM.out.mono ?_
  rintro e w' ⟨rfl, rfl⟩
  go_wp2
  go_ret2
  exact ⟨rfl, rfl⟩

/-- A row of numbers that is known whole. -/
def Whole (w : World) (g : Nat) (l : List Int) : Prop := Is w g 3 (l.map (Value.int .i64)).toArray
theorem OwnI.whole {w : World} {base g n : Nat} {l : List Int} (h : OwnI w base (.slice (some ⟨g, 0, none⟩) n n) l) (hl : l.length = n) : Whole w g l ∧ base ≤ g := by
  unfold OwnI at h
  rcases h.2 with ⟨e, _⟩ | ⟨g', cap, cur, e, hb, hh, h1, h2, h3, h4⟩
  · cases e
  · injection e with e1 e2 e3
    injection e1 with e1
    injection e1 with e1
    subst e1 e3
    refine ⟨?_, hb⟩
    unfold Whole Is
    have : cur = (l.map (Value.int .i64)).toArray := by
      apply Array.ext'
      rw [← h4, List.take_of_length_le (by rw [Array.length_toList, h3, hl]; omega)]
    rw [← this]; exact hh
theorem Whole.own {w : World} {base g n : Nat} {l : List Int} (h : Whole w g l) (hl : l.length = n) (hb : base ≤ g) (hn : n ≤ 100000) : OwnI w base (.slice (some ⟨g, 0, none⟩) n n) l := by
  unfold OwnI
  refine ⟨by simp, .inr ⟨g, n, (l.map (Value.int .i64)).toArray, by rw [hl], hb, h, by omega, by unfold maxLen; omega, by simp; omega, by rw [List.take_of_length_le (by simp)]⟩⟩
/-- The cells of a row that is filled up to k. -/
def fillC (x : Int) (k n : Nat) : List Value := List.replicate k (.int .i64 x) ++ List.replicate (n - k) (.int .i64 0)
theorem length_fillC (x : Int) {k n : Nat} (h : k ≤ n) : (fillC x k n).length = n := by unfold fillC; simp; omega
theorem splice_fill (x : Int) (k n m : Nat) (h : k + m ≤ n) : splice (fillC x k n) k (List.replicate m (Value.int .i64 x)) = fillC x (k + m) n := by
  unfold splice fillC
  rw [List.take_append_of_le_length (by simp), List.take_of_length_le (by simp), List.length_replicate, List.drop_append]
  simp only [List.length_replicate, List.drop_replicate]
  rw [show k - (k + m) = 0 from by omega, show n - k - (k + m - k) = n - (k + m) from by omega, List.replicate_zero, List.nil_append, ← List.append_assoc, List.replicate_append_replicate]
theorem fill_at (x : Int) {k n j : Nat} (h : j < k) : (fillC x k n)[j]? = some (.int .i64 x) := by
  unfold fillC
  rw [List.getElem?_append_left (by simp; exact h), List.getElem?_replicate, if_pos h]
def Fill (w : World) (g : Nat) (x : Int) (k n : Nat) : Prop := Is w g 3 (fillC x k n).toArray
theorem fill_start {w : World} {g n : Nat} (x : Int) (h : Whole w g (List.replicate n 0)) : Fill w g x 0 n := by
  unfold Whole at h
  unfold Fill fillC
  rw [List.map_replicate] at h
  simpa using h
theorem fill_end {w : World} {g n : Nat} {x : Int} (h : Fill w g x n n) : Whole w g (List.replicate n x) := by
  unfold Fill fillC at h
  unfold Whole
  rw [List.map_replicate]
  simpa using h

theorem but_of_below {w w' : World} (h : Below w.heap.size w w') : But [] w w' := ⟨h.os, h.tape, h.output, h.size, fun k hk _ => h.block k hk⟩
theorem fill_src {w : World} {g k n m j : Nat} {x : Int} {v : Value} (h : Fill w g x k n) (hv : (List.replicate m (Value.int .i64 x))[j]? = some v) (hm : m ≤ k) : w.drew.cell? ((⟨g, 0, none⟩ : Addr).add j) = some v := by
  have hj : j < m := by
    have := (List.getElem?_eq_some_iff.1 hv).1
    simpa using this
  rw [List.getElem?_replicate, if_pos hj] at hv
  have e2 : (⟨g, 0, none⟩ : Addr).add j = ⟨g, j, none⟩ := by unfold Addr.add; split <;> simp_all
  rw [e2]
  have hc : w.cell? ⟨g, j, none⟩ = (fillC x k n).toArray[j]? := h.cell j
  show w.cell? _ = _
  rw [hc, List.getElem?_toArray, fill_at x (by omega)]
  exact hv
attribute [local irreducible] fillC
set_option maxHeartbeats 1000000 in
theorem repeat_any (x : Int) {g c n : Nat} {w : World} (hg : w.cell? ⟨g, 0, none⟩ = some (.int .i64 x)) (hn0 : 0 < n) (hn : n ≤ 100000) :
    Calls Tryd.prog 50 #[.slice (some ⟨g, 0, none⟩) 1 c, .int .i64 n] w fun e w' => ∃ gg cc, e = .returned (.slice (some ⟨gg, 0, none⟩) n cc) ∧ OwnI w' w.heap.size (.slice (some ⟨gg, 0, none⟩) n cc) (List.replicate n x) ∧ But [] w w' := by
  obtain ⟨i0, hi0, hz0, hz1, hz2⟩ := info_parts info_int
  have e4 := u64_low n hn
  have e6 : decide ((9223372036854775807 : Int) < (n : Int)) = false := by simp; omega
  have HM := Lib.hid (mul_one n hn w)
  have HG := Lib.hid hg
  clear hg
  go_enter Tryd.func50, Tryd.ntmps50
  go_wp2_with fail
  refine HM.out.mono ?_
  rintro e w' ⟨rfl, rfl⟩
  have hsz : (Tryd.prog.info? 3).map (·.size) = some 1 := by rw [hi0]; simp [hz1]
  go_wp2_with (first
    | (at_make; refine wpList_make_full _ rfl _ _ 48 rfl w.heap.size 3 i0 _ 1 Tryd.underlying48 hi0 hz0 hz1 _ _ _ _ n rfl rfl (by omega) (by omega) (by rw [hz2]; omega) (by unfold maxLen; omega) (by simp) ?_; intro w1 hown hgrow; have HW := Lib.hid (fill_start x (OwnI.whole (OwnI.made hown) (by simp)).1); have HB := Lib.hid ((But.refl [] w).grown hgrow (fun g e => by cases e)); clear hown hgrow)
    | ((with_reducible show wpList _ _ _ _ _ _); refine wpList_copy_splice (o := ⟨some 33, _, _, _, _, _⟩) rfl (.tmp 31) (.tmp 32) 48 48 rfl 3 Tryd.underlying48 hsz _ _ _ _ _ _ rfl rfl w.heap.size 0 (fillC x 0 n) 3 HW.out [.int .i64 x] ?c1 ?c2 ?c3 ?c4 w.heap.size w HB.out.belowNew (Nat.le_refl _) ?_))
  case c1 => show 1 = min 1 n; omega
  case c2 =>
    intro j v hv
    rcases j with _ | j
    · obtain rfl : Value.int .i64 x = v := by simpa using hv
      exact HB.out.cell HG.out (by simp)
    · simp at hv
  case c3 => rw [length_fillC x (by omega)]; simp; omega
  case c4 => intro v hv; simp at hv; subst hv; rfl
  intro w2 hH hB2
  have hH2 : Hid (Fill w2 w.heap.size x 1 n) := by
    have h1 := hH.out
    have h2 := splice_fill x 0 n 1 (by omega)
    rw [show [Value.int .i64 x] = List.replicate 1 (Value.int .i64 x) from rfl, h2] at h1
    exact h1
  have HB2 := Lib.hid hB2
  clear hH hB2 HW HB HM HG
  go_wp2
  go_loopw [8] (fun kv wr => ∃ k : Nat, 1 ≤ k ∧ k ≤ n ∧ kv = .int .i64 k ∧ Fill wr w.heap.size x k n ∧ Below w.heap.size w wr) (fun kv _ => n - (intOf kv).toNat)
  case atStart => exact ⟨1, Nat.le_refl _, hn0, rfl, hH2.out, HB2.out⟩
  case round =>
    obtain ⟨k, hk1, hkn, rfl, hWr, hBr⟩ := hrel
    clear hH2 HB2
    have HWR := Lib.hid hWr
    have HBR := Lib.hid hBr
    clear hWr hBr
    by_cases hlt : k < n
    · obtain ⟨m, hm⟩ : ∃ m, m = min k (n - k) := ⟨_, rfl⟩
      have hm1 : 1 ≤ m := by omega
      have hm2 : k + m ≤ n := by omega
      have HMM := Lib.hid hm
      clear hm
      have hnk : ¬ n = k := by omega
      have hwr : IntKind.i64.wrap ((k : Int) + (m : Int)) = ((k + m : Nat) : Int) := IntWalk.i64_in _ (by omega)
      have dnk : decide (n < k) = false := by simp; omega
      go_wp2
      go_region_law ((refine step_copy_splice (by rfl) _ _ _ _ (by rfl) 3 Tryd.underlying48 hsz (some ⟨w.heap.size, k, none⟩) (some ⟨w.heap.size, 0, none⟩) (n - k) (n - k) k n ?e1 ?e2 w.heap.size k (fillC x k n) 3 (show wr.drew.heap[w.heap.size]? = _ from HWR.out) (List.replicate m (.int .i64 x)) (show (List.replicate m (Value.int .i64 x)).length = min k (n - k) by rw [List.length_replicate]; exact HMM.out) (fun _ => ⟨rfl, (⟨w.heap.size, 0, none⟩ : Addr), rfl, fun j v hv => fill_src HWR.out hv (by have := HMM.out; omega)⟩) (by rw [length_fillC x hkn, List.length_replicate]; exact hm2) (fun v hv => by rw [List.eq_of_mem_replicate hv]; rfl) w.heap.size w (HBR.out.drew) (Nat.le_refl _) ?_); (case e1 => go_simp); (case e2 => go_simp); intro w3 hH hB3; have hH3 : Hid (Fill w3 w.heap.size x (k + m) n) := (by have h1 := hH.out; rw [splice_fill x k n m hm2] at h1; exact h1); have HB3 := Lib.hid hB3; clear hH hB3)
      all_goals
        go_simp
        go_wp2
        go_roundw
        case rel => exact ⟨k + m, by omega, hm2, by go_num, hH3.out, HB3.out⟩
        case measure => simp [intOf]; omega
    · obtain rfl : k = n := by omega
      go_wp2
      go_ret
      exact ⟨w.heap.size, k, rfl, (fill_end HWR.out).own (by simp) (Nat.le_refl _) hn, but_of_below HBR.out⟩

theorem own_some {w : World} {base : Nat} {v : Value} {l : List Int} (h : OwnI w base v l) (hl : 0 < l.length) : ∃ A c, v = .slice (some A) l.length c ∧ Ints w (some A) l.length l := by
  obtain ⟨A, c, rfl, hI, _⟩ := h.open
  obtain ⟨g, o, rfl, _⟩ := hI.2 hl
  exact ⟨_, c, rfl, hI⟩
/-- The program's repeated. -/
theorem repeated_any (x : Int) {n : Nat} (w : World) (hn0 : 0 < n) (hn : n ≤ 100000) :
    Calls Tryd.prog 41 #[.int .i64 x, .int .i64 n] w fun e w' => ∃ gg cc, e = .returned (.slice (some ⟨gg, 0, none⟩) n cc) ∧ OwnI w' w.heap.size (.slice (some ⟨gg, 0, none⟩) n cc) (List.replicate n x) ∧ But [] w w' := by
  have hr := repeat_any x (c := 1) (w := w.alloc (.cells #[.int .i64 x] 3)) (g := w.heap.size) ((Is.fresh w 3 #[.int .i64 x]).cell 0) hn0 hn
  have HR := Lib.hid hr
  clear hr
  go_enter Tryd.func41, Tryd.ntmps41
  go_wp2_with fail
  refine HR.out.mono ?_
  rintro e w' ⟨gg, cc, rfl, hO, hB⟩
  have HO := Lib.hid hO
  have HB := Lib.hid hB
  clear hO hB
  go_wp2
  go_ret
  refine ⟨gg, cc, rfl, ?_, ((But.refl [] w).alloc _).trans HB.out⟩
  have h := HO.out
  unfold OwnI at h ⊢
  refine ⟨h.1, ?_⟩
  rcases h.2 with h2 | ⟨g, cap, cur, h1, h2, h3⟩
  · exact .inl h2
  · exact .inr ⟨g, cap, cur, h1, by simp at h2; omega, h3⟩
end Go.Proofs.YtobmghjpfkdooaaDoor
