/- The walk of the statement on writers: call by call both writers lay the same bytes. -/
import Derived.Test.YtafchckfanbkcaaReads
namespace Go.Proofs.Ytafchckfanbkcaa
open Go Go.RowKit

/-- The program's writer in block b1 and the document's in block b2, side by side; all of theirs lies above what was there at first. -/
def Pair (w0 wr : World) (b1 b2 X N Y M : Nat) : Prop :=
  ∃ og1 og2, WS wr w0.heap.size b1 og1 X N ∧ FW wr w0.heap.size b2 og2 Y M ∧ (∀ g, og1 = some g → w0.heap.size ≤ g ∧ og2 ≠ some g) ∧ (∀ g, og2 = some g → w0.heap.size ≤ g) ∧
    But [] w0 wr ∧ w0.heap.size ≤ b1 ∧ w0.heap.size ≤ b2 ∧ b1 ≠ b2
theorem WS.ownNe {w : World} {lo b X N : Nat} {og : Option Nat} (h : WS w lo b og X N) {b2 : Nat} {t : TypeId} {cs : Array Value} (hi : Is w b2 t cs) (ht : 5 ≠ t) : og ≠ some b2 := by
  obtain ⟨v, L, part, _, hown, rfl, _⟩ := h
  exact own_ne hown hi ht
theorem FW.ownNe {w : World} {lo b X N : Nat} {og : Option Nat} (h : FW w lo b og X N) {b2 : Nat} {t : TypeId} {cs : Array Value} (hi : Is w b2 t cs) (ht : 5 ≠ t) : og ≠ some b2 := by
  obtain ⟨v, L, _, hown, rfl, _⟩ := h
  exact own_ne hown hi ht
theorem WS.is {w : World} {lo b X N : Nat} {og : Option Nat} (h : WS w lo b og X N) : ∃ cs, Is w b 57 cs := by
  obtain ⟨v, L, part, hi, _⟩ := h; exact ⟨_, hi⟩
theorem FW.is {w : World} {lo b X N : Nat} {og : Option Nat} (h : FW w lo b og X N) : ∃ cs, Is w b 45 cs := by
  obtain ⟨v, L, hi, _⟩ := h; exact ⟨_, hi⟩

theorem Pair.step1 {w0 wr w' : World} {b1 b2 X N Y M X' N' : Nat} {og1 og2 og1' : Option Nat} (hW : WS wr w0.heap.size b1 og1 X N) (hF : FW wr w0.heap.size b2 og2 Y M)
    (h1 : ∀ g, og1 = some g → w0.heap.size ≤ g ∧ og2 ≠ some g) (h2 : ∀ g, og2 = some g → w0.heap.size ≤ g) (hB : But [] w0 wr) (hb1 : w0.heap.size ≤ b1) (hb2 : w0.heap.size ≤ b2) (hb : b1 ≠ b2)
    (hW' : WS w' w0.heap.size b1 og1' X' N') (hf : ∀ g, og1' = some g → og1 = some g ∨ wr.heap.size ≤ g) (hB' : But (b1 :: og1.toList) wr w') : Pair w0 w' b1 b2 X' N' Y M := by
  obtain ⟨c1, i1⟩ := hW.is
  obtain ⟨c2, i2⟩ := hF.is
  have n1 := hW.ownNe i2 (by decide)
  have n2 := hF.ownNe i1 (by decide)
  have hlt := hF.lt.2
  refine ⟨og1', og2, hW', hF.but hB' ?_ ?_, ?_, h2, hB.fresh hB' ?_, hb1, hb2, hb⟩
  · simp only [List.mem_cons, Option.mem_toList]
    rintro (e | e)
    · exact hb e.symm
    · exact n1 e
  · intro g e
    simp only [List.mem_cons, Option.mem_toList]
    rintro (e2 | e2)
    · subst e2; exact n2 e
    · exact (h1 g e2).2 e
  · intro g e
    rcases hf g e with h | h
    · exact h1 g h
    · refine ⟨Nat.le_trans hB.size h, fun e2 => ?_⟩
      have := (hlt g e2).1
      omega
  · intro k hk
    simp only [List.mem_cons, Option.mem_toList] at hk
    rcases hk with e | e
    · omega
    · exact (h1 k e).1
theorem Pair.step2 {w0 wr w' : World} {b1 b2 X N Y M Y' M' : Nat} {og1 og2 og2' : Option Nat} (hW : WS wr w0.heap.size b1 og1 X N) (hF : FW wr w0.heap.size b2 og2 Y M)
    (h1 : ∀ g, og1 = some g → w0.heap.size ≤ g ∧ og2 ≠ some g) (h2 : ∀ g, og2 = some g → w0.heap.size ≤ g) (hB : But [] w0 wr) (hb1 : w0.heap.size ≤ b1) (hb2 : w0.heap.size ≤ b2) (hb : b1 ≠ b2)
    (hF' : FW w' w0.heap.size b2 og2' Y' M') (hf : ∀ g, og2' = some g → og2 = some g ∨ wr.heap.size ≤ g) (hB' : But (b2 :: og2.toList) wr w') : Pair w0 w' b1 b2 X N Y' M' := by
  obtain ⟨c1, i1⟩ := hW.is
  obtain ⟨c2, i2⟩ := hF.is
  have n1 := hW.ownNe i2 (by decide)
  have n2 := hF.ownNe i1 (by decide)
  have hlt := hW.lt.2
  refine ⟨og1, og2', hW.but hB' ?_ ?_, hF', ?_, ?_, hB.fresh hB' ?_, hb1, hb2, hb⟩
  · simp only [List.mem_cons, Option.mem_toList]
    rintro (e | e)
    · exact hb e
    · exact n2 e
  · intro g e
    simp only [List.mem_cons, Option.mem_toList]
    rintro (e2 | e2)
    · subst e2; exact n1 e
    · exact (h1 g e).2 e2
  · intro g e
    refine ⟨(h1 g e).1, fun e2 => ?_⟩
    rcases hf g e2 with h | h
    · exact (h1 g e).2 h
    · have := (hlt g e).1
      omega
  · intro g e
    rcases hf g e with h | h
    · exact h2 g h
    · exact Nat.le_trans hB.size h
  · intro k hk
    simp only [List.mem_cons, Option.mem_toList] at hk
    rcases hk with e | e
    · omega
    · exact h2 k e

section
variable {w0 wr : World} {b1 b2 X N Y M : Nat}
theorem Pair.bits1 (h : Pair w0 wr b1 b2 X N Y M) (hN : N ≤ 140737488355328) (v n : Int) :
    Calls Try.prog 26 #[.pointer (some ⟨b1, 0, none⟩), .int .i64 v, .int .i64 n] wr fun e w' => e = .returned (.tuple #[]) ∧ Pair w0 w' b1 b2 (layX X N v n) (layN N n) Y M := by
  obtain ⟨og1, og2, hW, hF, h1, h2, hB, hb1, hb2, hb⟩ := h
  refine (hW.bits hB.size hN v n).mono ?_
  rintro e w' ⟨rfl, og', hW', hf, hB'⟩
  exact ⟨rfl, Pair.step1 hW hF h1 h2 hB hb1 hb2 hb hW' hf hB'⟩
theorem Pair.bytes1 (h : Pair w0 wr b1 b2 X N Y M) (hN : N ≤ 140737488355328) (s : ByteArray) (hs : s.size ≤ 70368744177664) :
    Calls Try.prog 23 #[.pointer (some ⟨b1, 0, none⟩), .string s] wr fun e w' => e = .returned (.tuple #[]) ∧ Pair w0 w' b1 b2 (bytesX X N s) (bytesN N s) Y M := by
  obtain ⟨og1, og2, hW, hF, h1, h2, hB, hb1, hb2, hb⟩ := h
  refine (hW.bytes hB.size hN s hs).mono ?_
  rintro e w' ⟨rfl, og', hW', hf, hB'⟩
  exact ⟨rfl, Pair.step1 hW hF h1 h2 hB hb1 hb2 hb hW' hf hB'⟩
theorem Pair.bits2 (h : Pair w0 wr b1 b2 X N Y M) (hM : M ≤ 140737488355328) (v n : Int) :
    Calls Try.prog 27 #[.pointer (some ⟨b2, 0, none⟩), .int .i64 v, .int .i64 n] wr fun e w' => e = .returned (.tuple #[]) ∧ Pair w0 w' b1 b2 X N (layX Y M v n) (layN M n) := by
  obtain ⟨og1, og2, hW, hF, h1, h2, hB, hb1, hb2, hb⟩ := h
  refine (hF.bits hB.size hM v n).mono ?_
  rintro e w' ⟨rfl, og', hF', hf, hB'⟩
  exact ⟨rfl, Pair.step2 hW hF h1 h2 hB hb1 hb2 hb hF' hf hB'⟩
theorem Pair.bytes2 (h : Pair w0 wr b1 b2 X N Y M) (hM : M ≤ 140737488355328) (s : ByteArray) (hs : s.size ≤ 70368744177664) :
    Calls Try.prog 25 #[.pointer (some ⟨b2, 0, none⟩), .string s] wr fun e w' => e = .returned (.tuple #[]) ∧ Pair w0 w' b1 b2 X N (bytesX Y M s) (bytesN M s) := by
  obtain ⟨og1, og2, hW, hF, h1, h2, hB, hb1, hb2, hb⟩ := h
  refine (hF.bytes hB.size hM s hs).mono ?_
  rintro e w' ⟨rfl, og', hF', hf, hB'⟩
  exact ⟨rfl, Pair.step2 hW hF h1 h2 hB hb1 hb2 hb hF' hf hB'⟩
theorem Pair.keep (h : Pair w0 wr b1 b2 X N Y M) {w' : World} (hB' : But [] wr w') : Pair w0 w' b1 b2 X N Y M := by
  obtain ⟨og1, og2, hW, hF, h1, h2, hB, hb1, hb2, hb⟩ := h
  exact ⟨og1, og2, hW.but hB' (by simp) (by simp), hF.but hB' (by simp) (by simp), h1, h2, hB.trans hB', hb1, hb2, hb⟩
theorem Pair.text1 (h : Pair w0 wr b1 b2 X N Y M) (hN : N ≤ 140737488355328) :
    Calls Try.prog 28 #[.pointer (some ⟨b1, 0, none⟩)] wr fun e w' => e = .returned (.string (textOf X N)) ∧ Pair w0 w' b1 b2 X N Y M := by
  have h' := h
  obtain ⟨og1, og2, hW, _⟩ := h
  refine (hW.text hN).mono ?_
  rintro e w' ⟨rfl, hB'⟩
  exact ⟨rfl, h'.keep hB'⟩
theorem Pair.text2 (h : Pair w0 wr b1 b2 X N Y M) :
    Calls Try.prog 29 #[.pointer (some ⟨b2, 0, none⟩)] wr fun e w' => e = .returned (.string (textOf Y M)) ∧ wr = w' := by
  obtain ⟨og1, og2, _, hF, _⟩ := h
  exact hF.text
theorem Pair.old (h : Pair w0 wr b1 b2 X N Y M) : But [] w0 wr := by
  obtain ⟨og1, og2, hW, hF, h1, h2, hB, _⟩ := h; exact hB
end
theorem bytesN_le (N : Nat) (n v : Int) : bytesN N (upText n v) ≤ N + 407 := by
  unfold bytesN; rw [upText_size]; have := upLen_le n; omega
theorem layN_le (N : Nat) (n : Int) : layN N n ≤ N + 407 := by unfold layN; split <;> omega

set_option maxRecDepth 100000 in
set_option maxHeartbeats 1000000 in
theorem bitsWrites_walk {A : Option Addr} {len cap : Nat} {ops : List (Bool × Int × Int)} {w : World} (ho : IsOps w A len cap ops) :
    Calls Try.prog 6 #[.slice A len cap] w fun e w' => e = .returned (.bool true) ∧ Below w.heap.size w w' := by
  go_enter Try.func6, Try.ntmps6
  go_wp2_with fail
  refine (new_at w w.heap.size _ rfl).mono ?_
  rintro e w1 ⟨rfl, hW1, hB1, hs1⟩
  go_wp2_with fail
  have hW := hW1.but ((But.refl [] w1).alloc (.cells #[.slice none 0 0, .int .i64 0] 45)) (by simp) (by simp)
  have hF := fw_new w1 w.heap.size
  have hB := hB1.alloc (.cells #[.slice none 0 0, .int .i64 0] 45)
  rw [hs1] at hF
  have hP : Pair w (w1.alloc (.cells #[.slice none 0 0, .int .i64 0] 45)) w.heap.size (w.heap.size + 1) 0 0 0 0 :=
    ⟨none, none, hW, hF, (fun g e => by cases e), (fun g e => by cases e), hB, Nat.le_refl _, by omega, by omega⟩
  clear hW hF hB hW1 hB1
  go_loopw [5] (fun i wr => ∃ k X N : Nat, k ≤ len ∧ k ≤ 300 ∧ i = .int .i64 k ∧ N ≤ 407 * k ∧ Pair w wr w.heap.size (w.heap.size + 1) X N X N) (fun i _ => len - (intOf i).toNat)
  case atStart => exact ⟨0, 0, 0, Nat.zero_le _, by omega, rfl, by omega, hP⟩
  case round =>
    obtain ⟨k, X, N, hk, hk3, rfl, hN, hPr⟩ := hrel
    clear hP
    have ho' := ho
    obtain ⟨hol, hlc, hcm, hoc, hob⟩ := ho'
    unfold maxLen at hcm
    by_cases hlt : k < len
    · by_cases h300 : k < 300
      · obtain ⟨g, o, rfl, hg, hc⟩ := hoc (by omega)
        obtain ⟨c0, c1, c2⟩ := hc k (by omega)
        generalize ops[k]'(by omega) = q at *
        obtain ⟨wh, n, v⟩ := q
        clear hoc hob hc ho
        have hk0 : 0 ≤ (k : Int) := by omega
        have hkl : (k : Int) < (len : Int) := by omega
        have old : ∀ W : World, But [] w W → W.cell? ⟨g, o + k * 3, none⟩ = some (.bool wh) ∧ W.cell? ⟨g, o + k * 3 + 1, none⟩ = some (.int .i64 n) ∧ W.cell? ⟨g, o + k * 3 + 2, none⟩ = some (.int .i64 v) :=
          fun W hB => ⟨(hB.belowNew.cell hg).trans c0, (hB.belowNew.cell hg).trans c1, (hB.belowNew.cell hg).trans c2⟩
        have OLD := Lib.hid old
        clear old c0 c1 c2
        obtain ⟨c0, c1, c2⟩ := OLD.out _ hPr.old
        cases wh
        · go_upto_region 11 with (fail)
          have hP1 := hPr.keep ((But.refl [] wr).drew)
          obtain ⟨d0, d1, d2⟩ := OLD.out _ hP1.old
          refine wp_region_still_tail 11 (by kernel_rfl) (by kernel_rfl) ?_
          simp only [List.take_succ_cons, List.take_zero, List.drop_succ_cons, List.drop_zero]
          change wpStill _ _ wr.drew (fun a' => wpList _ _ _ _ a' wr.drew) _ _
          generalize wr.drew = W1 at *
          clear hPr c0 c1 c2
          repeat still_step
          refine wpStill_nil ?_
          go_wp2_with fail
          refine (hP1.bits1 (by omega) v n).mono ?_
          rintro e w2 ⟨rfl, hP2⟩
          clear hP1 d0 d1 d2
          obtain ⟨c0, c1, c2⟩ := OLD.out _ hP2.old
          go_upto_region 12 with (fail)
          have hP3 := hP2.keep ((But.refl [] w2).drew)
          obtain ⟨d0, d1, d2⟩ := OLD.out _ hP3.old
          refine wp_region_still_tail 11 (by kernel_rfl) (by kernel_rfl) ?_
          simp only [List.take_succ_cons, List.take_zero, List.drop_succ_cons, List.drop_zero]
          change wpStill _ _ w2.drew (fun a' => wpList _ _ _ _ a' w2.drew) _ _
          generalize w2.drew = W2 at *
          clear hP2 c0 c1 c2
          repeat still_step
          refine wpStill_nil ?_
          go_wp2_with fail
          refine (hP3.bits2 (by omega) v n).mono ?_
          rintro e w4 ⟨rfl, hP4⟩
          clear hP3 d0 d1 d2
          have hNl := layN_le N n
          generalize layN N n = N' at *
          generalize layX X N v n = X' at *
          go_wp2_with fail
          refine (hP4.text1 (by omega)).mono ?_
          rintro e w5 ⟨rfl, hP5⟩
          go_wp2_with fail
          refine hP5.text2.mono ?_
          rintro e w6 ⟨rfl, rfl⟩
          go_wp2_with fail
          go_roundw
          case rel => exact ⟨k + 1, X', N', by omega, by omega, by go_num, by omega, hP5⟩
          case measure => simp [intOf]; omega
        · go_wp2_with fail
          refine (up_text true n v wr).mono ?_
          rintro e w1 ⟨rfl, hB1⟩
          have hs50 : (upText n v).size ≤ 70368744177664 := by rw [upText_size]; have := upLen_le n; omega
          go_wp2_with fail
          have hP1 := hPr.keep hB1
          refine (hP1.bytes1 (by omega) _ hs50).mono ?_
          rintro e w2 ⟨rfl, hP2⟩
          clear hP1 hPr hB1 c0 c1 c2
          obtain ⟨c0, c1, c2⟩ := OLD.out _ hP2.old
          go_wp2_with fail
          refine (up_text true n v w2).mono ?_
          rintro e w3 ⟨rfl, hB3⟩
          go_wp2_with fail
          have hP3 := hP2.keep hB3
          refine (hP3.bytes2 (by omega) _ hs50).mono ?_
          rintro e w4 ⟨rfl, hP4⟩
          clear hP2 hP3 hB3 c0 c1 c2
          have hNl := bytesN_le N n v
          generalize bytesN N (upText n v) = N' at *
          generalize bytesX X N (upText n v) = X' at *
          go_wp2_with fail
          refine (hP4.text1 (by omega)).mono ?_
          rintro e w5 ⟨rfl, hP5⟩
          go_wp2_with fail
          refine hP5.text2.mono ?_
          rintro e w6 ⟨rfl, rfl⟩
          go_wp2_with fail
          go_roundw
          case rel => exact ⟨k + 1, X', N', by omega, by omega, by go_num, by omega, hP5⟩
          case measure => simp [intOf]; omega
      · have t300 : decide ((k : Int) < 300) = false := by simp; omega
        go_wp2_with (go_at_call 12; refine (awake_any _).mono ?_; rintro e w' ⟨rfl, hB2⟩)
        go_ret
        exact ⟨rfl, (hPr.old.trans hB2).belowNew⟩
    · have tlen : decide ((k : Int) < (len : Int)) = false := by simp; omega
      go_wp2_with (go_at_call 12; refine (awake_any _).mono ?_; rintro e w' ⟨rfl, hB2⟩)
      go_ret
      exact ⟨rfl, (hPr.old.trans hB2).belowNew⟩
end Go.Proofs.Ytafchckfanbkcaa
