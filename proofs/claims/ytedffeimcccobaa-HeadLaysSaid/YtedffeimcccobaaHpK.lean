/- The statements' small functions, and what the examples come to. -/
import Derived.Test.YtedffeimcccobaaHpB
import Derived.Test.YtedffeimcccobaaHpJ
import Derived.Test.YtedffeimcccobaaCkE
set_option maxRecDepth 100000
set_option linter.unusedVariables false
namespace Go.Proofs.Ytedffeimcccobaa
set_option maxRecDepth 100000
open Go Go.RowKit
theorem cks_lit (w : World) (L : List Ck) : Cks (w.alloc (.cells (ckCells L).toArray 30)) (some ⟨w.heap.size, 0, none⟩) L.length L :=
  ⟨rfl, fun _ => ⟨w.heap.size, 0, rfl, by simp, fun i hi => by
    have hget : ∀ (L : List Ck) (i : Nat) (hi : i < L.length), (ckCells L)[i * 2]? = some (.string (strL L[i].1)) ∧ (ckCells L)[i * 2 + 1]? = some (.string (strL L[i].2)) := by
      intro L
      induction L with
      | nil => intro i hi; simp at hi
      | cons c L ih =>
        intro i hi
        have e : ckCells (c :: L) = .string (strL c.1) :: .string (strL c.2) :: ckCells L := rfl
        rw [e]
        cases i with
        | zero => exact ⟨rfl, rfl⟩
        | succ i =>
          have h := ih i (by simpa using hi)
          rw [show (i + 1) * 2 = i * 2 + 1 + 1 by omega]
          exact h
    obtain ⟨h1, h2⟩ := hget L i hi
    constructor
    · rw [Nat.zero_add, World.cell?_alloc_mark]
      simpa using h1
    · rw [Nat.zero_add, World.cell?_alloc_mark]
      simpa using h2⟩⟩
theorem readT_er {L : List Ck} {er : Int} (h : (readT L).2.2 = er) (h0 : er ≠ 0) : readT L = ([], hs0, er) := by
  cases L with
  | nil => have e : (23 : Int) = er := h; subst e; rfl
  | cons k l =>
    rw [readT_cons] at h ⊢
    by_cases h1 : k.1 ≠ tIHDR
    · rw [if_pos h1] at h ⊢; rw [← h]
    rw [if_neg h1] at h ⊢
    by_cases h2 : k.2.length ≠ 13 ∨ k.2.getD 10 0 ≠ 0 ∨ k.2.getD 11 0 ≠ 0
    · rw [if_pos h2] at h ⊢; rw [← h]
    rw [if_neg h2] at h ⊢
    by_cases h3 : rightN (numsH k.2) ≠ 0
    · rw [if_pos h3] at h ⊢; rw [← h]
    rw [if_neg h3] at h ⊢
    by_cases h4 : (runH ((numsH k.2).getD 2 0) ((numsH k.2).getD 3 0) l hs0).2 = 0
    · rw [if_pos h4] at h; exact absurd (h.symm.trans h4) h0
    · rw [if_neg h4] at h ⊢; rw [← h]
/-- The example's head. -/
def greyD : List UInt8 := [0, 0, 0, 1, 0, 0, 0, 1, 8, 0, 0, 0, 0]
theorem lay_grey : layI 1 1 8 0 0 = (tIHDR, greyD) := by decide +kernel
theorem read_two : readT [(tIHDR, greyD), (tIDAT, [120]), (tIDAT, [121]), (tIEND, [])] = ([1, 1, 8, 0, 0], { hs0 with idat := true, D := [120, 121] }, 0) := by
  have h := read_back (w := 1) (h := 1) (d := 8) (c := 0) (lace := 0) (by decide +kernel) (by decide) (ps := [[120], [121]]) (by decide)
  exact h
theorem read_ends : readT [(tIHDR, greyD), (tIEND, [])] = ([], hs0, 23) := readT_er (by decide +kernel) (by decide)
theorem read_text : readT [(tIHDR, greyD), (tIDAT, [120]), ([116, 69, 88, 116], []), (tIDAT, [121]), (tIEND, [])] = ([], hs0, 23) := readT_er (by decide +kernel) (by decide)
theorem read_crit : readT [(tIHDR, greyD), ([65, 66, 67, 68], []), (tIDAT, [120]), (tIEND, [])] = ([], hs0, 27) := readT_er (by decide +kernel) (by decide)
theorem right_one : rightH 1 1 8 1 0 = 24 := by decide +kernel
theorem right_wide : rightH 1025 1 8 0 0 = 5 := by decide +kernel
theorem pgrey_any (w : World) : Calls Try.prog 23 #[] w fun e w' => e = .returned (.agg #[.int .i64 1, .int .i64 1, .int .i64 8, .int .i64 0, .int .i64 0]) ∧ But [] w w' := by
  have hI := Is.fresh w 23 #[.int .i64 1, .int .i64 1, .int .i64 8, .int .i64 0, .int .i64 0]
  have HB := Lib.hid ((But.refl [] w).alloc (.cells #[.int .i64 1, .int .i64 1, .int .i64 8, .int .i64 0, .int .i64 0] 23))
  have e0 := hI.cell 0
  have e1 := hI.cell 1
  have e2 := hI.cell 2
  have e3 := hI.cell 3
  have e4 := hI.cell 4
  go_enter Try.func23, Try.ntmps23
  go_wp2
  refine bodyPost_ret (v := .agg #[.int .i64 1, .int .i64 1, .int .i64 8, .int .i64 0, .int .i64 0]) ?_ rfl ⟨rfl, HB.out⟩
  simp [results, Try.results23, go_sem, e0, e1, e2, e3, e4]
theorem pdat_b (w : World) (S : ByteArray) : Calls Try.prog 19 #[.string S] w fun e w' => e = .returned (.agg #[.string ⟨#[73, 68, 65, 84]⟩, .string S]) ∧ But [] w w' := by
  have hI := Is.fresh w 30 #[.string ⟨#[73, 68, 65, 84]⟩, .string S]
  have HB := Lib.hid ((But.refl [] w).alloc (.cells #[.string ⟨#[73, 68, 65, 84]⟩, .string S] 30))
  have e0 := hI.cell 0
  have e1 := hI.cell 1
  go_enter Try.func19, Try.ntmps19
  go_wp2
  refine bodyPost_ret (v := .agg #[.string ⟨#[73, 68, 65, 84]⟩, .string S]) ?_ rfl ⟨rfl, HB.out⟩
  simp [results, Try.results19, go_sem, e0, e1]
theorem pends_any (w : World) : Calls Try.prog 20 #[] w fun e w' => e = .returned (.agg #[.string ⟨#[73, 69, 78, 68]⟩, .string ⟨#[]⟩]) ∧ But [] w w' := by
  have hI := Is.fresh w 30 #[.string ⟨#[73, 69, 78, 68]⟩, .string ⟨#[]⟩]
  have HB := Lib.hid ((But.refl [] w).alloc (.cells #[.string ⟨#[73, 69, 78, 68]⟩, .string ⟨#[]⟩] 30))
  have e0 := hI.cell 0
  have e1 := hI.cell 1
  go_enter Try.func20, Try.ntmps20
  go_wp2
  refine bodyPost_ret (v := .agg #[.string ⟨#[73, 69, 78, 68]⟩, .string ⟨#[]⟩]) ?_ rfl ⟨rfl, HB.out⟩
  simp [results, Try.results20, go_sem, e0, e1]
/-- How great chunks are; whether they are few. -/
def sizeE (L : List Ck) : Nat := (L.map fun c => 12 + c.2.length).sum
def fewE (L : List Ck) : Bool := decide (sizeE L ≤ 100000)
theorem sizeE_take {L : List Ck} {i : Nat} {c : Ck} (h : L[i]? = some c) : sizeE (L.take (i + 1)) = sizeE (L.take i) + (12 + c.2.length) := by
  rw [take_next h]
  unfold sizeE
  rw [List.map_append, List.sum_append]
  simp
theorem sizeE_take_le (L : List Ck) (i : Nat) : sizeE (L.take i) ≤ sizeE L := by
  have e : sizeE L = sizeE (L.take i) + sizeE (L.drop i) := by
    unfold sizeE
    rw [← List.sum_append, ← List.map_append, List.take_append_drop]
  omega
theorem sizeE_data (L : List Ck) : dataC L + 12 * L.length = sizeE L := by
  unfold dataC sizeE
  induction L with
  | nil => rfl
  | cons c L ih =>
    simp only [List.map_cons, List.sum_cons, List.length_cons] at ih ⊢
    omega
attribute [local irreducible] strL
theorem pfew_any (w : World) {A : Option Addr} {n cap : Nat} {L : List Ck} (hK : Cks w A n L) (hn : n ≤ 8796093022208) (hs : ∀ (i : Nat) (c : Ck), L[i]? = some c → c.2.length ≤ 140737488351232) :
    Calls Try.prog 16 #[.slice A n cap] w fun e w' => e = .returned (.bool (fewE L)) ∧ w = w' := by
  have hl := hK.1
  have HL := Lib.hid hl
  have HK := Lib.hid hK
  have HS := Lib.hid hs
  clear hK hl hs
  go_enter Try.func16, Try.ntmps16
  go_wp2
  go_loop [3, 4] (fun sv iv => ∃ i m : Nat, i ≤ n ∧ iv = .int .i64 i ∧ sv = .int .i64 m ∧ Hid (m = sizeE (L.take i)) ∧ m ≤ 100000) (fun _ iv => n - (intOf iv).toNat)
  case atStart => exact ⟨0, 0, Nat.zero_le _, rfl, rfl, Lib.hid rfl, Nat.zero_le _⟩
  case round =>
    obtain ⟨i, m, hi, rfl, rfl, HM, hm⟩ := hrel
    by_cases hlt : i < n
    · obtain ⟨g, o, c, rfl, hg, c0, c1, hat⟩ := HK.out.at hlt
      have x2 := HS.out i c hat
      have HN := Lib.hid (sizeE_take hat)
      have k0 : (0 : Int) ≤ (i : Int) := by omega
      have k1 : (i : Int) < (n : Int) := by omega
      have s2 := strL_size c.2
      obtain ⟨D, hD⟩ : ∃ D, D = strL c.2 := ⟨_, rfl⟩
      rw [← hD] at s2 c1
      obtain ⟨b, hb⟩ : ∃ b, b = c.2.length := ⟨_, rfl⟩
      rw [← hb] at x2 s2
      rw [← hb] at HN
      obtain ⟨z, hz⟩ : ∃ z, z = m + 12 + b := ⟨_, rfl⟩
      have HZ := Lib.hid (show z = sizeE (L.take (i + 1)) by rw [HN.out, ← HM.out]; omega)
      have e1 : (m : Int) + 12 + (b : Int) = (z : Int) := by omega
      have w1 : IntKind.i64.wrap ((m : Int) + 12) = (m : Int) + 12 := IntWalk.i64_in _ (by omega)
      have w3 : IntKind.i64.wrap (z : Int) = (z : Int) := IntWalk.i64_in _ (by omega)
      clear hD hb hat hg hz
      by_cases hz : 100000 < z
      · have dz : decide ((100000 : Int) < (z : Int)) = true := by simp; omega
        have HF := Lib.hid (show fewE L = false by
          unfold fewE
          have := sizeE_take_le L (i + 1)
          have h := HZ.out
          exact decide_eq_false (by omega))
        clear hz
        go_wp2
        go_ret
        exact ⟨by rw [HF.out]; rfl, rfl⟩
      · have dz : decide ((100000 : Int) < (z : Int)) = false := by simp; omega
        go_wp2
        go_round
        case rel => exact ⟨i + 1, z, by omega, by go_num, rfl, HZ, by omega⟩
        case measure => simp [intOf]; omega
    · obtain rfl : i = n := by omega
      have HF := Lib.hid (show fewE L = true by
        unfold fewE
        have h := HM.out
        rw [List.take_of_length_le (by rw [HL.out]; exact Nat.le_refl _)] at h
        exact decide_eq_true (by omega))
      go_wp2
      go_ret
      exact ⟨by rw [HF.out]; rfl, rfl⟩
end Go.Proofs.Ytedffeimcccobaa
