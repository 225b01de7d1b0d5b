/- The contract of Lay with the writer alone. -/
import Derived.Test.YtmafcmfafcjokaaLayW
namespace Go.Proofs.Ytmafcmfafcjokaa
open Go Go.RowKit

/-- What a writer does to the world: its own blocks alone. -/
def Wrote (w w' : World) (lo b : Nat) (og : Option Nat) (X N : Nat) : Prop := ∃ og', WS w' lo b og' X N ∧ (∀ g, og' = some g → og = some g ∨ w.heap.size ≤ g) ∧ But (b :: og.toList) w w'
theorem Wrote.refl {w : World} {lo b X N : Nat} {og : Option Nat} (h : WS w lo b og X N) : Wrote w w lo b og X N := ⟨og, h, fun _ h => .inl h, But.refl _ _⟩
theorem Wrote.old {w0 w w' : World} {lo b X N : Nat} {og : Option Nat} (h : Wrote w w' lo b og X N) (h0 : But [] w0 w) (hb : w0.heap.size ≤ b) (hog : ∀ g, og = some g → w0.heap.size ≤ g) : But [] w0 w' := by
  obtain ⟨og', _, _, hB⟩ := h
  refine h0.fresh hB fun i hi => ?_
  simp only [List.mem_cons, Option.mem_toList] at hi
  rcases hi with rfl | hi
  · exact hb
  · exact hog i hi
theorem But.join {S T : List Nat} {w w1 w2 : World} (h : But S w w1) (k : But T w1 w2) (hT : ∀ i ∈ T, i ∈ S ∨ w.heap.size ≤ i) : But S w w2 :=
  ⟨k.os.trans h.os, k.tape.trans h.tape, k.output.trans h.output, Nat.le_trans h.size k.size, fun i hi hS =>
    (k.block i (Nat.lt_of_lt_of_le hi h.size) (fun e => by rcases hT i e with h1 | h1; exact hS h1; omega)).trans (h.block i hi hS)⟩
theorem Wrote.bits {w w1 : World} {lo b X N : Nat} {og : Option Nat} (h : Wrote w w1 lo b og X N) (hlo : lo ≤ w.heap.size) (hN : N ≤ 140737488355328) (v n : Int) :
    Calls Try.prog 37 #[.pointer (some ⟨b, 0, none⟩), .int .i64 v, .int .i64 n] w1 fun e w' => e = .returned (.tuple #[]) ∧ Wrote w w' lo b og (layX X N v n) (layN N n) := by
  obtain ⟨og', hW, hg, hB⟩ := h
  refine (hW.bits (Nat.le_trans hlo hB.size) hN v n).mono ?_
  rintro e w' ⟨rfl, og2, hW2, hg2, hB2⟩
  refine ⟨rfl, og2, hW2, fun g e => ?_, hB.join hB2 fun i hi => ?_⟩
  · rcases hg2 g e with h | h
    · exact hg g h
    · exact .inr (Nat.le_trans hB.size h)
  · simp only [List.mem_cons, Option.mem_toList] at hi ⊢
    rcases hi with h | h
    · exact .inl (.inl h)
    · rcases hg i h with h | h
      · exact .inl (.inr h)
      · exact .inr h

theorem lay1_out {l : List Int} {s : Int} {wr : World} {b1 bt : Nat} (hTr : TT wr bt l) (hh : ¬ has l s) :
    Calls Try.prog 26 #[.pointer (some ⟨bt, 0, none⟩), .pointer (some ⟨b1, 0, none⟩), .int .i64 s] wr fun e w' => e = .returned (.int .i64 1) ∧ wr = w' := by
  obtain ⟨Ao, co, Al, cl, Ac, cc, hI, _, hl, _⟩ := hTr
  have k18 : wr.cell? ⟨bt, 18, none⟩ = some (.slice Al l.length cl) := hI.cell 18
  by_cases h0 : s < 0
  · clear hl hh hI
    go_enter Try.func26, Try.ntmps26
    go_wp2
    go_ret
    exact ⟨rfl, rfl⟩
  by_cases h1 : (l.length : Int) ≤ s
  · clear hl hh hI
    have h2 : 0 ≤ s := by omega
    clear h0
    go_enter Try.func26, Try.ntmps26
    go_wp2
    go_ret
    exact ⟨rfl, rfl⟩
  obtain ⟨n, rfl⟩ : ∃ n : Nat, s = n := ⟨s.toNat, by omega⟩
  have hn : n < l.length := by omega
  have hg : l.getD n 0 = 0 := by
    apply Classical.byContradiction; intro h
    exact hh (show 0 ≤ (n : Int) ∧ (n : Int) < l.length ∧ l.getD (n : Int).toNat 0 ≠ 0 from ⟨by omega, by omega, by simpa using h⟩)
  obtain ⟨g, o, rfl, hgl, hc⟩ := hl.at hn
  have : l[n] = 0 := by rw [← hg, List.getD_eq_getElem?_getD, List.getElem?_eq_getElem hn]; rfl
  rw [this] at hc
  have s0 : (0 : Int) ≤ (n : Int) := by omega
  have s1 : (n : Int) < (l.length : Int) := by omega
  clear hl hh hI hg this h0 h1
  go_enter Try.func26, Try.ntmps26
  go_wp2
  go_ret
  exact ⟨rfl, rfl⟩

set_option maxRecDepth 100000 in
set_option maxHeartbeats 1000000 in
theorem lay1_in {l : List Int} {s : Int} {w0 wq : World} {lo b X N bt : Nat} {og : Option Nat} (hT : TT w0 bt l) (hok : ∀ x ∈ l, 0 ≤ x ∧ x ≤ 15) (hP : WS wq lo b og X N) (hlo : lo ≤ wq.heap.size) (h0w : But [] w0 wq) (hbw : w0.heap.size ≤ b) (hog : ∀ g, og = some g → w0.heap.size ≤ g) (hN : N ≤ 100000) (hh : has l s) :
    Calls Try.prog 26 #[.pointer (some ⟨bt, 0, none⟩), .pointer (some ⟨b, 0, none⟩), .int .i64 s] wq fun e w' => e = .returned (.int .i64 0) ∧ Wrote wq w' lo b og (layS l s X N).1 (layS l s X N).2 := by
  have he : layS l s X N = layG ((codes l).getD s.toNat 0) (l.getD s.toNat 0).toNat X N := if_pos hh
  rw [he]; clear he
  obtain ⟨h0, h1, h2⟩ : 0 ≤ s ∧ s < l.length ∧ l.getD s.toNat 0 ≠ 0 := hh
  obtain ⟨n, rfl⟩ : ∃ n : Nat, s = n := ⟨s.toNat, by omega⟩
  have hn : n < l.length := by omega
  rw [Int.toNat_natCast] at h2 ⊢
  have hg : l.getD n 0 = l[n] := getD_get hn
  have hcl : (codes l).length = l.length := by unfold codes; exact length_cds _ _
  have hg2 : (codes l).getD n 0 = (codes l)[n]'(by omega) := getD_get _
  have hx := hok _ (List.getElem_mem hn)
  rw [← hg] at hx
  obtain ⟨L, hL⟩ : ∃ L : Nat, l.getD n 0 = (L : Int) := ⟨(l.getD n 0).toNat, by omega⟩
  have hT' := hT
  obtain ⟨Ao, co, Al, cl, Ac, cc, hI, _, hl, hcs⟩ := hT'
  obtain ⟨g, o, rfl, hgl, hc⟩ := hl.at hn
  obtain ⟨g2, o2, rfl, hgl2, hc2⟩ := hcs.at hn
  rw [← hg, hL] at hc
  rw [← hg2] at hc2
  rw [hL] at hx h2 ⊢
  rw [Int.toNat_natCast]
  generalize (codes l).getD n 0 = c at *
  have hL1 : 1 ≤ L := by omega
  have hL15 : L ≤ 15 := by omega
  have s0 : (0 : Int) ≤ (n : Int) := by omega
  have s1 : (n : Int) < (l.length : Int) := by omega
  have old : ∀ W : World, But [] w0 W → W.cell? ⟨bt, 18, none⟩ = some (.slice (some ⟨g, o, none⟩) l.length cl) ∧ W.cell? ⟨bt, 19, none⟩ = some (.slice (some ⟨g2, o2, none⟩) l.length cc) ∧ W.cell? ⟨g, o + n, none⟩ = some (.int .i64 (L : Nat)) ∧ W.cell? ⟨g2, o2 + n, none⟩ = some (.int .i64 c) :=
    fun W hB => ⟨(hI.but hB (by simp)).cell 18, (hI.but hB (by simp)).cell 19, hB.cell hc (by simp), hB.cell hc2 (by simp)⟩
  have OLD := Lib.hid old
  obtain ⟨c0, c1, c2, c3⟩ := OLD.out _ h0w
  clear old hc hc2 hl hcs hI hg hg2 hL hcl hT hok h0 h1 h2 hx
  have HP := Lib.hid hP
  have hz : ((L : Int) == 0) = false := by simp; omega
  have hz1 : decide ((n : Int) < 0) = false := by simp; try omega
  have hz2 : decide (l.length ≤ n) = false := by simp; omega
  clear hP
  go_enter Try.func26, Try.ntmps26
  go_wp2
  clear c0 c1 c2 c3
  go_loopw [7] (fun iv w1 => ∃ k X' N' : Nat, k ≤ L ∧ iv = .int .i64 ((k : Int) - 1) ∧ layG c k X' N' = layG c L X N ∧ N' + k = N + L ∧ Wrote wq w1 lo b og X' N') (fun iv _ => ((intOf iv) + 1).toNat)
  case atStart => exact ⟨L, X, N, Nat.le_refl _, rfl, rfl, rfl, Wrote.refl HP.out⟩
  case round =>
    obtain ⟨k, X', N', hk, rfl, hG, hNk, hP⟩ := hrel
    clear HP
    obtain ⟨c0, c1, c2, c3⟩ := OLD.out _ (hP.old h0w hbw hog)
    have HP := Lib.hid hP
    have HG := Lib.hid hG
    have HNK := Lib.hid hNk
    clear hP hG hNk
    cases k with
    | zero =>
      go_wp2
      go_ret
      refine ⟨rfl, ?_⟩
      have := HG.out
      rw [← this]
      exact HP.out
    | succ k =>
      have hk1 : ((k + 1 : Nat) : Int) - 1 = (k : Int) := by omega
      rw [hk1]
      have hN' : N' ≤ 140737488355328 := by have := HNK.out; omega
      clear hk1
      go_wp2_with fail
      refine (HP.out.bits hlo hN' (c / 2 ^ k) 1).mono ?_
      rintro e w2 ⟨rfl, hP2⟩
      have HP2 := Lib.hid hP2
      clear hP2 c0 c1 c2 c3
      go_wp2
      go_roundw
      case rel =>
        refine ⟨k, _, _, by omega, rfl, ?_, ?_, HP2.out⟩
        · have := HG.out; rw [layG] at this; exact this
        · have := HNK.out; rw [layN_one]; omega
      case measure => simp [intOf]
end Go.Proofs.Ytmafcmfafcjokaa
