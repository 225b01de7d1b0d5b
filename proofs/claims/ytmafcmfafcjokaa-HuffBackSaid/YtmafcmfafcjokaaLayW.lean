/- The contracts of Lay: the program's and the document's; and of the document's Make. -/
import Derived.Test.YtmafcmfafcjokaaLawE
import Derived.Test.YtmafcmfafcjokaaPair
namespace Go.Proofs.Ytmafcmfafcjokaa
open Go Go.RowKit

/-- The bits of a code of which so many are still to be laid, the highest first. -/
def layG (c : Int) : Nat → Nat → Nat → Nat × Nat
  | 0, X, N => (X, N)
  | i + 1, X, N => layG c i (layX X N (c / 2 ^ i) 1) (layN N 1)
/-- Has this symbol a code? -/
def has (l : List Int) (s : Int) : Prop := 0 ≤ s ∧ s < l.length ∧ l.getD s.toNat 0 ≠ 0
instance (l : List Int) (s : Int) : Decidable (has l s) := by unfold has; infer_instance
def layS (l : List Int) (s : Int) (X N : Nat) : Nat × Nat := if has l s then layG ((codes l).getD s.toNat 0) (l.getD s.toNat 0).toNat X N else (X, N)
theorem layN_one (N : Nat) : layN N 1 = N + 1 := by unfold layN; rw [if_neg (by omega)]; rfl
theorem layG_len (c : Int) : ∀ (n X N : Nat), (layG c n X N).2 = N + n
  | 0, _, _ => rfl
  | n + 1, X, N => by rw [layG, layG_len c n, layN_one]; omega

theorem getD_get {l : List Int} {n : Nat} (h : n < l.length) : l.getD n 0 = l[n] := by rw [List.getD_eq_getElem?_getD, List.getElem?_eq_getElem h]; rfl

theorem lay_out {l : List Int} {s : Int} {w0 wr : World} {b1 b2 X N Y M bt : Nat} (hT : TT w0 bt l) (hP : Pair w0 wr b1 b2 X N Y M) (hh : ¬ has l s) :
    Calls Try.prog 26 #[.pointer (some ⟨bt, 0, none⟩), .pointer (some ⟨b1, 0, none⟩), .int .i64 s] wr fun e w' => e = .returned (.int .i64 1) ∧ wr = w' := by
  have hTr := hT.but hP.old
  clear hT hP
  obtain ⟨Ao, co, Al, cl, Ac, cc, hI, _, hl, _⟩ := hTr
  have k18 : wr.cell? ⟨bt, 18, none⟩ = some (.slice Al l.length cl) := hI.cell 18
  by_cases h0 : s < 0
  · clear hl hh hI
    go_enter Try.func26, Try.ntmps26
    go_wp2
    go_ret
    exact ⟨rfl, rfl⟩
  by_cases h1 : (l.length : Int) ≤ s
  · clear hl hh hI
    have h2 : 0 ≤ s := by omega
    clear h0
    go_enter Try.func26, Try.ntmps26
    go_wp2
    go_ret
    exact ⟨rfl, rfl⟩
  obtain ⟨n, rfl⟩ : ∃ n : Nat, s = n := ⟨s.toNat, by omega⟩
  have hn : n < l.length := by omega
  have hg : l.getD n 0 = 0 := by
    apply Classical.byContradiction; intro h
    exact hh (show 0 ≤ (n : Int) ∧ (n : Int) < l.length ∧ l.getD (n : Int).toNat 0 ≠ 0 from ⟨by omega, by omega, by simpa using h⟩)
  obtain ⟨g, o, rfl, hgl, hc⟩ := hl.at hn
  have : l[n] = 0 := by rw [← hg, List.getD_eq_getElem?_getD, List.getElem?_eq_getElem hn]; rfl
  rw [this] at hc
  have s0 : (0 : Int) ≤ (n : Int) := by omega
  have s1 : (n : Int) < (l.length : Int) := by omega
  clear hl hh hI hg this h0 h1
  go_enter Try.func26, Try.ntmps26
  go_wp2
  go_ret
  exact ⟨rfl, rfl⟩

set_option maxRecDepth 100000 in
set_option maxHeartbeats 1000000 in
theorem lay_in {l : List Int} {s : Int} {w0 wr : World} {b1 b2 X N Y M bt : Nat} (hT : TT w0 bt l) (hok : ∀ x ∈ l, 0 ≤ x ∧ x ≤ 15) (hP : Pair w0 wr b1 b2 X N Y M) (hN : N ≤ 100000) (hh : has l s) :
    Calls Try.prog 26 #[.pointer (some ⟨bt, 0, none⟩), .pointer (some ⟨b1, 0, none⟩), .int .i64 s] wr fun e w' => e = .returned (.int .i64 0) ∧ Pair w0 w' b1 b2 (layS l s X N).1 (layS l s X N).2 Y M := by
  have he : layS l s X N = layG ((codes l).getD s.toNat 0) (l.getD s.toNat 0).toNat X N := if_pos hh
  rw [he]; clear he
  obtain ⟨h0, h1, h2⟩ : 0 ≤ s ∧ s < l.length ∧ l.getD s.toNat 0 ≠ 0 := hh
  obtain ⟨n, rfl⟩ : ∃ n : Nat, s = n := ⟨s.toNat, by omega⟩
  have hn : n < l.length := by omega
  rw [Int.toNat_natCast] at h2 ⊢
  have hg : l.getD n 0 = l[n] := getD_get hn
  have hcl : (codes l).length = l.length := by unfold codes; exact length_cds _ _
  have hg2 : (codes l).getD n 0 = (codes l)[n]'(by omega) := getD_get _
  have hx := hok _ (List.getElem_mem hn)
  rw [← hg] at hx
  obtain ⟨L, hL⟩ : ∃ L : Nat, l.getD n 0 = (L : Int) := ⟨(l.getD n 0).toNat, by omega⟩
  have hT' := hT
  obtain ⟨Ao, co, Al, cl, Ac, cc, hI, _, hl, hcs⟩ := hT'
  obtain ⟨g, o, rfl, hgl, hc⟩ := hl.at hn
  obtain ⟨g2, o2, rfl, hgl2, hc2⟩ := hcs.at hn
  rw [← hg, hL] at hc
  rw [← hg2] at hc2
  rw [hL] at hx h2 ⊢
  rw [Int.toNat_natCast]
  generalize (codes l).getD n 0 = c at *
  have hL1 : 1 ≤ L := by omega
  have hL15 : L ≤ 15 := by omega
  have s0 : (0 : Int) ≤ (n : Int) := by omega
  have s1 : (n : Int) < (l.length : Int) := by omega
  have old : ∀ W : World, But [] w0 W → W.cell? ⟨bt, 18, none⟩ = some (.slice (some ⟨g, o, none⟩) l.length cl) ∧ W.cell? ⟨bt, 19, none⟩ = some (.slice (some ⟨g2, o2, none⟩) l.length cc) ∧ W.cell? ⟨g, o + n, none⟩ = some (.int .i64 (L : Nat)) ∧ W.cell? ⟨g2, o2 + n, none⟩ = some (.int .i64 c) :=
    fun W hB => ⟨(hI.but hB (by simp)).cell 18, (hI.but hB (by simp)).cell 19, hB.cell hc (by simp), hB.cell hc2 (by simp)⟩
  have OLD := Lib.hid old
  obtain ⟨c0, c1, c2, c3⟩ := OLD.out _ hP.old
  clear old hc hc2 hl hcs hI hg hg2 hL hcl hT hok h0 h1 h2 hx
  have HP := Lib.hid hP
  have hz : ((L : Int) == 0) = false := by simp; omega
  have hz1 : decide ((n : Int) < 0) = false := by simp; try omega
  have hz2 : decide (l.length ≤ n) = false := by simp; omega
  clear hP
  go_enter Try.func26, Try.ntmps26
  go_wp2
  clear c0 c1 c2 c3
  go_loopw [7] (fun iv w1 => ∃ k X' N' : Nat, k ≤ L ∧ iv = .int .i64 ((k : Int) - 1) ∧ layG c k X' N' = layG c L X N ∧ N' + k = N + L ∧ Pair w0 w1 b1 b2 X' N' Y M) (fun iv _ => ((intOf iv) + 1).toNat)
  case atStart => exact ⟨L, X, N, Nat.le_refl _, rfl, rfl, rfl, HP.out⟩
  case round =>
    obtain ⟨k, X', N', hk, rfl, hG, hNk, hP⟩ := hrel
    clear HP
    obtain ⟨c0, c1, c2, c3⟩ := OLD.out _ hP.old
    have HP := Lib.hid hP
    have HG := Lib.hid hG
    have HNK := Lib.hid hNk
    clear hP hG hNk
    cases k with
    | zero =>
      go_wp2
      go_ret
      refine ⟨rfl, ?_⟩
      have := HG.out
      rw [← this]
      exact HP.out
    | succ k =>
      have hk1 : ((k + 1 : Nat) : Int) - 1 = (k : Int) := by omega
      rw [hk1]
      have hN' : N' ≤ 140737488355328 := by have := HNK.out; omega
      clear hk1
      go_wp2_with fail
      refine (HP.out.bits1 hN' (c / 2 ^ k) 1).mono ?_
      rintro e w2 ⟨rfl, hP2⟩
      have HP2 := Lib.hid hP2
      clear hP2 c0 c1 c2 c3
      go_wp2
      go_roundw
      case rel =>
        refine ⟨k, _, _, by omega, rfl, ?_, ?_, HP2.out⟩
        · have := HG.out; rw [layG] at this; exact this
        · have := HNK.out; rw [layN_one]; omega
      case measure => simp [intOf]

/-- The document's table of lengths lies in block b. -/
def RT (w : World) (b : Nat) (l : List Int) : Prop :=
  ∃ Al cl Ac cc, Is w b 69 #[.slice Al l.length cl, .slice Ac l.length cc] ∧ Ints w Al l.length l ∧ Ints w Ac l.length (codes l)
theorem RT.but {w w' : World} {b : Nat} {l : List Int} (h : RT w b l) (hw : But [] w w') : RT w' b l := by
  obtain ⟨Al, cl, Ac, cc, h1, h3, h4⟩ := h
  exact ⟨Al, cl, Ac, cc, h1.but hw (by simp), h3.but hw (by simp), h4.but hw (by simp)⟩

theorem rlay_out {l : List Int} {s : Int} {w0 wr : World} {b1 b2 X N Y M bt : Nat} (hT : RT w0 bt l) (hP : Pair w0 wr b1 b2 X N Y M) (hh : ¬ has l s) :
    Calls Try.prog 27 #[.pointer (some ⟨bt, 0, none⟩), .pointer (some ⟨b2, 0, none⟩), .int .i64 s] wr fun e w' => e = .returned (.int .i64 1) ∧ wr = w' := by
  have hTr := hT.but hP.old
  clear hT hP
  obtain ⟨Al, cl, Ac, cc, hI, hl, _⟩ := hTr
  have k18 : wr.cell? ⟨bt, 0, none⟩ = some (.slice Al l.length cl) := hI.cell 0
  by_cases h0 : s < 0
  · clear hl hh hI
    go_enter Try.func27, Try.ntmps27
    go_wp2
    go_ret
    exact ⟨rfl, rfl⟩
  by_cases h1 : (l.length : Int) ≤ s
  · clear hl hh hI
    have h2 : 0 ≤ s := by omega
    clear h0
    go_enter Try.func27, Try.ntmps27
    go_wp2
    go_ret
    exact ⟨rfl, rfl⟩
  obtain ⟨n, rfl⟩ : ∃ n : Nat, s = n := ⟨s.toNat, by omega⟩
  have hn : n < l.length := by omega
  have hg : l.getD n 0 = 0 := by
    apply Classical.byContradiction; intro h
    exact hh (show 0 ≤ (n : Int) ∧ (n : Int) < l.length ∧ l.getD (n : Int).toNat 0 ≠ 0 from ⟨by omega, by omega, by simpa using h⟩)
  obtain ⟨g, o, rfl, hgl, hc⟩ := hl.at hn
  have : l[n] = 0 := by rw [← hg, List.getD_eq_getElem?_getD, List.getElem?_eq_getElem hn]; rfl
  rw [this] at hc
  have s0 : (0 : Int) ≤ (n : Int) := by omega
  have s1 : (n : Int) < (l.length : Int) := by omega
  clear hl hh hI hg this h0 h1
  go_enter Try.func27, Try.ntmps27
  go_wp2
  go_ret
  exact ⟨rfl, rfl⟩

set_option maxRecDepth 100000 in
set_option maxHeartbeats 1000000 in
theorem rlay_in {l : List Int} {s : Int} {w0 wr : World} {b1 b2 X N Y M bt : Nat} (hT : RT w0 bt l) (hok : ∀ x ∈ l, 0 ≤ x ∧ x ≤ 15) (hP : Pair w0 wr b1 b2 X N Y M) (hN : M ≤ 100000) (hh : has l s) :
    Calls Try.prog 27 #[.pointer (some ⟨bt, 0, none⟩), .pointer (some ⟨b2, 0, none⟩), .int .i64 s] wr fun e w' => e = .returned (.int .i64 0) ∧ Pair w0 w' b1 b2 X N (layS l s Y M).1 (layS l s Y M).2 := by
  have he : layS l s Y M = layG ((codes l).getD s.toNat 0) (l.getD s.toNat 0).toNat Y M := if_pos hh
  rw [he]; clear he
  obtain ⟨h0, h1, h2⟩ : 0 ≤ s ∧ s < l.length ∧ l.getD s.toNat 0 ≠ 0 := hh
  obtain ⟨n, rfl⟩ : ∃ n : Nat, s = n := ⟨s.toNat, by omega⟩
  have hn : n < l.length := by omega
  rw [Int.toNat_natCast] at h2 ⊢
  have hg : l.getD n 0 = l[n] := getD_get hn
  have hcl : (codes l).length = l.length := by unfold codes; exact length_cds _ _
  have hg2 : (codes l).getD n 0 = (codes l)[n]'(by omega) := getD_get _
  have hx := hok _ (List.getElem_mem hn)
  rw [← hg] at hx
  obtain ⟨L, hL⟩ : ∃ L : Nat, l.getD n 0 = (L : Int) := ⟨(l.getD n 0).toNat, by omega⟩
  have hT' := hT
  obtain ⟨Al, cl, Ac, cc, hI, hl, hcs⟩ := hT'
  obtain ⟨g, o, rfl, hgl, hc⟩ := hl.at hn
  obtain ⟨g2, o2, rfl, hgl2, hc2⟩ := hcs.at hn
  rw [← hg, hL] at hc
  rw [← hg2] at hc2
  rw [hL] at hx h2 ⊢
  rw [Int.toNat_natCast]
  generalize (codes l).getD n 0 = c at *
  have hL1 : 1 ≤ L := by omega
  have hL15 : L ≤ 15 := by omega
  have s0 : (0 : Int) ≤ (n : Int) := by omega
  have s1 : (n : Int) < (l.length : Int) := by omega
  have old : ∀ W : World, But [] w0 W → W.cell? ⟨bt, 0, none⟩ = some (.slice (some ⟨g, o, none⟩) l.length cl) ∧ W.cell? ⟨bt, 1, none⟩ = some (.slice (some ⟨g2, o2, none⟩) l.length cc) ∧ W.cell? ⟨g, o + n, none⟩ = some (.int .i64 (L : Nat)) ∧ W.cell? ⟨g2, o2 + n, none⟩ = some (.int .i64 c) :=
    fun W hB => ⟨(hI.but hB (by simp)).cell 0, (hI.but hB (by simp)).cell 1, hB.cell hc (by simp), hB.cell hc2 (by simp)⟩
  have OLD := Lib.hid old
  obtain ⟨c0, c1, c2, c3⟩ := OLD.out _ hP.old
  clear old hc hc2 hl hcs hI hg hg2 hL hcl hT hok h0 h1 h2 hx
  have HP := Lib.hid hP
  have hz : ((L : Int) == 0) = false := by simp; omega
  have hz1 : decide ((n : Int) < 0) = false := by simp; try omega
  have hz2 : decide (l.length ≤ n) = false := by simp; omega
  clear hP
  go_enter Try.func27, Try.ntmps27
  go_wp2
  clear c0 c1 c2 c3
  go_loopw [7] (fun iv w1 => ∃ k X' N' : Nat, k ≤ L ∧ iv = .int .i64 ((k : Int) - 1) ∧ layG c k X' N' = layG c L Y M ∧ N' + k = M + L ∧ Pair w0 w1 b1 b2 X N X' N') (fun iv _ => ((intOf iv) + 1).toNat)
  case atStart => exact ⟨L, Y, M, Nat.le_refl _, rfl, rfl, rfl, HP.out⟩
  case round =>
    obtain ⟨k, X', N', hk, rfl, hG, hNk, hP⟩ := hrel
    clear HP
    obtain ⟨c0, c1, c2, c3⟩ := OLD.out _ hP.old
    have HP := Lib.hid hP
    have HG := Lib.hid hG
    have HNK := Lib.hid hNk
    clear hP hG hNk
    cases k with
    | zero =>
      go_wp2
      go_ret
      refine ⟨rfl, ?_⟩
      have := HG.out
      rw [← this]
      exact HP.out
    | succ k =>
      have hk1 : ((k + 1 : Nat) : Int) - 1 = (k : Int) := by omega
      rw [hk1]
      have hN' : N' ≤ 140737488355328 := by have := HNK.out; omega
      clear hk1
      go_wp2_with fail
      refine (HP.out.bits2 hN' (c / 2 ^ k) 1).mono ?_
      rintro e w2 ⟨rfl, hP2⟩
      have HP2 := Lib.hid hP2
      clear hP2 c0 c1 c2 c3
      go_wp2
      go_roundw
      case rel =>
        refine ⟨k, _, _, by omega, rfl, ?_, ?_, HP2.out⟩
        · have := HG.out; rw [layG] at this; exact this
        · have := HNK.out; rw [layN_one]; omega
      case measure => simp [intOf]

end Go.Proofs.Ytmafcmfafcjokaa
