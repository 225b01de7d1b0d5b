/- Several texts in one: SortX, StableA, CoinsM, CoinsW, Pairs, RowsOf (what Unwraps, Wraps reach of them). -/
import Derived.Test.YtghegmbafbpnjaaGreatDoorPm01
import Derived.Test.YtghegmbafbpnjaaGreatDoorPm02
import Derived.Test.YtghegmbafbpnjaaGreatDoorPm03
import Derived.Test.YtghegmbafbpnjaaGreatDoorPm04
import Derived.Test.YtghegmbafbpnjaaGreatDoorPm05
import Derived.Below
import Derived.BigQuiet
import Derived.BigRegion
import Derived.Deep.AppendLies
import Derived.Deep.CutRange
import Derived.Deep.DeepCutAuto
import Derived.Deep.Draws
import Derived.Deep.QuietTactic
import Derived.Deep.RegionLaw
import Derived.Deep.Slices
import Derived.Laws.BitsAllLaws
import Derived.Laws.BitsLemmas
import Derived.Laws.IdiomStrings
import Derived.Laws.OwnMore
import Derived.Laws.Rows
import Derived.Lib.AppendStr
import Derived.Lib.Hide
import Derived.Lib.Strings
import Derived.OneCell
import Derived.OpenShut
import Derived.Outline
import Derived.OwnWalk
import Derived.ProofKit
import Derived.RegionTactic
import Derived.Shelf.SlSortCmp.QuietGrown
import Derived.StillTailTactics
import Derived.Test.YtghegmbafbpnjaaGreatDoorChecked
import Derived.WalkKit
import Derived.WalkLawsBesides
import Derived.WalkSpells
set_option maxRecDepth 100000
set_option linter.unusedVariables false
namespace Go.Proofs.YtghegmbafbpnjaaGreatDoor
set_option maxRecDepth 100000
open Go Go.RowKit
theorem But.grow {S : List Nat} {w W : World} (h : But S w W) (n : Nat) (os : Array Obj) : But S w (Sort.grow (W.drewN n) os) :=
  h.trans ⟨rfl, rfl, rfl, by simp [Sort.grow], fun k hk _ => Sort.heap_grow_old (W.drewN n) os hk⟩
theorem CL.grow {W : World} {b o : Nat} {d : List (Nat × Nat)} (h : CL W b o d) (hb : b < W.heap.size) (n : Nat) (os : Array Obj) : CL (Sort.grow (W.drewN n) os) b o d := h.heap (Sort.heap_grow_old (W.drewN n) os hb)
theorem getD_at {d : List (Nat × Nat)} {A B : List (Nat × Nat)} {x : Nat × Nat} {i : Nat} (h : d = A ++ x :: B) (hi : i = A.length) : d.getD i (0, 0) = x := by
  subst h hi; simp [List.getD_eq_getElem?_getD]
theorem CL.get {W : World} {b o i : Nat} {d : List (Nat × Nat)} {x : Nat × Nat} (h : CL W b o d) (hi : i < d.length) (hx : d.getD i (0, 0) = x) :
    W.cell? ⟨b, o + i * 2, none⟩ = some (.int .i64 x.1) ∧ W.cell? ⟨b, o + i * 2 + 1, none⟩ = some (.int .i64 x.2) ∧ W.frozen? ⟨b, o + i * 2, none⟩ = false ∧ W.frozen? ⟨b, o + i * 2 + 1, none⟩ = false := by
  have e : d[i] = x := by rw [← hx, List.getD_eq_getElem?_getD, List.getElem?_eq_getElem hi]; rfl
  rw [← e]; exact h i hi
theorem cmp_neg {x y : Int} (h : x < y) : cmpOf x y < 0 := by unfold cmpOf; rw [if_pos h]; decide
theorem cmp_not {x y : Int} (h : ¬ x < y) : ¬ cmpOf x y < 0 := by unfold cmpOf; rw [if_neg h]; split <;> decide
theorem srt_insert {S1 S2 : List (Nat × Nat)} {x : Nat × Nat} (h : Srt (S1 ++ S2)) (h1 : ∀ y, S1.getLast? = some y → lx y x) (h2 : ∀ y ∈ S2, lx x y) : Srt (S1 ++ x :: S2) := by
  have hs := List.pairwise_append.1 h
  refine List.pairwise_append.2 ⟨hs.1, List.pairwise_cons.2 ⟨h2, hs.2.1⟩, fun a ha b hb => ?_⟩
  rcases List.mem_cons.1 hb with rfl | hb
  · rcases List.eq_nil_or_concat S1 with e | ⟨q, s, e⟩
    · subst e; cases ha
    · rw [List.concat_eq_append] at e
      subst e
      have hl := h1 s (by simp)
      rcases List.mem_append.1 ha with h3 | h3
      · exact lx_trans ((List.pairwise_append.1 hs.1).2.2 a h3 s (by simp)) hl
      · have : a = s := by simpa using h3
        subst this; exact hl
  · exact hs.2.2 a ha b hb

set_option maxRecDepth 100000 in
set_option maxHeartbeats 2000000 in
theorem insertion_any {w : World} {g o n cap a b : Nat} {A X B : List (Nat × Nat)} (hd : CL w g o (A ++ X ++ B)) (hdl : (A ++ X ++ B).length = n) (hn : n ≤ 1000) (hgl : g < w.heap.size)
    (ha : a = A.length) (hb : b = A.length + X.length) (hX : X.Pairwise fun x y => x.1 < y.1) :
    Calls Tryz.prog 130 #[.slice (some ⟨g, o, none⟩) n cap, .int .i64 a, .int .i64 b, .func (.func 119) #[] #[]] w fun e w' => e = .returned (.tuple #[]) ∧ (∃ S, Srt S ∧ S.Perm X ∧ CL w' g o (A ++ S ++ B)) ∧ But [g] w w' := by
  have mixed : Tryz.prog.follows .mixedOrders = true := by kernel_rfl
  have hbn : b ≤ n := by simp at hdl; omega
  have hab : a ≤ b := by omega
  have HA := Lib.hid ha
  have HBX := Lib.hid hb
  have HDL := Lib.hid hdl
  clear ha hb hdl
  by_cases hX0 : X = []
  · subst hX0
    go_enter Tryz.func130, Tryz.ntmps130
    go_wp2
    go_loopw [8] (fun iv wr => iv = .int .i64 ((a : Int) + 1) ∧ wr = w) (fun _ _ => 0)
    case atStart => exact ⟨rfl, rfl⟩
    case round =>
      obtain ⟨rfl, rfl⟩ := hrel
      have hlt : ¬ (a : Int) + 1 < (b : Int) := by have h1 := HA.out; have h2 := HBX.out; simp only [List.length_nil] at h2; omega
      go_wp2
      go_end0
      exact ⟨rfl, ⟨[], List.Pairwise.nil, rfl, by simpa using hd⟩, But.refl _ _⟩
  obtain ⟨x0, X0, rfl⟩ : ∃ x0 X0, X = x0 :: X0 := by
    cases X with
    | nil => exact absurd rfl hX0
    | cons x X => exact ⟨x, X, rfl⟩
  go_enter Tryz.func130, Tryz.ntmps130
  go_wp2
  go_loopw [8] (fun iv wr => ∃ (i : Nat) (S R : List (Nat × Nat)), iv = .int .i64 ((i : Int) + 1) ∧ a ≤ i ∧ i + 1 ≤ b ∧ A.length + S.length = i + 1 ∧ Srt S ∧ (S ++ R).Perm (x0 :: X0) ∧ R.Pairwise (fun x y => x.1 < y.1) ∧ Crs S R ∧ CL wr g o (A ++ S ++ R ++ B) ∧ (A ++ S ++ R ++ B).length = n ∧ But [g] w wr) (fun iv _ => b - (intOf iv).toNat)
  case atStart =>
    refine ⟨a, [x0], X0, rfl, Nat.le_refl _, by have := HBX.out; have := HA.out; simp at *; omega, by have := HA.out; simp; omega, List.pairwise_singleton _ _, List.Perm.refl _, (List.pairwise_cons.1 hX).2, fun s hs y hy => ?_, by simpa using hd, by have := HDL.out; simp at *; omega, But.refl _ _⟩
    have : s = x0 := by simpa using hs
    subst this
    exact (List.pairwise_cons.1 hX).1 y hy
  case round =>
    obtain ⟨i, S, R, rfl, hai, hib, hSl, hS, hp, hR, hcr, hd', hL, hB⟩ := hrel
    clear hd hX hX0
    by_cases hlt : i + 1 < b
    · have hRne : 0 < R.length := by
        have h1 := hp.length_eq
        have h2 := HBX.out
        rw [List.length_append] at h1
        omega
      obtain ⟨x, R, rfl⟩ : ∃ x R', R = x :: R' := by
        cases R with
        | nil => simp at hRne
        | cons x R' => exact ⟨x, R', rfl⟩
      have hlt2 : (i : Int) + 1 < (b : Int) := by omega
      have hRt := (List.pairwise_cons.1 hR)
      obtain ⟨wo, rfl⟩ : ∃ wo : World, wo = wr := ⟨_, rfl⟩
      go_wp2
      go_loopw [9] (fun jv wr => ∃ (j : Nat) (S1 S2 : List (Nat × Nat)), jv = .int .i64 j ∧ a ≤ j ∧ A.length + S1.length = j ∧ S1 ++ S2 = S ∧ (∀ y ∈ S2, lx x y) ∧ CL wr g o (A ++ S1 ++ x :: S2 ++ R ++ B) ∧ But [g] w wr) (fun jv _ => (intOf jv).toNat)
      case atStart => exact ⟨i + 1, S, [], by go_num, by omega, hSl, by simp, by simp, by simpa using hd', hB⟩
      case round =>
        clear hd' hB
        obtain ⟨j, S1, S2, rfl, haj, hjl, hSe, h2, hdj, hBj⟩ := hrel
        have hgj : g < wr.heap.size := Nat.lt_of_lt_of_le hgl hBj.size
        have hLj : (A ++ S1 ++ x :: S2 ++ R ++ B).length = n := by
          rw [← hL, ← hSe]; simp; omega
        have hout : ∀ (W : World), CL W g o (A ++ S1 ++ x :: S2 ++ R ++ B) → But [g] w W → (∀ y, S1.getLast? = some y → lx y x) →
            ∃ (i' : Nat) (S R' : List (Nat × Nat)), Value.int .i64 ((i : Int) + 1 + 1) = .int .i64 ((i' : Int) + 1) ∧ a ≤ i' ∧ i' + 1 ≤ b ∧ A.length + S.length = i' + 1 ∧ Srt S ∧ (S ++ R').Perm (x0 :: X0) ∧ R'.Pairwise (fun x y => x.1 < y.1) ∧ Crs S R' ∧ CL W g o (A ++ S ++ R' ++ B) ∧ (A ++ S ++ R' ++ B).length = n ∧ But [g] w W := fun W hW hBW hl => by
          refine ⟨i + 1, S1 ++ x :: S2, R, by go_num, by omega, by omega, by rw [← hSe] at hSl; simp at hSl ⊢; omega, srt_insert (by rw [hSe]; exact hS) hl h2, ?_, hRt.2, ?_, by simpa using hW, by simpa using hLj, hBW⟩
          · refine List.Perm.trans ?_ hp
            rw [← hSe]
            have : (S1 ++ x :: S2).Perm (S1 ++ S2 ++ [x]) := by
              rw [List.append_assoc]
              exact List.Perm.append_left S1 (List.perm_append_singleton x S2).symm
            have h := this.append_right R
            simpa using h
          · intro s hs y hy
            rcases List.mem_append.1 hs with h | h
            · exact hcr s (by rw [← hSe]; exact List.mem_append_left _ h) y (List.mem_cons_of_mem _ hy)
            · rcases List.mem_cons.1 h with rfl | h
              · exact hRt.1 y hy
              · exact hcr s (by rw [← hSe]; exact List.mem_append_right _ h) y (List.mem_cons_of_mem _ hy)
        have HOUT := Lib.hid hout
        clear hout
        rcases List.eq_nil_or_concat S1 with e | ⟨S1, y, e⟩
        · subst e
          have hja : j = a := by have := HA.out; simp at hjl; omega
          have hg1 : decide ((a : Int) < (j : Int)) = false := by simp; omega
          have hg2 : decide (a < j) = false := by simp; omega
          have HD := Lib.hid hdj
          have HBJ := Lib.hid hBj
          clear hdj hBj hja haj hjl
          go_wp2
          go_quiet (fail)
          go_wp2
          go_roundw
          case rel => exact HOUT.out _ (HD.out.heap rfl) (HBJ.out.drewN _) (by simp)
          case measure => simp [intOf]; omega
        · rw [List.concat_eq_append] at e
          subst e
          obtain ⟨jp, rfl⟩ : ∃ jp, j = jp + 1 := ⟨j - 1, by simp at hjl; omega⟩
          have hjl2 : A.length + S1.length = jp := by simp at hjl; omega
          have hja : a ≤ jp := by have := HA.out; omega
          have hjn : jp + 1 < n := by simp at hLj; omega
          have hx := getD_at (d := A ++ (S1 ++ [y]) ++ x :: S2 ++ R ++ B) (A := A ++ (S1 ++ [y])) (x := x) (B := S2 ++ R ++ B) (i := jp + 1) (by simp) (by simp; omega)
          have hy := getD_at (d := A ++ (S1 ++ [y]) ++ x :: S2 ++ R ++ B) (A := A ++ S1) (x := y) (B := x :: S2 ++ R ++ B) (i := jp) (by simp) (by simp; omega)
          have hgx : ∀ n' os, _ := fun n' os => (hdj.grow hgj n' os).get (i := jp + 1) (by omega) hx
          have hgy : ∀ n' os, _ := fun n' os => (hdj.grow hgj n' os).get (i := jp) (by omega) hy
          have x0' := fun n' os => (hgx n' os).1
          have x1' := fun n' os => (hgx n' os).2.1
          have y0' := fun n' os => (hgy n' os).1
          have y1' := fun n' os => (hgy n' os).2.1
          have hcg := fun n' os => cmp_coins x.1 x.2 y.1 y.2 (Sort.grow (wr.drewN n') os)
          have hg1 : decide ((a : Int) < ((jp : Int) + 1)) = true := by simp; omega
          have hwp : IntKind.i64.wrap (jp : Int) = (jp : Int) := by rw [IntKind.wrap_i64]; omega
          have jz : (jp : Int) + 1 < (n : Int) := by omega
          have jz1 : (jp : Int) < (n : Int) := by omega
          have hjaz' : (a : Int) < (jp : Int) + 1 := by omega
          have p0 : (0 : Int) ≤ (jp : Int) + 1 := by omega
          have p1 : (0 : Int) ≤ (jp : Int) := by omega
          have e0 : ((jp : Int) + 1).toNat = jp + 1 := by omega
          have H2 := Lib.hid h2
          have HX := Lib.hid hx
          have HY := Lib.hid hy
          have HD := Lib.hid hdj
          have HBJ := Lib.hid hBj
          have HSE := Lib.hid hSe
          have HLJ := Lib.hid hLj
          clear hx hy hdj hBj hgx hgy hSe hjl hja hLj
          by_cases hlv : (x.2 : Int) < (y.2 : Int)
          · have hcv := cmp_neg hlv
            generalize cmpOf (x.2 : Int) (y.2 : Int) = cv at *
            go_wp2_with fail
            go_quiet_grown (first | (go_at_call 119; refine Calls.grown_of (hcg _ _)))
            have hdq := HD.out.grow hgj nq osq
            have hbq := HBJ.out.grow nq osq
            clear x0' x1' y0' y1' hcg
            generalize Sort.grow (wr.drewN nq) osq = wq at hdq hbq ⊢
            obtain ⟨x0', x1', x2', x3'⟩ := hdq.get (i := jp + 1) (by have := HLJ.out; omega) HX.out
            obtain ⟨y0', y1', y2', y3'⟩ := hdq.get (i := jp) (by have := HLJ.out; omega) HY.out
            obtain ⟨xs, xc⟩ := x
            obtain ⟨ys, yc⟩ := y
            dsimp only at x0' x1' y0' y1' hlv
            have HQ := Lib.hid hdq
            have HBQ := Lib.hid hbq
            have HLV := Lib.hid hlv
            clear hdq hbq hlv hcv h2 hcr hRt hR hp hS
            go_wp2
            go_region
            go_wp2
            go_roundw
            case rel =>
              refine ⟨jp, S1, (ys, yc) :: S2, rfl, by omega, hjl2, by rw [← HSE.out]; simp, ?_, ?_, (HBQ.out.swap _ _ _ _).drew⟩
              · intro z hz
                rcases List.mem_cons.1 hz with rfl | hz
                · exact .inl (by have := HLV.out; show xc < yc; omega)
                · exact H2.out z hz
              · have e : sw (A ++ (S1 ++ [(ys, yc)]) ++ (xs, xc) :: S2 ++ R ++ B) (jp + 1) jp = A ++ S1 ++ (xs, xc) :: (ys, yc) :: S2 ++ R ++ B := by
                  rw [sw_comm _ _ _ (by omega)]
                  have := sw_next (A ++ S1) (S2 ++ R ++ B) (ys, yc) (xs, xc) jp (jp + 1) (by simp; omega) rfl
                  simpa using this
                rw [← e]
                exact (HQ.out.swap (by have := HLJ.out; omega) (by have := HLJ.out; omega) (by omega) HX.out HY.out).heap rfl
            case measure => simp [intOf]; try omega
          · have hcv := cmp_not hlv
            generalize cmpOf (x.2 : Int) (y.2 : Int) = cv at *
            go_wp2_with fail
            go_quiet_grown (first | (go_at_call 119; refine Calls.grown_of (hcg _ _)))
            go_wp2
            go_roundw
            case rel =>
              refine HOUT.out _ (HD.out.grow hgj nq osq) (HBJ.out.grow nq osq) ?_
              intro z hz
              have : y = z := by simpa using hz
              subst this
              have hy1 := hcr y (by rw [← HSE.out]; simp) x (by simp)
              unfold lx
              omega
            case measure => simp [intOf]; omega
    · obtain rfl : i + 1 = b := by omega
      have hRe : R = [] := by
        have h1 := hp.length_eq
        have h2 := HBX.out
        rw [List.length_append] at h1
        exact List.eq_nil_of_length_eq_zero (by omega)
      subst hRe
      go_wp2
      go_end0
      exact ⟨rfl, ⟨S, hS, by simpa using hp, by simpa using hd'⟩, hB⟩
end Go.Proofs.YtghegmbafbpnjaaGreatDoor
namespace Go.Proofs.YtghegmbafbpnjaaGreatDoor
set_option maxRecDepth 100000
open Go Go.RowKit
/-- The library's stable sort sorts so many coins and fewer. -/
def SortsUpTo (N : Nat) : Prop := ∀ (w : World) (g o n cap : Nat) (d : List (Nat × Nat)), CL w g o d → d.length = n → n ≤ N → g < w.heap.size → (d.Pairwise fun x y => x.1 < y.1) →
  Calls Tryz.prog 118 #[.slice (some ⟨g, o, none⟩) n cap, .func (.func 119) #[] #[]] w fun e w' => e = .returned (.tuple #[]) ∧ (∃ S, Srt S ∧ S.Perm d ∧ CL w' g o S) ∧ But [g] w w'

set_option maxHeartbeats 1000000 in
theorem sorts_of {N : Nat} (h : ∀ {w : World} {g o n cap : Nat} {d : List (Nat × Nat)}, CL w g o d → d.length = n → n ≤ N → g < w.heap.size → (d.Pairwise fun x y => x.1 < y.1) →
    Calls Tryz.prog 127 #[.slice (some ⟨g, o, none⟩) n cap, .int .i64 n, .func (.func 119) #[] #[]] w fun e w' => e = .returned (.tuple #[]) ∧ (∃ S, Srt S ∧ S.Perm d ∧ CL w' g o S) ∧ But [g] w w') : SortsUpTo N := by
  intro w g o n cap d hd hdl hn hgl hs
  have HI := Lib.hid (h (cap := cap) hd hdl hn hgl hs)
  clear hd hdl
  go_enter Tryz.func118, Tryz.ntmps118
  go_wp2_with fail
  refine HI.out.mono ?_
  rintro e w' ⟨rfl, hS, hB⟩
  go_wp2
  go_end0
  exact ⟨rfl, hS, hB⟩
set_option maxHeartbeats 1000000 in
set_option maxRecDepth 100000 in
theorem insertion_nil (w : World) (A : Option Addr) (cap : Nat) (f : Value) : Calls Tryz.prog 130 #[.slice A 0 cap, .int .i64 0, .int .i64 0, f] w fun e w' => e = .returned (.tuple #[]) ∧ w = w' := by
  go_enter Tryz.func130, Tryz.ntmps130
  go_wp2
  go_loopw [8] (fun iv wr => iv = .int .i64 1 ∧ wr = w) (fun _ _ => 0)
  case atStart => exact ⟨rfl, rfl⟩
  case round =>
    obtain ⟨rfl, rfl⟩ := hrel
    go_wp2
    go_end0
    exact ⟨rfl, rfl⟩
set_option maxHeartbeats 1000000 in
set_option maxRecDepth 100000 in
theorem stable_nil (w : World) (A : Option Addr) (cap : Nat) (f : Value) : Calls Tryz.prog 127 #[.slice A 0 cap, .int .i64 0, f] w fun e w' => e = .returned (.tuple #[]) ∧ w = w' := by
  go_enter Tryz.func127, Tryz.ntmps127
  go_wp2
  go_loopw [7, 8] (fun av bv wr => av = .int .i64 0 ∧ bv = .int .i64 20 ∧ wr = w) (fun _ _ _ => 0)
  case atStart => exact ⟨rfl, rfl, rfl⟩
  case round =>
    obtain ⟨rfl, rfl, rfl⟩ := hrel
    go_wp2_with fail
    refine (insertion_nil _ _ _ _).mono ?_
    rintro e w' ⟨rfl, rfl⟩
    obtain ⟨w9, hw9⟩ : ∃ w9 : World, wr = w9 := ⟨_, rfl⟩
    subst hw9
    go_wp2
    go_loopw [6] (fun bv w2 => bv = .int .i64 20 ∧ w2 = wr) (fun _ _ => 0)
    case atStart => exact ⟨rfl, rfl⟩
    case round =>
      obtain ⟨rfl, rfl⟩ := hrel
      go_wp2
      go_end0
      exact ⟨rfl, rfl⟩
set_option maxHeartbeats 1000000 in
theorem sort_nil (w : World) (A : Option Addr) (cap : Nat) (f : Value) : Calls Tryz.prog 118 #[.slice A 0 cap, f] w fun e w' => e = .returned (.tuple #[]) ∧ w = w' := by
  go_enter Tryz.func118, Tryz.ntmps118
  go_wp2_with (go_at_call 127; refine (stable_nil _ _ _ _).mono ?_; rintro e w' ⟨rfl, rfl⟩)
  go_end0
  exact ⟨rfl, rfl⟩
end Go.Proofs.YtghegmbafbpnjaaGreatDoor
namespace Go.Proofs.YtghegmbafbpnjaaGreatDoor
set_option maxRecDepth 100000
/-- The coins of the symbols below k, in the order of the symbols. -/
def coins0 (l : List Int) : Nat → List (Nat × Nat)
  | 0 => []
  | k + 1 => if 0 < l.getD k 0 then coins0 l k ++ [(k, (l.getD k 0).toNat)] else coins0 l k
/-- Where a coin goes: behind all that are no more. -/
def spot (c : Nat) : List (Nat × Nat) → Nat
  | [] => 0
  | x :: cs => if x.2 ≤ c then spot c cs + 1 else 0
def ins (cs : List (Nat × Nat)) (c : Nat × Nat) : List (Nat × Nat) := cs.take (spot c.2 cs) ++ c :: cs.drop (spot c.2 cs)
/-- The coins of the symbols below k, sorted. -/
def csOf (l : List Int) : Nat → List (Nat × Nat)
  | 0 => []
  | k + 1 => if 0 < l.getD k 0 then ins (csOf l k) (k, (l.getD k 0).toNat) else csOf l k
theorem mem_coins0 {l : List Int} {x : Nat × Nat} : ∀ {k : Nat}, x ∈ coins0 l k ↔ x.1 < k ∧ 0 < l.getD x.1 0 ∧ x.2 = (l.getD x.1 0).toNat
  | 0 => by simp [coins0]
  | k + 1 => by
    rw [coins0]
    split
    · rename_i h
      rw [List.mem_append, mem_coins0, List.mem_singleton]
      constructor
      · rintro (⟨h1, h2, h3⟩ | rfl)
        · exact ⟨by omega, h2, h3⟩
        · exact ⟨by simp, h, rfl⟩
      · rintro ⟨h1, h2, h3⟩
        by_cases e : x.1 = k
        · right; cases x; simp at e h3 ⊢; subst e; exact ⟨rfl, h3⟩
        · left; exact ⟨by omega, h2, h3⟩
    · rename_i h
      rw [mem_coins0]
      constructor
      · rintro ⟨h1, h2, h3⟩; exact ⟨by omega, h2, h3⟩
      · rintro ⟨h1, h2, h3⟩
        refine ⟨?_, h2, h3⟩
        have : x.1 ≠ k := fun e => h (by rw [← e]; exact h2)
        omega
theorem coins0_asc (l : List Int) : ∀ k, (coins0 l k).Pairwise fun x y => x.1 < y.1
  | 0 => List.Pairwise.nil
  | k + 1 => by
    rw [coins0]; split
    · refine List.pairwise_append.2 ⟨coins0_asc l k, List.pairwise_singleton _ _, fun a ha b hb => ?_⟩
      have h1 := (mem_coins0.1 ha).1
      have : b = (k, (l.getD k 0).toNat) := by simpa using hb
      subst this; exact h1
    · exact coins0_asc l k
theorem length_coins0 (l : List Int) : ∀ k, (coins0 l k).length ≤ k
  | 0 => Nat.le_refl _
  | k + 1 => by rw [coins0]; have := length_coins0 l k; split <;> simp <;> omega
theorem spot_before (c : Nat) : ∀ (cs : List (Nat × Nat)) (i : Nat) (h : i < cs.length), i < spot c cs → cs[i].2 ≤ c
  | x :: cs, i, h, hi => by
    rw [spot] at hi
    split at hi
    · rename_i hx
      cases i with
      | zero => exact hx
      | succ i => exact spot_before c cs i (by simpa using h) (by omega)
    · omega
theorem spot_at (c : Nat) : ∀ (cs : List (Nat × Nat)) (h : spot c cs < cs.length), c < cs[spot c cs].2
  | x :: cs, h => by
    by_cases hx : x.2 ≤ c
    · have e : spot c (x :: cs) = spot c cs + 1 := by rw [spot, if_pos hx]
      simp only [e] at h ⊢
      simpa using spot_at c cs (by simpa using h)
    · have e : spot c (x :: cs) = 0 := by rw [spot, if_neg hx]
      simp only [e] at h ⊢
      simp; omega
theorem ins_perm (cs : List (Nat × Nat)) (c : Nat × Nat) : (ins cs c).Perm (cs ++ [c]) := by
  unfold ins
  have h := List.take_append_drop (spot c.2 cs) cs
  conv => rhs; rw [← h]
  rw [List.append_assoc]
  exact List.Perm.append_left _ (List.perm_append_singleton c _).symm
theorem ins_srt {cs : List (Nat × Nat)} {c : Nat × Nat} (h : Srt cs) (hc : ∀ x ∈ cs, x.1 < c.1) : Srt (ins cs c) := by
  unfold ins
  have hs : Srt (cs.take (spot c.2 cs) ++ cs.drop (spot c.2 cs)) := by rw [List.take_append_drop]; exact h
  have hp := List.pairwise_append.1 hs
  refine List.pairwise_append.2 ⟨hp.1, List.pairwise_cons.2 ⟨fun y hy => ?_, hp.2.1⟩, fun a ha b hb => ?_⟩
  · -- what stands behind is more
    have hlt : spot c.2 cs < cs.length := by
      apply Classical.byContradiction; intro hn
      rw [List.drop_of_length_le (by omega)] at hy; cases hy
    have hat := spot_at c.2 cs hlt
    rw [List.drop_eq_getElem_cons hlt] at hy
    rcases List.mem_cons.1 hy with rfl | hy
    · exact .inl hat
    · have h2 := hp.2.1
      rw [List.drop_eq_getElem_cons hlt] at h2
      have h3 := (List.pairwise_cons.1 h2).1 y hy
      left
      unfold lx at h3
      omega
  · rcases List.mem_cons.1 hb with rfl | hb
    · obtain ⟨i, hi, rfl⟩ := List.mem_take_iff_getElem.1 ha
      have h1 := spot_before b.2 cs i (by omega) (by omega)
      have h2 := hc _ (List.getElem_mem (show i < cs.length by omega))
      unfold lx; omega
    · exact hp.2.2 a ha b hb
theorem csOf_ok (l : List Int) : ∀ k, Srt (csOf l k) ∧ (csOf l k).Perm (coins0 l k)
  | 0 => ⟨List.Pairwise.nil, List.Perm.refl _⟩
  | k + 1 => by
    obtain ⟨h1, h2⟩ := csOf_ok l k
    rw [csOf, coins0]
    split
    · refine ⟨ins_srt h1 (fun x hx => (mem_coins0.1 (h2.mem_iff.1 hx)).1), (ins_perm _ _).trans (h2.append_right _)⟩
    · exact ⟨h1, h2⟩
theorem csOf_eq {l : List Int} {k : Nat} {S : List (Nat × Nat)} (h : Srt S) (hp : S.Perm (coins0 l k)) : S = csOf l k :=
  h.unique (csOf_ok l k).1 (hp.trans (csOf_ok l k).2.symm)
theorem mem_csOf {l : List Int} {x : Nat × Nat} {k : Nat} : x ∈ csOf l k ↔ x.1 < k ∧ 0 < l.getD x.1 0 ∧ x.2 = (l.getD x.1 0).toNat := by
  rw [(csOf_ok l k).2.mem_iff, mem_coins0]
theorem length_csOf (l : List Int) (k : Nat) : (csOf l k).length = (coins0 l k).length := (csOf_ok l k).2.length_eq
end Go.Proofs.YtghegmbafbpnjaaGreatDoor
namespace Go.Proofs.YtghegmbafbpnjaaGreatDoor
set_option maxRecDepth 100000
open Go Go.RowKit
def coinCells (r : List (Nat × Nat)) : List Value := r.flatMap fun x => [.int .i64 x.1, .int .i64 x.2]
theorem coinCells_snoc (r : List (Nat × Nat)) (x : Nat × Nat) : coinCells (r ++ [x]) = coinCells r ++ [.int .i64 x.1, .int .i64 x.2] := by simp [coinCells]
theorem coinCells_at : ∀ (r : List (Nat × Nat)) (i : Nat) (h : i < r.length), (coinCells r)[i * 2]? = some (.int .i64 r[i].1) ∧ (coinCells r)[i * 2 + 1]? = some (.int .i64 r[i].2)
  | x :: r, 0, _ => by simp [coinCells]
  | x :: r, i + 1, h => by
    have := coinCells_at r i (by simpa using h)
    have e : coinCells (x :: r) = .int .i64 x.1 :: .int .i64 x.2 :: coinCells r := by simp [coinCells]
    rw [e, show (i + 1) * 2 = i * 2 + 1 + 1 from by omega]
    simpa using this
def OwnC (w : World) (base : Nat) (v : Value) (r : List (Nat × Nat)) : Prop := w.ownsRow base 148 2 v r.length (coinCells r)
theorem info_coin : (Tryz.prog.info? 148).map (fun i => (i.zero, i.size, i.bytes)) = some (some (.agg #[.int .i64 0, .int .i64 0]), 2, 16) := by kernel_rfl
theorem OwnC.cl {w : World} {base g n c : Nat} {r : List (Nat × Nat)} (h : OwnC w base (.slice (some ⟨g, 0, none⟩) n c) r) : n = r.length ∧ CL w g 0 r := by
  have hn : n = r.length := by
    unfold OwnC at h
    rcases h.2 with ⟨e, _⟩ | ⟨g, cap, cur, e, _⟩
    · cases e
    · injection e
  subst hn
  refine ⟨rfl, fun i hi => ?_⟩
  obtain ⟨e1, e2⟩ := coinCells_at r i hi
  have h1 := World.ownsRow.cells h (g := g) rfl _ _ e1
  have h2 := World.ownsRow.cells h (g := g) rfl _ _ e2
  rw [Go.WideShapes.add_plain] at h1 h2
  exact ⟨h1, by rw [Nat.add_assoc]; exact h2, World.ownsRow.frozenAt h _, World.ownsRow.frozenAt h _⟩
theorem CL.coins {w : World} {g n : Nat} {r : List (Nat × Nat)} (h : CL w g 0 r) (hn : r.length = n) (hg : g < w.heap.size) : Coins w (some ⟨g, 0, none⟩) n r :=
  ⟨hn, fun _ => ⟨g, 0, rfl, hg, fun i hi => ⟨(h i hi).1, (h i hi).2.1⟩⟩⟩
theorem OwnC.pushed {w wr w' : World} {v v' : Value} {L : List (Nat × Nat)} {x y : Nat} (hB : But [] w wr) (hO : OwnC wr w.heap.size v L)
    (h1 : w'.ownsRow w.heap.size 148 2 v' (L.length + 1) (coinCells L ++ [.int .i64 x, .int .i64 y])) (hg : (wr.alloc (.cells #[.int .i64 x, .int .i64 y] 148)).grownBy w' v.ownBlock) :
    OwnC w' w.heap.size v' (L ++ [(x, y)]) ∧ But [] w w' := by
  refine ⟨?_, (hB.alloc _).grown hg (fun g e => .inr (hO.lt g e).1)⟩
  unfold OwnC
  rw [List.length_append, coinCells_snoc]
  exact h1
/-- The sorted coins, in a slice of the call's own. -/
def GotCoins (w : World) (l : List Int) (len : Nat) (e : Ending) (w' : World) : Prop :=
  ∃ A c, e = .returned (.slice A (csOf l len).length c) ∧ Coins w' A (csOf l len).length (csOf l len) ∧ (∀ a, A = some a → w.heap.size ≤ a.block) ∧ But [] w w'

set_option maxRecDepth 100000 in
set_option maxHeartbeats 1000000 in
theorem coinsOf_any {N : Nat} (hN : SortsUpTo N) {w : World} {A : Option Addr} {len cap : Nat} {l : List Int} (hl : Ints w A len l) (h288 : len ≤ 288) (hcN : (coins0 l len).length ≤ N) :
    Calls Tryz.prog 103 #[.slice A len cap] w (GotCoins w l len) := by
  obtain ⟨i0, hi0, hz0, hz1, hz2⟩ := info_parts info_coin
  have hlen := hl.1
  go_enter Tryz.func103, Tryz.ntmps103
  go_wp2
  go_loopw [3, 8] (fun v i wr => ∃ (k n' : Nat) (A' : Option Addr) (c' : Nat), k ≤ len ∧ i = .int .i64 k ∧ v = .slice A' n' c' ∧ n' = (coins0 l k).length ∧ OwnC wr w.heap.size (.slice A' n' c') (coins0 l k) ∧ But [] w wr) (fun _ i _ => len - (intOf i).toNat)
  case atStart => exact ⟨0, 0, none, 0, Nat.zero_le _, rfl, rfl, rfl, World.ownsRow_nil _ _ _ _, But.refl _ _⟩
  case round =>
    obtain ⟨k, n', A', c', hk, rfl, rfl, hn', hO, hB⟩ := hrel
    have HN' := Lib.hid hn'
    clear hn'
    by_cases hlt : k < len
    · obtain ⟨g, o, rfl, hg, hc⟩ := hl.at hlt
      replace hc := hB.cell hc (by simp)
      have hgd : l.getD k 0 = l[k]'(by omega) := by rw [List.getD_eq_getElem?_getD, List.getElem?_eq_getElem (by omega)]; rfl
      have hs : coins0 l (k + 1) = if 0 < l.getD k 0 then coins0 l k ++ [(k, (l.getD k 0).toNat)] else coins0 l k := rfl
      rw [← hgd] at hc
      have hcl := length_coins0 l k
      have HS := Lib.hid hs
      generalize l.getD k 0 = x at *
      clear hs hgd
      by_cases hx : 0 < x
      · obtain ⟨c, hcx⟩ := Int.eq_ofNat_of_zero_le (Int.le_of_lt hx)
        subst hcx
        have HS2 := Lib.hid (show coins0 l (k + 1) = coins0 l k ++ [(k, c)] by rw [HS.out, if_pos hx]; simp)
        have HO := Lib.hid hO
        have HB := Lib.hid hB
        have hsz := hB.size
        generalize hL : coins0 l k = L at *
        have HL := Lib.hid hL
        clear hL hO hB
        go_wp2_with (at_builtin; refine wpList_append_own _ rfl _ _ 145 rfl w.heap.size 148 i0 (.agg #[.int .i64 0, .int .i64 0]) 2 16 Tryz.underlying145 hi0 hz0 hz1 hz2 rfl (by decide) _ L.length (coinCells L) rfl (World.ownsRow.alloc HO.out _) ⟨wr.heap.size, 0, none⟩ 1 1 [.int .i64 (k : Int), .int .i64 (c : Int)] rfl rfl ?c1 ?c2 ?c3 ?c4 ?c5 ?_)
        case c1 => exact World.news_of_block (cs := #[.int .i64 (k : Int), .int .i64 (c : Int)]) (t := 148) (fr := (0, 0)) (heap_alloc_new wr _)
        case c2 => simp [Value.oneCell']
        case c3 => unfold maxLen; omega
        case c4 => omega
        case c5 => simp; omega
        intro v' w1 hown1 hgrow _
        obtain ⟨g4, c4, rfl⟩ : ∃ g4 c4, v' = .slice (some ⟨g4, 0, none⟩) (L.length + 1) c4 := by
          rcases hown1.2 with ⟨_, e⟩ | ⟨g4, c4, cur, e, _⟩
          · omega
          · exact ⟨g4, c4, e⟩
        have HN := Lib.hid (OwnC.pushed HB.out HO.out hown1 hgrow)
        clear hown1 hgrow
        go_wp2
        go_roundw
        case rel => exact ⟨k + 1, L.length + 1, _, _, by omega, by go_num, rfl, by rw [HS2.out, List.length_append]; rfl, by rw [HS2.out]; exact HN.out.1, HN.out.2⟩
        case measure => simp [intOf]; omega
      · have HS2 := Lib.hid (show coins0 l (k + 1) = coins0 l k by rw [HS.out, if_neg hx])
        go_wp2
        go_roundw
        case rel => exact ⟨k + 1, _, _, _, by omega, by go_num, rfl, by rw [HS2.out]; exact HN'.out, by rw [HS2.out]; exact hO, hB⟩
        case measure => simp [intOf]; omega
    · obtain rfl : k = len := by omega
      have hcl := length_coins0 l k
      have hle := length_csOf l k
      by_cases h0 : n' = 0
      · subst h0
        have he : (csOf l k).length = 0 := by rw [hle]; exact HN'.out.symm
        have hce : csOf l k = [] := List.eq_nil_of_length_eq_zero he
        have HCE := Lib.hid hce
        have hbase : ∀ a, A' = some a → w.heap.size ≤ a.block := fun a e => by subst e; exact (World.ownsRow.lt hO a.block rfl).1
        clear he hle hcl hO hce
        go_wp2_with (go_at_call 118; refine (sort_nil _ _ _ _).mono ?_; rintro e w' ⟨rfl, rfl⟩)
        go_ret
        refine ⟨A', c', ?_, ?_, hbase, hB⟩
        · rw [HCE.out]; rfl
        · rw [HCE.out]; exact ⟨rfl, fun h => absurd h (by simp)⟩
      · obtain ⟨g, rfl⟩ : ∃ g, A' = some ⟨g, 0, none⟩ := by
          rcases hO.2 with ⟨e, e2⟩ | ⟨g, cap', cur, e, _⟩
          · exact absurd (HN'.out.trans e2) h0
          · injection e with e1 e2 e3
            exact ⟨g, e1⟩
        have hcl2 := hO.cl.2
        have hgl := World.ownsRow.lt hO g rfl
        have hs := hN wr g 0 n' c' (coins0 l k) hcl2 HN'.out.symm (by rw [HN'.out]; exact hcN) hgl.2 (coins0_asc l k)
        have HSO := Lib.hid hs
        have HLE := Lib.hid hle
        have HB := Lib.hid hB
        clear hs hcl2 hO hle hB
        go_wp2_with fail
        refine HSO.out.mono ?_
        rintro e w' ⟨rfl, ⟨S, hS, hSp, hSc⟩, hB'⟩
        have hSe := csOf_eq hS hSp
        subst hSe
        have hfin : Coins w' (some ⟨g, 0, none⟩) (csOf l k).length (csOf l k) := hSc.coins rfl (Nat.lt_of_lt_of_le hgl.2 hB'.size)
        have HF := Lib.hid hfin
        have HBB := Lib.hid (HB.out.fresh hB' (fun i hi => by
          obtain rfl : i = g := by simpa using hi
          exact hgl.1))
        have HSP := Lib.hid hSp
        clear hfin hSc hSp hS hB'
        go_wp2
        go_ret
        refine ⟨some ⟨g, 0, none⟩, c', by rw [HLE.out, ← HN'.out]; rfl, HF.out, fun a e => by injection e with e; subst e; exact hgl.1, HBB.out⟩
end Go.Proofs.YtghegmbafbpnjaaGreatDoor
namespace Go.Proofs.YtghegmbafbpnjaaGreatDoor
set_option maxRecDepth 100000
open Go Go.RowKit
/-- A slice reads as these items. -/
def Items (w : World) (A : Option Addr) (n : Nat) (r : List (Nat × Bool)) : Prop :=
  r.length = n ∧ (0 < n → ∃ g o, A = some ⟨g, o, none⟩ ∧ g < w.heap.size ∧ ∀ (i : Nat) (h : i < r.length), w.cell? ⟨g, o + i * 2, none⟩ = some (.int .i64 r[i].1) ∧ w.cell? ⟨g, o + i * 2 + 1, none⟩ = some (.bool r[i].2))
theorem Items.but {w w' : World} {A : Option Addr} {n : Nat} {l : List (Nat × Bool)} {S : List Nat} (h : Items w A n l) (hw : But S w w') (hA : ∀ k ∈ S, Off A k) : Items w' A n l :=
  ⟨h.1, fun hn => by
    obtain ⟨g, o, e, hg, hc⟩ := h.2 hn
    exact ⟨g, o, e, Nat.lt_of_lt_of_le hg hw.size, fun i hi => ⟨hw.cell (hc i hi).1 (fun hS => hA g hS _ e rfl), hw.cell (hc i hi).2 (fun hS => hA g hS _ e rfl)⟩⟩⟩
theorem Items.at {w : World} {A : Option Addr} {n : Nat} {l : List (Nat × Bool)} (h : Items w A n l) {i : Nat} (hi : i < n) :
    ∃ g o, A = some ⟨g, o, none⟩ ∧ g < w.heap.size ∧ w.cell? ⟨g, o + i * 2, none⟩ = some (.int .i64 (l[i]'(by have := h.1; omega)).1) ∧ w.cell? ⟨g, o + i * 2 + 1, none⟩ = some (.bool (l[i]'(by have := h.1; omega)).2) := by
  obtain ⟨g, o, e, hg, hc⟩ := h.2 (by omega)
  exact ⟨g, o, e, hg, hc i (by have := h.1; omega)⟩
theorem itemCells_at : ∀ (r : List (Nat × Bool)) (i : Nat) (h : i < r.length), (itemCells r)[i * 2]? = some (.int .i64 r[i].1) ∧ (itemCells r)[i * 2 + 1]? = some (.bool r[i].2)
  | x :: r, 0, _ => by simp [itemCells]
  | x :: r, i + 1, h => by
    have := itemCells_at r i (by simpa using h)
    have e : itemCells (x :: r) = .int .i64 x.1 :: .bool x.2 :: itemCells r := by simp [itemCells]
    rw [e, show (i + 1) * 2 = i * 2 + 1 + 1 from by omega]
    simpa using this
theorem OwnR.items {w : World} {base g c n : Nat} {r : List (Nat × Bool)} (h : OwnR w base (.slice (some ⟨g, 0, none⟩) n c) r) : n = r.length ∧ Items w (some ⟨g, 0, none⟩) n r := by
  have hn : n = r.length := by
    unfold OwnR at h
    rcases h.2 with ⟨e, _⟩ | ⟨g, cap, cur, e, _⟩
    · cases e
    · injection e
  subst hn
  refine ⟨rfl, rfl, fun _ => ⟨g, 0, rfl, (World.ownsRow.lt h g rfl).2, fun i hi => ?_⟩⟩
  obtain ⟨e1, e2⟩ := itemCells_at r i hi
  have h1 := World.ownsRow.cells h (g := g) rfl _ _ e1
  have h2 := World.ownsRow.cells h (g := g) rfl _ _ e2
  rw [Go.WideShapes.add_plain] at h1 h2
  exact ⟨h1, by rw [Nat.add_assoc]; exact h2⟩

/-- The pairs when j of them are laid. -/
def midPrs (r : List (Nat × Bool)) (q j : Nat) : List Int := nats ((prs r).take j) ++ List.replicate (q - j) 0
theorem midPrs_succ {r : List (Nat × Bool)} {q j : Nat} (hj : j < q) (hq : (prs r).length = q) : midPrs r q (j + 1) = (midPrs r q j).set j (((prs r)[j]'(by omega) : Nat) : Int) := by
  unfold midPrs
  have e : q - j = (q - (j + 1)) + 1 := by omega
  rw [e, List.replicate_succ, List.set_append_right _ _ (by simp [nats]; omega), List.take_succ_eq_append_getElem (by omega)]
  have e2 : j - (nats ((prs r).take j)).length = 0 := by simp [nats]; omega
  rw [e2, List.set_cons_zero]
  simp only [nats, List.map_append, List.map_cons, List.map_nil, List.append_assoc, List.singleton_append]

set_option maxRecDepth 100000 in
set_option maxHeartbeats 1000000 in
theorem pairs_any {w : World} {A : Option Addr} {n cap : Nat} {r : List (Nat × Bool)} (hr : Items w A n r) (hn : n ≤ 1000) (hM : ∀ x ∈ r, x.1 ≤ 1152921504606846976) :
    Calls Tryz.prog 123 #[.slice A n cap] w fun e w' => e = .returned (.slice (some ⟨w.heap.size, 0, none⟩) (n / 2) (n / 2)) ∧ OwnI w' w.heap.size (.slice (some ⟨w.heap.size, 0, none⟩) (n / 2) (n / 2)) (nats (prs r)) ∧ But [] w w' := by
  obtain ⟨i0, hi0, hz0, hz1, hz2⟩ := info_parts info_int
  have hrl := hr.1
  have hpl : (prs r).length = n / 2 := by rw [length_prs, hrl]
  obtain ⟨q, hq⟩ : ∃ q, q = n / 2 := ⟨_, rfl⟩
  have hqd : (n : Int) / 2 = (q : Int) := by omega
  rw [← hq] at hpl ⊢
  have HQ := Lib.hid hqd
  have hq2 : 2 * q ≤ n := by omega
  have hq3 : q ≤ 500 := by omega
  clear hqd hq
  go_enter Tryz.func123, Tryz.ntmps123
  go_wp2_with (at_make; refine wpList_make_full _ rfl _ _ 58 rfl w.heap.size 3 i0 _ 1 Tryz.underlying58 hi0 hz0 hz1 _ _ _ _ q rfl rfl (by have := HQ.out; omega) (by have := HQ.out; omega) (by rw [hz2]; omega) (by unfold maxLen; omega) (by simp) ?_; intro w1 hown hgrow)
  have hO1 := OwnI.made hown
  have hB1 : But [] w w1 := (But.refl [] w).grown hgrow (by simp)
  clear hown hgrow
  go_loopw [11] (fun i wr => ∃ j : Nat, j ≤ q ∧ i = .int .i64 j ∧ OwnI wr w.heap.size (.slice (some ⟨w.heap.size, 0, none⟩) q q) (midPrs r q j) ∧ But [] w wr) (fun i _ => q - (intOf i).toNat)
  case atStart => exact ⟨0, Nat.zero_le _, rfl, by unfold midPrs; simpa [nats] using hO1, hB1⟩
  case round =>
    obtain ⟨j, hj, rfl, hO, hB⟩ := hrel
    clear hO1 hB1
    by_cases hlt : j < q
    · obtain ⟨g, o, rfl, hg, hc0, hd0⟩ := hr.at (show 2 * j < n by omega)
      obtain ⟨g', o', e, hg', hc1, hd1⟩ := hr.at (show 2 * j + 1 < n by omega)
      injection e with e
      injection e with e1 e2
      subst e1 e2
      clear hd0 hd1 hg'
      have hx := hM _ (List.getElem_mem (show 2 * j < r.length by omega))
      have hy := hM _ (List.getElem_mem (show 2 * j + 1 < r.length by omega))
      have hpe : (prs r)[j]'(by omega) = (r[2 * j]'(by omega)).1 + (r[2 * j + 1]'(by omega)).1 := by
        have h := prs_getD r j (by have := length_prs r; omega)
        simp only [List.getD_eq_getElem?_getD, List.getElem?_map] at h
        rw [List.getElem?_eq_getElem (by omega), List.getElem?_eq_getElem (by omega), List.getElem?_eq_getElem (by omega)] at h
        simpa using h
      have hms := midPrs_succ hlt hpl
      rw [hpe] at hms
      generalize (r[2 * j]'(by omega)).1 = x at *
      generalize (r[2 * j + 1]'(by omega)).1 = y at *
      have hml : (midPrs r q j).length = q := by unfold midPrs nats; simp; omega
      have hce := hO.cell (show j < (midPrs r q j).length by omega)
      have hcf := hO.free j
      generalize (midPrs r q j)[j]'_ = cv at hce
      replace hc0 := hB.cell hc0 (by simp)
      replace hc1 := hB.cell hc1 (by simp)
      have HMS := Lib.hid hms
      have HO := Lib.hid hO
      have HB := Lib.hid hB
      clear hms hO hB hpe hml hpl hrl hr hM
      have j0 : 0 ≤ (j : Int) := by omega
      have j1 : (j : Int) < (q : Int) := by omega
      have j2 : 2 * (j : Int) < (n : Int) := by omega
      have j3 : 2 * (j : Int) + 1 < (n : Int) := by omega
      have j4 : 0 ≤ 2 * (j : Int) := by omega
      have j5 : 0 ≤ 2 * (j : Int) + 1 := by omega
      have t2 : (2 * (j : Int)).toNat = 2 * j := by omega
      have t3 : (2 * (j : Int) + 1).toNat = 2 * j + 1 := by omega
      go_upto_region 5 with (fail)
      have d0 : wr.drew.cell? ⟨g, o + 2 * j * 2, none⟩ = some (.int .i64 x) := hc0
      have d1 : wr.drew.cell? ⟨g, o + (2 * j + 1) * 2, none⟩ = some (.int .i64 y) := hc1
      have de : wr.drew.cell? ⟨w.heap.size, j, none⟩ = some (.int .i64 cv) := hce
      have df : wr.drew.frozen? ⟨w.heap.size, j, none⟩ = false := hcf
      have hsz : wr.heap.size = wr.drew.heap.size := rfl
      have HO2 : Hid (OwnI wr.drew w.heap.size (.slice (some ⟨w.heap.size, 0, none⟩) q q) (midPrs r q j)) := HO
      have HB2 := Lib.hid (HB.out.drew)
      have ew2 : IntKind.i64.wrap (2 * (j : Int)) = 2 * (j : Int) := IntWalk.i64_in _ (by omega)
      have ew3 : IntKind.i64.wrap (2 * (j : Int) + 1) = 2 * (j : Int) + 1 := IntWalk.i64_in _ (by omega)
      have ew4 : IntKind.i64.wrap ((x : Int) + (y : Int)) = (x : Int) + (y : Int) := IntWalk.i64_in _ (by omega)
      refine wp_region_still_tail 17 (by kernel_rfl) (by kernel_rfl) ?_
      simp only [List.take_succ_cons, List.take_zero, List.drop_succ_cons, List.drop_zero]
      change wpStill _ _ wr.drew (fun a' => wpList _ _ _ _ a' wr.drew) _ _
      clear hc0 hc1 hce hcf HO HB hsz
      generalize wr.drew = W1 at *
      repeat still_step
      refine wpStill_nil ?_
      clear ew2 ew3 ew4
      go_wp2
      go_roundw
      case rel =>
        refine ⟨j + 1, by omega, by go_num, ?_, HB2.out.setCell (.inr (Nat.le_refl _)) _⟩
        rw [HMS.out]
        exact HO2.out.set j _
      case measure => simp [intOf]; omega
    · obtain rfl : j = q := by omega
      have he : midPrs r j j = nats (prs r) := by unfold midPrs; rw [List.take_of_length_le (by omega)]; simp
      rw [he] at hO
      go_wp2
      go_ret
      exact ⟨rfl, hO, hB⟩
end Go.Proofs.YtghegmbafbpnjaaGreatDoor
namespace Go.Proofs.YtghegmbafbpnjaaGreatDoor
set_option maxRecDepth 100000
open Go Go.RowKit
theorem row_bound (ws : List Nat) (M : Nat) (h : ∀ x ∈ ws, x ≤ M) : ∀ k, ∀ x ∈ rowN ws k, x.1 ≤ M * 2 ^ k
  | 0, x, hx => by
    rcases mrg_mem hx with ⟨h1, _⟩ | ⟨h1, _⟩
    · simpa using h _ h1
    · cases h1
  | k + 1, x, hx => by
    have hp := Nat.two_pow_pos k
    have hM : M ≤ M * 2 ^ k := Nat.le_mul_of_pos_right _ hp
    rw [Nat.pow_succ]
    rcases mrg_mem hx with ⟨h1, _⟩ | ⟨h1, _⟩
    · have := h _ h1
      have e2 : M * (2 ^ k * 2) = M * 2 ^ k + M * 2 ^ k := by rw [← Nat.mul_assoc]; omega
      rw [e2]; omega
    · obtain ⟨a, ha, b, hb, e⟩ := prs_mem h1
      have h2 := row_bound ws M h k a ha
      have h3 := row_bound ws M h k b hb
      have e2 : M * (2 ^ k * 2) = M * 2 ^ k + M * 2 ^ k := by rw [← Nat.mul_assoc]; omega
      rw [e, e2]; omega
/-- A slice of rows of the call's own: their heads. -/
def OwnS (w : World) (base : Nat) (v : Value) (L : List Value) : Prop := w.ownsRow base 173 1 v L.length L
theorem info_row : (Tryz.prog.info? 173).map (fun i => (i.zero, i.size, i.bytes)) = some (some (.slice none 0 0), 1, 24) := by kernel_rfl
/-- The heads are those of the rows. -/
def RowsAre (w : World) (base : Nat) (ws : List Nat) (L : List Value) : Prop :=
  ∀ k (h : k < L.length), ∃ g, L[k] = .slice (some ⟨g, 0, none⟩) (rowN ws k).length (rowN ws k).length ∧ OwnR w base L[k] (rowN ws k)
theorem own_apart {w : World} {b1 b2 n1 n2 s1 s2 : Nat} {e1 e2 : TypeId} {v1 v2 : Value} {x1 x2 : List Value} (h1 : w.ownsRow b1 e1 s1 v1 n1 x1) (h2 : w.ownsRow b2 e2 s2 v2 n2 x2) (hne : e1 ≠ e2) {g : Nat} (hg : v1.ownBlock = some g) : v2.ownBlock ≠ some g := by
  intro hg2
  rcases h1.2 with ⟨rfl, _⟩ | ⟨g1, c1, cur1, rfl, _, hh1, _⟩
  · cases hg
  rcases h2.2 with ⟨rfl, _⟩ | ⟨g2, c2, cur2, rfl, _, hh2, _⟩
  · cases hg2
  have e1' : g1 = g := by simpa [Value.ownBlock] using hg
  have e2' : g2 = g := by simpa [Value.ownBlock] using hg2
  rw [e1'] at hh1
  rw [e2', hh1] at hh2
  exact hne (Obj.cells.inj (Option.some.inj hh2)).2.1
theorem RowsAre.but {w w' : World} {base : Nat} {ws : List Nat} {L : List Value} (h : RowsAre w base ws L) {S : List Nat} (hw : But S w w') (hS : ∀ v r, OwnR w base v r → ∀ k ∈ S, v.ownBlock ≠ some k) : RowsAre w' base ws L := by
  intro k hk
  obtain ⟨g, e, ho⟩ := h k hk
  exact ⟨g, e, ho.but hw (hS _ _ ho)⟩
theorem OwnS.made (w : World) (v : Value) (base : Nat) (hb : base ≤ w.heap.size) : OwnS (w.alloc (.cells #[v] 173)) base (.slice (some ⟨w.heap.size, 0, none⟩) 1 1) [v] :=
  ⟨rfl, .inr ⟨w.heap.size, 1, #[v], rfl, hb, (Is.fresh w 173 #[v]), Nat.le_refl _, by unfold maxLen; decide, rfl, rfl⟩⟩
theorem OwnS.but {w w' : World} {base : Nat} {v : Value} {l : List Value} (h : OwnS w base v l) {S : List Nat} (hw : But S w w') (hS : ∀ k ∈ S, v.ownBlock ≠ some k) : OwnS w' base v l := by
  unfold OwnS at h ⊢
  refine ⟨h.1, ?_⟩
  rcases h.2 with h2 | ⟨g, cap, cur, hv, hg, hh, r⟩
  · exact .inl h2
  · refine .inr ⟨g, cap, cur, hv, hg, ?_, r⟩
    have hlt : g < w.heap.size := (h.lt g (by rw [hv]; rfl)).2
    rw [hw.block g hlt (fun hk => hS g hk (by rw [hv]; rfl))]
    exact hh
theorem OwnS.open {w : World} {base : Nat} {v : Value} {L : List Value} (h : OwnS w base v L) (h0 : 0 < L.length) : ∃ g c, v = .slice (some ⟨g, 0, none⟩) L.length c ∧ g < w.heap.size ∧ ∀ i (hi : i < L.length), w.cell? ⟨g, i, none⟩ = some L[i] := by
  unfold OwnS at h
  rcases h.2 with ⟨_, e⟩ | ⟨g, cap, cur, rfl, hg, hh, r⟩
  · omega
  · refine ⟨g, cap, rfl, (h.lt g rfl).2, fun i hi => ?_⟩
    have hc := h.cells (g := g) rfl i L[i] (by simp [hi])
    rw [Go.WideShapes.add_plain, Nat.zero_add] at hc
    exact hc
/-- The rows, one behind the other. -/
def GotRows (w : World) (most : Nat) (ws : List Nat) (e : Ending) (w' : World) : Prop :=
  ∃ g c L, e = .returned (.slice (some ⟨g, 0, none⟩) most c) ∧ L.length = most ∧ OwnS w' w.heap.size (.slice (some ⟨g, 0, none⟩) most c) L ∧ RowsAre w' w.heap.size ws L ∧ But [] w w'
theorem RowsAre.snoc {w : World} {base k g : Nat} {ws : List Nat} {L : List Value} (h : RowsAre w base ws L) (hk : L.length = k) {n : Nat} (hn : n = (rowN ws k).length) (ho : OwnR w base (.slice (some ⟨g, 0, none⟩) n n) (rowN ws k)) :
    RowsAre w base ws (L ++ [.slice (some ⟨g, 0, none⟩) n n]) := by
  intro i hi
  subst hk hn
  rcases Nat.lt_or_ge i L.length with h1 | h1
  · rw [List.getElem_append_left h1]; exact h i h1
  · have : i = L.length := by simp at hi; omega
    subst this
    rw [List.getElem_append_right (Nat.le_refl _)]
    simp only [Nat.sub_self, List.getElem_cons_zero]
    exact ⟨g, rfl, ho⟩
theorem OwnR.base {w : World} {b1 b2 : Nat} {v : Value} {r : List (Nat × Bool)} (h : OwnR w b1 v r) (hb : b2 ≤ b1) : OwnR w b2 v r := by
  refine ⟨h.1, ?_⟩
  rcases h.2 with h2 | ⟨g, cap, cur, hv, hg, r⟩
  · exact .inl h2
  · exact .inr ⟨g, cap, cur, hv, by omega, r⟩

set_option maxRecDepth 100000 in
set_option maxHeartbeats 1000000 in
theorem rowsOf_any {w : World} {A : Option Addr} {n cap most : Nat} {cs : List (Nat × Nat)} {ws : List Nat} (hws : ws = cs.map (·.2)) (hc : Coins w A n cs) (hn : n ≤ 288) (hmo : 1 ≤ most) (hmo2 : most ≤ 15) (hM : ∀ x ∈ ws, x ≤ 1000000000) :
    Calls Tryz.prog 105 #[.int .i64 most, .slice A n cap] w (GotRows w most ws) := by
  obtain ⟨i0, hi0, hz0, hz1, hz2⟩ := info_parts info_row
  have hwl : ws.length = n := by rw [hws, List.length_map, hc.1]
  have hmerge := merge_any (cap := cap) (ps := []) hws hc (Ints.empty w none) (by omega) (by omega) (Nat.le_refl _)
  have HM := Lib.hid hmerge
  clear hmerge
  go_enter Tryz.func105, Tryz.ntmps105
  go_wp2_with fail
  refine HM.out.mono ?_
  rintro e w1 ⟨rfl, hO, hB⟩
  have hB1 := hB.alloc (.cells #[.slice (some ⟨w.heap.size, 0, none⟩) n n] 173)
  have hS1 := OwnS.made w1 (.slice (some ⟨w.heap.size, 0, none⟩) n n) w.heap.size hB.size
  have hr0 : (rowN ws 0).length = n := by show (mrg ws []).length = n; rw [length_mrg, hwl]; rfl
  have hO1 : OwnR (w1.alloc (.cells #[.slice (some ⟨w.heap.size, 0, none⟩) n n] 173)) w.heap.size (.slice (some ⟨w.heap.size, 0, none⟩) n n) (rowN ws 0) := hO.but ((But.refl [] w1).alloc _) (by simp)
  have hR1 : RowsAre (w1.alloc (.cells #[.slice (some ⟨w.heap.size, 0, none⟩) n n] 173)) w.heap.size ws [.slice (some ⟨w.heap.size, 0, none⟩) n n] := by
    have : RowsAre (w1.alloc (.cells #[.slice (some ⟨w.heap.size, 0, none⟩) n n] 173)) w.heap.size ws [] := fun k hk => absurd hk (by simp)
    simpa using this.snoc (k := 0) rfl hr0.symm hO1
  have HC := Lib.hid hc
  have HWS := Lib.hid hws
  have HWL := Lib.hid hwl
  clear hr0 hO1 hO hB hc hws hwl HM
  go_wp2
  go_loopw [5] (fun v wr => ∃ (k g c : Nat) (L : List Value), 1 ≤ k ∧ k ≤ most ∧ v = .slice (some ⟨g, 0, none⟩) k c ∧ L.length = k ∧ OwnS wr w.heap.size (.slice (some ⟨g, 0, none⟩) k c) L ∧ RowsAre wr w.heap.size ws L ∧ But [] w wr)
    (fun v _ => match v with | .slice _ n _ => most - n | _ => 0)
  case atStart => exact ⟨1, _, 1, _, Nat.le_refl _, hmo, rfl, rfl, hS1, hR1, hB1⟩
  case round =>
    obtain ⟨k, g, c, L, hk1, hk2, rfl, hL, hS, hR, hB⟩ := hrel
    clear hS1 hR1 hB1
    by_cases hlt : k < most
    · obtain ⟨k0, rfl⟩ : ∃ k0, k = k0 + 1 := ⟨k - 1, by omega⟩
      obtain ⟨g2, c2, e, hg2, hcell⟩ := hS.open (by omega)
      rw [hL] at e
      injection e with e1 e2 e3
      injection e1 with e1
      injection e1 with e1
      subst e1 e3
      have hck := hcell k0 (by omega)
      obtain ⟨g3, e4, hO3⟩ := hR k0 (by omega)
      rw [e4] at hck hO3
      obtain ⟨_, hI3⟩ := hO3.items
      have hlr := length_row ws k0
      have hlen3 : (rowN ws k0).length ≤ 1000 := by have := hlr.2.1; have := HWL.out; omega
      have hMk : ∀ x ∈ rowN ws k0, x.1 ≤ 1152921504606846976 := fun x hx => by
        have := row_bound ws _ hM k0 x hx
        have h2 : 2 ^ k0 ≤ 2 ^ 15 := Nat.pow_le_pow_right (by decide) (by omega)
        have h3 := Nat.mul_le_mul_left 1000000000 h2
        omega
      have hpr := pairs_any (cap := (rowN ws k0).length) hI3 hlen3 hMk
      have hq := length_prs (rowN ws k0)
      have hrow : rowN ws (k0 + 1) = mrg ws (prs (rowN ws k0)) := rfl
      have hrl : (rowN ws (k0 + 1)).length = n + (rowN ws k0).length / 2 := by rw [hrow, length_mrg, hq, HWL.out]
      have HROW := Lib.hid hrow
      have HRL := Lib.hid hrl
      have HPR := Lib.hid hpr
      have HS := Lib.hid hS
      have HR := Lib.hid hR
      have HB := Lib.hid hB
      have HL := Lib.hid hL
      generalize hn3 : (rowN ws k0).length = n3 at *
      clear hn3 hcell e4 hO3 hI3 hlr hMk hpr hq hrow hrl hS hR hB hL e2
      have k00 : 0 ≤ (k0 : Int) := by omega
      have kk : (k0 : Int) < ((k0 + 1 : Nat) : Int) := by omega
      go_wp2_with fail
      refine HPR.out.mono ?_
      rintro e w2 ⟨rfl, hO2, hB2⟩
      have hB2' := HB.out.trans hB2
      have hm := merge_any (cap := cap) (cap2 := n3 / 2) HWS.out (HC.out.but hB2' (by simp)) hO2.ints (by omega) (by omega) (Nat.le_refl _)
      have HM := Lib.hid hm
      have HB2 := Lib.hid hB2
      have HB2' := Lib.hid hB2'
      have hbs := HB.out.size
      have hbs2 := hB2.size
      clear hm hO2 hB2 hB2'
      go_wp2_with fail
      refine HM.out.mono ?_
      rintro e w3 ⟨rfl, hO3, hB3⟩
      have hBr := HB2.out.trans hB3
      have hBw := HB.out.trans hBr
      have hbs3 := hB3.size
      have hS3 := HS.out.but hBr (by simp)
      have hR3 := HR.out.but hBr (by simp)
      rw [← HROW.out] at hO3
      have hO4 : OwnR w3 w.heap.size (.slice (some ⟨w2.heap.size, 0, none⟩) (n + n3 / 2) (n + n3 / 2)) (rowN ws (k0 + 1)) := hO3.base (by omega)
      have hlt3 := (World.ownsRow.lt hO3 _ rfl).2
      clear hO3 hB3 hBr HM
      have HS3 := Lib.hid hS3
      have HR3 := Lib.hid hR3
      have HO4 := Lib.hid hO4
      have HBW := Lib.hid hBw
      clear hS3 hR3 hO4 hBw HS HR HB HB2 HB2' HPR
      have hL15 : L.length = k0 + 1 := HL.out
      have HL15 := Lib.hid hL15
      clear hL15
      have hown : w3.ownsRow w.heap.size 173 1 (.slice (some ⟨g, 0, none⟩) (k0 + 1) c) (k0 + 1) L := by have := HS3.out; unfold OwnS at this; rw [HL15.out] at this; exact this
      have HOWN := Lib.hid hown
      clear hown
      go_wp2_with (at_builtin; refine wpList_append_own _ rfl _ _ 150 rfl w.heap.size 173 i0 (.slice none 0 0) 1 24 Tryz.underlying150 hi0 hz0 hz1 hz2 rfl (by decide) _ (k0 + 1) L rfl (HOWN.out.alloc _) ⟨w3.heap.size, 0, none⟩ 1 1 [.slice (some ⟨w2.heap.size, 0, none⟩) (n + n3 / 2) (n + n3 / 2)] rfl rfl ?c1 ?c2 ?c3 ?c4 ?c5 ?_)
      case c1 => exact World.news_of_block (cs := #[.slice (some ⟨w2.heap.size, 0, none⟩) (n + n3 / 2) (n + n3 / 2)]) (t := 173) (fr := (0, 0)) (heap_alloc_new w3 _)
      case c2 => simp [Value.oneCell']
      case c3 => unfold maxLen; omega
      case c4 => omega
      case c5 => simp; omega
      intro v' w4 hown4 hgrow4 hnn
      obtain ⟨g4, c4, rfl⟩ : ∃ g4 c4, v' = .slice (some ⟨g4, 0, none⟩) (k0 + 1 + 1) c4 := by
        rcases hown4.2 with ⟨_, e⟩ | ⟨g4, c4, cur, e, _⟩
        · omega
        · exact ⟨g4, c4, e⟩
      have hBa : But [] w3 (w3.alloc (.cells #[.slice (some ⟨w2.heap.size, 0, none⟩) (n + n3 / 2) (n + n3 / 2)] 173)) := (But.refl [] w3).alloc _
      have hBg : But [g] (w3.alloc (.cells #[.slice (some ⟨w2.heap.size, 0, none⟩) (n + n3 / 2) (n + n3 / 2)] 173)) w4 := (But.refl [g] _).grown hgrow4 (fun g' e => by
        have : g = g' := by simpa [Value.ownBlock] using e
        subst this; exact .inl (by simp))
      have hap : ∀ v r, OwnR (w3.alloc (.cells #[.slice (some ⟨w2.heap.size, 0, none⟩) (n + n3 / 2) (n + n3 / 2)] 173)) w.heap.size v r → ∀ k ∈ [g], v.ownBlock ≠ some k := fun v r ho k hk => by
        obtain rfl : k = g := by simpa using hk
        exact own_apart (HOWN.out.alloc _) ho (by decide) rfl
      have hO5 := (HO4.out.but hBa (by simp))
      have hO6 := hO5.but hBg (hap _ _ hO5)
      have hR6 := (HR3.out.but hBa (by simp)).but hBg (hap)
      have hg0 : w.heap.size ≤ g := (World.ownsRow.lt HOWN.out g rfl).1
      have HNEW := Lib.hid (show OwnS w4 w.heap.size (.slice (some ⟨g4, 0, none⟩) (k0 + 1 + 1) c4) (L ++ [.slice (some ⟨w2.heap.size, 0, none⟩) (n + n3 / 2) (n + n3 / 2)]) by
        unfold OwnS; rw [List.length_append, HL15.out]; exact hown4)
      have HR7 := Lib.hid (hR6.snoc HL15.out HRL.out.symm hO6)
      have HB7 := Lib.hid ((HBW.out.trans hBa).fresh hBg (fun i hi => by
        obtain rfl : i = g := by simpa using hi
        exact hg0))
      clear hown4 hgrow4 hBa hBg hap hO5 hO6 hR6 hnn
      go_wp2
      go_roundw
      case rel => exact ⟨k0 + 1 + 1, g4, c4, _, by omega, by omega, rfl, by rw [List.length_append, HL15.out]; rfl, HNEW.out, HR7.out, HB7.out⟩
      case measure => simp; try omega
    · obtain rfl : k = most := by omega
      go_wp2
      go_ret
      exact ⟨g, c, L, rfl, hL, hS, hR, hB⟩
end Go.Proofs.YtghegmbafbpnjaaGreatDoor
