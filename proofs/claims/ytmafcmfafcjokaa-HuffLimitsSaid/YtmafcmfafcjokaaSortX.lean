/- The contract of the insertion sort of coins. -/
import Derived.Test.YtmafcmfafcjokaaSortW
namespace Go.Proofs.Ytmafcmfafcjokaa
open Go Go.RowKit

theorem But.grow {S : List Nat} {w W : World} (h : But S w W) (n : Nat) (os : Array Obj) : But S w (Sort.grow (W.drewN n) os) :=
  h.trans ⟨rfl, rfl, rfl, by simp [Sort.grow], fun k hk _ => Sort.heap_grow_old (W.drewN n) os hk⟩
theorem CL.grow {W : World} {b o : Nat} {d : List (Nat × Nat)} (h : CL W b o d) (hb : b < W.heap.size) (n : Nat) (os : Array Obj) : CL (Sort.grow (W.drewN n) os) b o d := h.heap (Sort.heap_grow_old (W.drewN n) os hb)
theorem getD_at {d : List (Nat × Nat)} {A B : List (Nat × Nat)} {x : Nat × Nat} {i : Nat} (h : d = A ++ x :: B) (hi : i = A.length) : d.getD i (0, 0) = x := by
  subst h hi; simp [List.getD_eq_getElem?_getD]
theorem CL.get {W : World} {b o i : Nat} {d : List (Nat × Nat)} {x : Nat × Nat} (h : CL W b o d) (hi : i < d.length) (hx : d.getD i (0, 0) = x) :
    W.cell? ⟨b, o + i * 2, none⟩ = some (.int .i64 x.1) ∧ W.cell? ⟨b, o + i * 2 + 1, none⟩ = some (.int .i64 x.2) ∧ W.frozen? ⟨b, o + i * 2, none⟩ = false ∧ W.frozen? ⟨b, o + i * 2 + 1, none⟩ = false := by
  have e : d[i] = x := by rw [← hx, List.getD_eq_getElem?_getD, List.getElem?_eq_getElem hi]; rfl
  rw [← e]; exact h i hi
theorem cmp_neg {x y : Int} (h : x < y) : cmpOf x y < 0 := by unfold cmpOf; rw [if_pos h]; decide
theorem cmp_not {x y : Int} (h : ¬ x < y) : ¬ cmpOf x y < 0 := by unfold cmpOf; rw [if_neg h]; split <;> decide
theorem srt_insert {S1 S2 : List (Nat × Nat)} {x : Nat × Nat} (h : Srt (S1 ++ S2)) (h1 : ∀ y, S1.getLast? = some y → lx y x) (h2 : ∀ y ∈ S2, lx x y) : Srt (S1 ++ x :: S2) := by
  have hs := List.pairwise_append.1 h
  refine List.pairwise_append.2 ⟨hs.1, List.pairwise_cons.2 ⟨h2, hs.2.1⟩, fun a ha b hb => ?_⟩
  rcases List.mem_cons.1 hb with rfl | hb
  · rcases List.eq_nil_or_concat S1 with e | ⟨q, s, e⟩
    · subst e; cases ha
    · rw [List.concat_eq_append] at e
      subst e
      have hl := h1 s (by simp)
      rcases List.mem_append.1 ha with h3 | h3
      · exact lx_trans ((List.pairwise_append.1 hs.1).2.2 a h3 s (by simp)) hl
      · have : a = s := by simpa using h3
        subst this; exact hl
  · exact hs.2.2 a ha b hb

set_option maxRecDepth 100000 in
set_option maxHeartbeats 2000000 in
theorem insertion_any {w : World} {g o n cap a b : Nat} {A X B : List (Nat × Nat)} (hd : CL w g o (A ++ X ++ B)) (hdl : (A ++ X ++ B).length = n) (hn : n ≤ 1000) (hgl : g < w.heap.size)
    (ha : a = A.length) (hb : b = A.length + X.length) (hX : X.Pairwise fun x y => x.1 < y.1) :
    Calls Try.prog 52 #[.slice (some ⟨g, o, none⟩) n cap, .int .i64 a, .int .i64 b, .func (.func 44) #[] #[]] w fun e w' => e = .returned (.tuple #[]) ∧ (∃ S, Srt S ∧ S.Perm X ∧ CL w' g o (A ++ S ++ B)) ∧ But [g] w w' := by
  have mixed : Try.prog.follows .mixedOrders = true := by kernel_rfl
  have hbn : b ≤ n := by simp at hdl; omega
  have hab : a ≤ b := by omega
  have HA := Lib.hid ha
  have HBX := Lib.hid hb
  have HDL := Lib.hid hdl
  clear ha hb hdl
  by_cases hX0 : X = []
  · subst hX0
    go_enter Try.func52, Try.ntmps52
    go_wp2
    go_loopw [8] (fun iv wr => iv = .int .i64 ((a : Int) + 1) ∧ wr = w) (fun _ _ => 0)
    case atStart => exact ⟨rfl, rfl⟩
    case round =>
      obtain ⟨rfl, rfl⟩ := hrel
      have hlt : ¬ (a : Int) + 1 < (b : Int) := by have h1 := HA.out; have h2 := HBX.out; simp only [List.length_nil] at h2; omega
      go_wp2
      go_end0
      exact ⟨rfl, ⟨[], List.Pairwise.nil, rfl, by simpa using hd⟩, But.refl _ _⟩
  obtain ⟨x0, X0, rfl⟩ : ∃ x0 X0, X = x0 :: X0 := by
    cases X with
    | nil => exact absurd rfl hX0
    | cons x X => exact ⟨x, X, rfl⟩
  go_enter Try.func52, Try.ntmps52
  go_wp2
  go_loopw [8] (fun iv wr => ∃ (i : Nat) (S R : List (Nat × Nat)), iv = .int .i64 ((i : Int) + 1) ∧ a ≤ i ∧ i + 1 ≤ b ∧ A.length + S.length = i + 1 ∧ Srt S ∧ (S ++ R).Perm (x0 :: X0) ∧ R.Pairwise (fun x y => x.1 < y.1) ∧ Crs S R ∧ CL wr g o (A ++ S ++ R ++ B) ∧ (A ++ S ++ R ++ B).length = n ∧ But [g] w wr) (fun iv _ => b - (intOf iv).toNat)
  case atStart =>
    refine ⟨a, [x0], X0, rfl, Nat.le_refl _, by have := HBX.out; have := HA.out; simp at *; omega, by have := HA.out; simp; omega, List.pairwise_singleton _ _, List.Perm.refl _, (List.pairwise_cons.1 hX).2, fun s hs y hy => ?_, by simpa using hd, by have := HDL.out; simp at *; omega, But.refl _ _⟩
    have : s = x0 := by simpa using hs
    subst this
    exact (List.pairwise_cons.1 hX).1 y hy
  case round =>
    obtain ⟨i, S, R, rfl, hai, hib, hSl, hS, hp, hR, hcr, hd', hL, hB⟩ := hrel
    clear hd hX hX0
    by_cases hlt : i + 1 < b
    · have hRne : 0 < R.length := by
        have h1 := hp.length_eq
        have h2 := HBX.out
        rw [List.length_append] at h1
        omega
      obtain ⟨x, R, rfl⟩ : ∃ x R', R = x :: R' := by
        cases R with
        | nil => simp at hRne
        | cons x R' => exact ⟨x, R', rfl⟩
      have hlt2 : (i : Int) + 1 < (b : Int) := by omega
      have hRt := (List.pairwise_cons.1 hR)
      obtain ⟨wo, rfl⟩ : ∃ wo : World, wo = wr := ⟨_, rfl⟩
      go_wp2
      go_loopw [9] (fun jv wr => ∃ (j : Nat) (S1 S2 : List (Nat × Nat)), jv = .int .i64 j ∧ a ≤ j ∧ A.length + S1.length = j ∧ S1 ++ S2 = S ∧ (∀ y ∈ S2, lx x y) ∧ CL wr g o (A ++ S1 ++ x :: S2 ++ R ++ B) ∧ But [g] w wr) (fun jv _ => (intOf jv).toNat)
      case atStart => exact ⟨i + 1, S, [], by go_num, by omega, hSl, by simp, by simp, by simpa using hd', hB⟩
      case round =>
        clear hd' hB
        obtain ⟨j, S1, S2, rfl, haj, hjl, hSe, h2, hdj, hBj⟩ := hrel
        have hgj : g < wr.heap.size := Nat.lt_of_lt_of_le hgl hBj.size
        have hLj : (A ++ S1 ++ x :: S2 ++ R ++ B).length = n := by
          rw [← hL, ← hSe]; simp; omega
        have hout : ∀ (W : World), CL W g o (A ++ S1 ++ x :: S2 ++ R ++ B) → But [g] w W → (∀ y, S1.getLast? = some y → lx y x) →
            ∃ (i' : Nat) (S R' : List (Nat × Nat)), Value.int .i64 ((i : Int) + 1 + 1) = .int .i64 ((i' : Int) + 1) ∧ a ≤ i' ∧ i' + 1 ≤ b ∧ A.length + S.length = i' + 1 ∧ Srt S ∧ (S ++ R').Perm (x0 :: X0) ∧ R'.Pairwise (fun x y => x.1 < y.1) ∧ Crs S R' ∧ CL W g o (A ++ S ++ R' ++ B) ∧ (A ++ S ++ R' ++ B).length = n ∧ But [g] w W := fun W hW hBW hl => by
          refine ⟨i + 1, S1 ++ x :: S2, R, by go_num, by omega, by omega, by rw [← hSe] at hSl; simp at hSl ⊢; omega, srt_insert (by rw [hSe]; exact hS) hl h2, ?_, hRt.2, ?_, by simpa using hW, by simpa using hLj, hBW⟩
          · refine List.Perm.trans ?_ hp
            rw [← hSe]
            have : (S1 ++ x :: S2).Perm (S1 ++ S2 ++ [x]) := by
              rw [List.append_assoc]
              exact List.Perm.append_left S1 (List.perm_append_singleton x S2).symm
            have h := this.append_right R
            simpa using h
          · intro s hs y hy
            rcases List.mem_append.1 hs with h | h
            · exact hcr s (by rw [← hSe]; exact List.mem_append_left _ h) y (List.mem_cons_of_mem _ hy)
            · rcases List.mem_cons.1 h with rfl | h
              · exact hRt.1 y hy
              · exact hcr s (by rw [← hSe]; exact List.mem_append_right _ h) y (List.mem_cons_of_mem _ hy)
        have HOUT := Lib.hid hout
        clear hout
        rcases List.eq_nil_or_concat S1 with e | ⟨S1, y, e⟩
        · subst e
          have hja : j = a := by have := HA.out; simp at hjl; omega
          have hg1 : decide ((a : Int) < (j : Int)) = false := by simp; omega
          have hg2 : decide (a < j) = false := by simp; omega
          have HD := Lib.hid hdj
          have HBJ := Lib.hid hBj
          clear hdj hBj hja haj hjl
          go_wp2
          go_quiet (fail)
          go_wp2
          go_roundw
          case rel => exact HOUT.out _ (HD.out.heap rfl) (HBJ.out.drewN _) (by simp)
          case measure => simp [intOf]; omega
        · rw [List.concat_eq_append] at e
          subst e
          obtain ⟨jp, rfl⟩ : ∃ jp, j = jp + 1 := ⟨j - 1, by simp at hjl; omega⟩
          have hjl2 : A.length + S1.length = jp := by simp at hjl; omega
          have hja : a ≤ jp := by have := HA.out; omega
          have hjn : jp + 1 < n := by simp at hLj; omega
          have hx := getD_at (d := A ++ (S1 ++ [y]) ++ x :: S2 ++ R ++ B) (A := A ++ (S1 ++ [y])) (x := x) (B := S2 ++ R ++ B) (i := jp + 1) (by simp) (by simp; omega)
          have hy := getD_at (d := A ++ (S1 ++ [y]) ++ x :: S2 ++ R ++ B) (A := A ++ S1) (x := y) (B := x :: S2 ++ R ++ B) (i := jp) (by simp) (by simp; omega)
          have hgx : ∀ n' os, _ := fun n' os => (hdj.grow hgj n' os).get (i := jp + 1) (by omega) hx
          have hgy : ∀ n' os, _ := fun n' os => (hdj.grow hgj n' os).get (i := jp) (by omega) hy
          have x0' := fun n' os => (hgx n' os).1
          have x1' := fun n' os => (hgx n' os).2.1
          have y0' := fun n' os => (hgy n' os).1
          have y1' := fun n' os => (hgy n' os).2.1
          have hcg := fun n' os => cmp_coins x.1 x.2 y.1 y.2 (Sort.grow (wr.drewN n') os)
          have hg1 : decide ((a : Int) < ((jp : Int) + 1)) = true := by simp; omega
          have hwp : IntKind.i64.wrap (jp : Int) = (jp : Int) := by rw [IntKind.wrap_i64]; omega
          have jz : (jp : Int) + 1 < (n : Int) := by omega
          have jz1 : (jp : Int) < (n : Int) := by omega
          have hjaz' : (a : Int) < (jp : Int) + 1 := by omega
          have p0 : (0 : Int) ≤ (jp : Int) + 1 := by omega
          have p1 : (0 : Int) ≤ (jp : Int) := by omega
          have e0 : ((jp : Int) + 1).toNat = jp + 1 := by omega
          have H2 := Lib.hid h2
          have HX := Lib.hid hx
          have HY := Lib.hid hy
          have HD := Lib.hid hdj
          have HBJ := Lib.hid hBj
          have HSE := Lib.hid hSe
          have HLJ := Lib.hid hLj
          clear hx hy hdj hBj hgx hgy hSe hjl hja hLj
          by_cases hlv : (x.2 : Int) < (y.2 : Int)
          · have hcv := cmp_neg hlv
            generalize cmpOf (x.2 : Int) (y.2 : Int) = cv at *
            go_wp2_with fail
            go_quiet_grown (first | (go_at_call 44; refine Calls.grown_of (hcg _ _)))
            have hdq := HD.out.grow hgj nq osq
            have hbq := HBJ.out.grow nq osq
            clear x0' x1' y0' y1' hcg
            generalize Sort.grow (wr.drewN nq) osq = wq at hdq hbq ⊢
            obtain ⟨x0', x1', x2', x3'⟩ := hdq.get (i := jp + 1) (by have := HLJ.out; omega) HX.out
            obtain ⟨y0', y1', y2', y3'⟩ := hdq.get (i := jp) (by have := HLJ.out; omega) HY.out
            obtain ⟨xs, xc⟩ := x
            obtain ⟨ys, yc⟩ := y
            dsimp only at x0' x1' y0' y1' hlv
            have HQ := Lib.hid hdq
            have HBQ := Lib.hid hbq
            have HLV := Lib.hid hlv
            clear hdq hbq hlv hcv h2 hcr hRt hR hp hS
            go_wp2
            go_region
            go_wp2
            go_roundw
            case rel =>
              refine ⟨jp, S1, (ys, yc) :: S2, rfl, by omega, hjl2, by rw [← HSE.out]; simp, ?_, ?_, (HBQ.out.swap _ _ _ _).drew⟩
              · intro z hz
                rcases List.mem_cons.1 hz with rfl | hz
                · exact .inl (by have := HLV.out; show xc < yc; omega)
                · exact H2.out z hz
              · have e : sw (A ++ (S1 ++ [(ys, yc)]) ++ (xs, xc) :: S2 ++ R ++ B) (jp + 1) jp = A ++ S1 ++ (xs, xc) :: (ys, yc) :: S2 ++ R ++ B := by
                  rw [sw_comm _ _ _ (by omega)]
                  have := sw_next (A ++ S1) (S2 ++ R ++ B) (ys, yc) (xs, xc) jp (jp + 1) (by simp; omega) rfl
                  simpa using this
                rw [← e]
                exact (HQ.out.swap (by have := HLJ.out; omega) (by have := HLJ.out; omega) (by omega) HX.out HY.out).heap rfl
            case measure => simp [intOf]; try omega
          · have hcv := cmp_not hlv
            generalize cmpOf (x.2 : Int) (y.2 : Int) = cv at *
            go_wp2_with fail
            go_quiet_grown (first | (go_at_call 44; refine Calls.grown_of (hcg _ _)))
            go_wp2
            go_roundw
            case rel =>
              refine HOUT.out _ (HD.out.grow hgj nq osq) (HBJ.out.grow nq osq) ?_
              intro z hz
              have : y = z := by simpa using hz
              subst this
              have hy1 := hcr y (by rw [← HSE.out]; simp) x (by simp)
              unfold lx
              omega
            case measure => simp [intOf]; omega
    · obtain rfl : i + 1 = b := by omega
      have hRe : R = [] := by
        have h1 := hp.length_eq
        have h2 := HBX.out
        rw [List.length_append] at h1
        exact List.eq_nil_of_length_eq_zero (by omega)
      subst hRe
      go_wp2
      go_end0
      exact ⟨rfl, ⟨S, hS, by simpa using hp, by simpa using hd'⟩, hB⟩
end Go.Proofs.Ytmafcmfafcjokaa
