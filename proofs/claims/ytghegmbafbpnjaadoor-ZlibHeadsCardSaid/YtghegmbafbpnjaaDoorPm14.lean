/- Several texts in one: Things, SymA, SymB, SymC (what Back, Heads, Told reach of them). -/
import Derived.Test.YtghegmbafbpnjaaDoorPm01
import Derived.Test.YtghegmbafbpnjaaDoorPm02
import Derived.Test.YtghegmbafbpnjaaDoorPm03
import Derived.Test.YtghegmbafbpnjaaDoorPm04
import Derived.Test.YtghegmbafbpnjaaDoorPm05
import Derived.Test.YtghegmbafbpnjaaDoorPm06
import Derived.Test.YtghegmbafbpnjaaDoorPm07
import Derived.Test.YtghegmbafbpnjaaDoorPm08
import Derived.Test.YtghegmbafbpnjaaDoorPm09
import Derived.Test.YtghegmbafbpnjaaDoorPm10
import Derived.Test.YtghegmbafbpnjaaDoorPm11
import Derived.Test.YtghegmbafbpnjaaDoorPm12
import Derived.Test.YtghegmbafbpnjaaDoorPm13
import Derived.Below
import Derived.BigQuiet
import Derived.BigRegion
import Derived.Deep.AppendLies
import Derived.Deep.CutBlock
import Derived.Deep.CutRange
import Derived.Deep.DeepCutAuto
import Derived.Deep.Draws
import Derived.Deep.QuietTactic
import Derived.Deep.RegionLaw
import Derived.Deep.Slices
import Derived.Laws.BitsAllLaws
import Derived.Laws.BitsLemmas
import Derived.Laws.IdiomStrings
import Derived.Laws.OwnMore
import Derived.Laws.Rows
import Derived.Lib.AppendStr
import Derived.Lib.Hide
import Derived.Lib.Strings
import Derived.LoopIn
import Derived.LoopNIn
import Derived.OneCell
import Derived.OpenShut
import Derived.Outline
import Derived.OwnWalk
import Derived.OwnWalkIn
import Derived.ProofKit
import Derived.RangeFuncBound
import Derived.RangeFuncCalls
import Derived.RangeFuncLeaves
import Derived.RangeFuncNested
import Derived.RegionTactic
import Derived.Shelf.Abstract
import Derived.Shelf.RegionOpen
import Derived.Shelf.SlSortCmp.QuietGrown
import Derived.StillTailTactics
import Derived.TacticsInMore
import Derived.Test.YtghegmbafbpnjaaDoorChecked
import Derived.WalkKit
import Derived.WalkLawsBesides
import Derived.WalkSpells
set_option maxRecDepth 100000
set_option linter.unusedVariables false
namespace Go.Proofs.YtghegmbafbpnjaaDoor
set_option maxRecDepth 100000
open Go Go.RowKit
/-- A thing: its weight, whether it is a coin, where its numbers lie, and these. -/
structure Th where
  n : Nat
  b : Bool
  a : Option Addr
  c : Nat
  v : List Int
def thCells (len : Nat) (L : List Th) : List Value := L.flatMap fun x => [.int .i64 x.n, .bool x.b, .slice x.a len x.c]
theorem thCells_at (len : Nat) : ∀ (L : List Th) (i : Nat) (h : i < L.length), (thCells len L)[i * 3]? = some (.int .i64 L[i].n) ∧ (thCells len L)[i * 3 + 1]? = some (.bool L[i].b) ∧ (thCells len L)[i * 3 + 2]? = some (.slice L[i].a len L[i].c)
  | x :: L, 0, _ => by simp [thCells]
  | x :: L, i + 1, h => by
    have := thCells_at len L i (by simpa using h)
    have e : thCells len (x :: L) = .int .i64 x.n :: .bool x.b :: .slice x.a len x.c :: thCells len L := by simp [thCells]
    rw [e, show (i + 1) * 3 = i * 3 + 1 + 1 + 1 from by omega, show i * 3 + 1 + 1 + 1 + 1 = i * 3 + 1 + 1 + 1 + 1 from rfl]
    simpa using this
theorem length_thCells (len : Nat) (L : List Th) : (thCells len L).length = L.length * 3 := by
  induction L with
  | nil => rfl
  | cons x L ih => simp only [thCells, List.flatMap_cons, List.length_append] at ih ⊢; rw [ih]; simp; omega
/-- The numbers of things. -/
def Vecs (w : World) (len : Nat) (L : List Th) : Prop := ∀ x ∈ L, Ints w x.a len x.v
theorem Vecs.but {w w' : World} {len : Nat} {L : List Th} (h : Vecs w len L) (hw : But [] w w') : Vecs w' len L := fun x hx => (h x hx).but hw (by simp)
/-- A slice reads as these things. -/
def Things (w : World) (A : Option Addr) (n len : Nat) (L : List Th) : Prop :=
  L.length = n ∧ (0 < n → ∃ g o, A = some ⟨g, o, none⟩ ∧ g < w.heap.size ∧ ∀ (i : Nat) (h : i < L.length), w.cell? ⟨g, o + i * 3, none⟩ = some (.int .i64 L[i].n) ∧ w.cell? ⟨g, o + i * 3 + 1, none⟩ = some (.bool L[i].b) ∧ w.cell? ⟨g, o + i * 3 + 2, none⟩ = some (.slice L[i].a len L[i].c)) ∧ Vecs w len L
theorem Things.but {w w' : World} {A : Option Addr} {n len : Nat} {L : List Th} (h : Things w A n len L) (hw : But [] w w') : Things w' A n len L :=
  ⟨h.1, fun hn => by
    obtain ⟨g, o, e, hg, hc⟩ := h.2.1 hn
    exact ⟨g, o, e, Nat.lt_of_lt_of_le hg hw.size, fun i hi => ⟨hw.cell (hc i hi).1 (by simp), hw.cell (hc i hi).2.1 (by simp), hw.cell (hc i hi).2.2 (by simp)⟩⟩, h.2.2.but hw⟩
theorem Things.at {w : World} {A : Option Addr} {n len : Nat} {L : List Th} (h : Things w A n len L) {i : Nat} (hi : i < n) :
    ∃ g o, A = some ⟨g, o, none⟩ ∧ g < w.heap.size ∧ w.cell? ⟨g, o + i * 3, none⟩ = some (.int .i64 (L[i]'(by have := h.1; omega)).n) ∧ w.cell? ⟨g, o + i * 3 + 1, none⟩ = some (.bool (L[i]'(by have := h.1; omega)).b) ∧ w.cell? ⟨g, o + i * 3 + 2, none⟩ = some (.slice (L[i]'(by have := h.1; omega)).a len (L[i]'(by have := h.1; omega)).c) := by
  obtain ⟨g, o, e, hg, hc⟩ := h.2.1 (by omega)
  exact ⟨g, o, e, hg, hc i (by have := h.1; omega)⟩
theorem Things.nil (w : World) (A : Option Addr) (len : Nat) : Things w A 0 len [] := ⟨rfl, fun h => absurd h (by omega), fun x hx => by cases hx⟩
theorem Things.news {w : World} {g o n len : Nat} {L : List Th} (h : Things w (some ⟨g, o, none⟩) n len L) (hn : 0 < n) : ∀ j u, (thCells len L)[j]? = some u → w.cell? ((⟨g, o, none⟩ : Addr).add j) = some u := by
  intro j u hu
  obtain ⟨g', o', e, _, hc⟩ := h.2.1 hn
  injection e with e
  injection e with e1 e2
  subst e1 e2
  have hj : j < L.length * 3 := by
    have := (List.getElem?_eq_some_iff.1 hu).1
    rwa [length_thCells] at this
  obtain ⟨h0, h1, h2⟩ := thCells_at len L (j / 3) (by omega)
  obtain ⟨c0, c1, c2⟩ := hc (j / 3) (by omega)
  rw [Go.WideShapes.add_plain]
  have hr : j = j / 3 * 3 ∨ j = j / 3 * 3 + 1 ∨ j = j / 3 * 3 + 2 := by omega
  rcases hr with e | e | e
  · rw [← e] at h0 c0; rw [c0, ← h0, hu]
  · rw [← e] at h1; rw [Nat.add_assoc, ← e] at c1; rw [c1, ← h1, hu]
  · rw [← e] at h2; rw [Nat.add_assoc, ← e] at c2; rw [c2, ← h2, hu]
end Go.Proofs.YtghegmbafbpnjaaDoor
namespace Go.Proofs.YtghegmbafbpnjaaDoor
set_option maxRecDepth 100000
open Go Go.RowKit
theorem getD_mid {d A X B : List (Nat × Nat)} {i : Nat} (h : d = A ++ X ++ B) (h1 : A.length ≤ i) (h2 : i < A.length + X.length) : d.getD i (0, 0) = X[i - A.length]'(by omega) := by
  subst h
  rw [List.getD_eq_getElem?_getD, List.append_assoc, List.getElem?_append_right h1, List.getElem?_append_left (by omega), List.getElem?_eq_getElem (by omega)]; rfl
theorem last_take {X : List (Nat × Nat)} {k : Nat} (h : k < X.length) : (X.take (k + 1)).getLast? = some X[k] := by
  rw [List.take_succ_eq_append_getElem h]; exact List.getLast?_concat
theorem head_drop {X : List (Nat × Nat)} {k : Nat} (h : k < X.length) : (X.drop k).head? = some X[k] := by
  rw [List.drop_eq_getElem_cons h]; rfl
theorem head_all {X : List (Nat × Nat)} {x : Nat × Nat} (h : Srt X) (hh : ∀ y, X.head? = some y → lx x y) : ∀ y ∈ X, lx x y := by
  intro y hy
  cases X with
  | nil => cases hy
  | cons z X =>
    have hz := hh z rfl
    rcases List.mem_cons.1 hy with rfl | hy
    · exact hz
    · exact lx_trans hz ((List.pairwise_cons.1 h).1 y hy)
set_option maxRecDepth 1000000 in
set_option maxHeartbeats 4000000 in
theorem sym_left {w : World} {g o n cap a m b : Nat} {A Y B : List (Nat × Nat)} {x : Nat × Nat} (hd : CL w g o (A ++ x :: Y ++ B)) (hdl : (A ++ x :: Y ++ B).length = n) (hn : n ≤ 1000) (hgl : g < w.heap.size)
    (ha : a = A.length) (hm : m = a + 1) (hb : b = m + Y.length) (hY : Srt Y) (hc : ∀ y ∈ Y, x.1 < y.1) :
    Calls Tryd.prog 89 #[.slice (some ⟨g, o, none⟩) n cap, .int .i64 a, .int .i64 m, .int .i64 b, .func (.func 77) #[] #[]] w fun e w' => e = .returned (.tuple #[]) ∧ (∃ S, Srt S ∧ S.Perm (x :: Y) ∧ CL w' g o (A ++ S ++ B)) ∧ But [g] w w' := by
  have mixed : Tryd.prog.follows .mixedOrders = true := by kernel_rfl
  have hbn : b ≤ n := by simp at hdl; omega
  have hma : (m : Int) - (a : Int) = 1 := by omega
  have hma2 : a < m := by omega
  have hmb : m ≤ b := by omega
  have HA := Lib.hid ha
  have HM := Lib.hid hm
  have HBB := Lib.hid hb
  have HDL := Lib.hid hdl
  have HSY := Lib.hid hY
  clear ha hm hb hdl hY
  go_enter Tryd.func89, Tryd.ntmps89
  go_wp2
  go_loopw [10, 11] (fun iv jv wr => ∃ i j : Nat, m ≤ i ∧ i ≤ j ∧ j ≤ b ∧ iv = .int .i64 i ∧ jv = .int .i64 j ∧ (∀ y, (Y.take (i - m)).getLast? = some y → lx y x) ∧ (∀ y, (Y.drop (j - m)).head? = some y → lx x y) ∧ CL wr g o (A ++ x :: Y ++ B) ∧ But [g] w wr) (fun iv jv _ => (intOf jv).toNat - (intOf iv).toNat)
  case atStart => exact ⟨m, b, Nat.le_refl _, hmb, Nat.le_refl _, rfl, rfl, by simp, by have := HBB.out; rw [List.drop_of_length_le (by omega)]; simp, hd, But.refl _ _⟩
  case round =>
    obtain ⟨i, j, hmi, hij, hjb, rfl, rfl, h1, h2, hd', hB⟩ := hrel
    clear hd hma
    have hgj : g < wr.heap.size := Nat.lt_of_lt_of_le hgl hB.size
    by_cases hlt : i < j
    · obtain ⟨h, hh⟩ : ∃ h, h = (i + j) / 2 := ⟨_, rfl⟩
      have hhi : ((i : Int) + (j : Int)) / 2 = (h : Int) := by omega
      have hih : i ≤ h ∧ h < j := by omega
      have hhn : h < n := by omega
      have hgx := getD_at (d := A ++ x :: Y ++ B) (A := A) (x := x) (B := Y ++ B) (i := a) (by simp) HA.out
      have hym : h - m < Y.length := by have := HBB.out; omega
      have hgy : (A ++ x :: Y ++ B).getD h (0, 0) = Y[h - m]'hym := by
        have := getD_mid (d := A ++ x :: Y ++ B) (A := A ++ [x]) (X := Y) (B := B) (i := h) (by simp) (by have := HA.out; have := HM.out; simp; omega) (by have := HA.out; have := HM.out; have := HBB.out; simp; omega)
        rw [this]; congr 1; have := HA.out; have := HM.out; simp; omega
      have hlt1 := last_take hym
      have hhd1 := head_drop hym
      have hcy := hc _ (List.getElem_mem hym)
      generalize Y[h - m]'hym = y at *
      have x0' := fun n' os => ((hd'.grow hgj n' os).get (i := a) (by have := HDL.out; omega) hgx).1
      have x1' := fun n' os => ((hd'.grow hgj n' os).get (i := a) (by have := HDL.out; omega) hgx).2.1
      have y0' := fun n' os => ((hd'.grow hgj n' os).get (i := h) (by have := HDL.out; omega) hgy).1
      have y1' := fun n' os => ((hd'.grow hgj n' os).get (i := h) (by have := HDL.out; omega) hgy).2.1
      have hcg := fun n' os => cmp_coins y.1 y.2 x.1 x.2 (Sort.grow (wr.drewN n') os)
      have hz0 : (0 : Int) ≤ (h : Int) := by omega
      have hz1 : (h : Int) < (n : Int) := by omega
      have hz2 : (0 : Int) ≤ (a : Int) := by omega
      have hz3 : (a : Int) < (n : Int) := by omega
      have HD := Lib.hid hd'
      have HB := Lib.hid hB
      have H1 := Lib.hid h1
      have H2 := Lib.hid h2
      have HL1 := Lib.hid hlt1
      have HL2 := Lib.hid hhd1
      have HC := Lib.hid hc
      have HCY := Lib.hid hcy
      clear hd' hB h1 h2 hlt1 hhd1 hgx hgy hh hc hcy
      by_cases hlv : (y.2 : Int) < (x.2 : Int)
      · have hcv := cmp_neg hlv
        generalize cmpOf (y.2 : Int) (x.2 : Int) = cv at *
        go_wp2_with fail
        go_quiet_grown (first | (go_at_call 77; refine Calls.grown_of (hcg _ _)))
        go_wp2
        go_roundw
        case rel =>
          refine ⟨h + 1, j, by omega, by omega, hjb, by go_num, rfl, ?_, H2.out, HD.out.grow hgj nq osq, HB.out.grow nq osq⟩
          intro z hz
          rw [show h + 1 - m = (h - m) + 1 from by omega, HL1.out] at hz
          obtain rfl := Option.some.inj hz
          exact .inl (by omega)
        case measure => simp [intOf]; omega
      · have hcv := cmp_not hlv
        generalize cmpOf (y.2 : Int) (x.2 : Int) = cv at *
        go_wp2_with fail
        go_quiet_grown (first | (go_at_call 77; refine Calls.grown_of (hcg _ _)))
        go_wp2
        go_roundw
        case rel =>
          refine ⟨i, h, hmi, by omega, by omega, rfl, rfl, H1.out, ?_, HD.out.grow hgj nq osq, HB.out.grow nq osq⟩
          intro z hz
          rw [HL2.out] at hz
          obtain rfl := Option.some.inj hz
          have := HCY.out
          unfold lx; omega
        case measure => simp [intOf]; omega
    · obtain rfl : i = j := by omega
      have HD := Lib.hid hd'
      have HB := Lib.hid hB
      have H1 := Lib.hid h1
      have H2 := Lib.hid h2
      have HC := Lib.hid hc
      have hi1 : i - m ≤ Y.length := by have := HBB.out; omega
      clear hd' hB h1 h2 hc
      obtain ⟨wo, rfl⟩ : ∃ wo : World, wo = wr := ⟨_, rfl⟩
      go_wp2
      go_loopw [13] (fun kv wr => ∃ (k : Nat) (P Q : List (Nat × Nat)), kv = .int .i64 k ∧ A.length + P.length = k ∧ P ++ Q = Y ∧ P.length ≤ i - m ∧ CL wr g o (A ++ P ++ x :: Q ++ B) ∧ But [g] w wr) (fun kv _ => i - (intOf kv).toNat)
      case atStart => exact ⟨a, [], Y, rfl, by have := HA.out; simp; omega, rfl, by simp, by simpa using HD.out, HB.out⟩
      case round =>
        obtain ⟨k, P, Q, rfl, hkl, hPQ, hPl, hdk, hBk⟩ := hrel
        have hLk : (A ++ P ++ x :: Q ++ B).length = n := by rw [← HDL.out, ← hPQ]; simp; omega
        by_cases hkt : P.length < i - m
        · have hk1 : (k : Int) < (i : Int) - 1 := by have := HA.out; have := HM.out; omega
          obtain ⟨y, Q, rfl⟩ : ∃ y Q', Q = y :: Q' := by
            cases Q with
            | nil => exfalso; have := congrArg List.length hPQ; simp at this; omega
            | cons y Q => exact ⟨y, Q, rfl⟩
          have hx := getD_at (d := A ++ P ++ x :: (y :: Q) ++ B) (A := A ++ P) (x := x) (B := y :: Q ++ B) (i := k) (by simp) (by simp; omega)
          have hy := getD_at (d := A ++ P ++ x :: (y :: Q) ++ B) (A := A ++ P ++ [x]) (x := y) (B := Q ++ B) (i := k + 1) (by simp) (by simp; omega)
          have hkn : k + 1 < n := by simp at hLk; omega
          obtain ⟨x0', x1', x2', x3'⟩ := hdk.get (i := k) (by omega) hx
          obtain ⟨y0', y1', y2', y3'⟩ := hdk.get (i := k + 1) (by omega) hy
          obtain ⟨xs, xc⟩ := x
          obtain ⟨ys, yc⟩ := y
          dsimp only at x0' x1' y0' y1'
          have p0 : (0 : Int) ≤ (k : Int) := by omega
          have p1 : (k : Int) < (n : Int) := by omega
          have q0 : (0 : Int) ≤ (k : Int) + 1 := by omega
          have q1 : (k : Int) + 1 < (n : Int) := by omega
          have e0 : ((k : Int) + 1).toNat = k + 1 := by omega
          have HX := Lib.hid hx
          have HY := Lib.hid hy
          have HQ := Lib.hid hdk
          have HBQ := Lib.hid hBk
          have HPQ := Lib.hid hPQ
          have HLK := Lib.hid hLk
          have HKL := Lib.hid hkl
          clear hx hy hdk hBk hPQ hLk hkl
          go_wp2
          go_region
          go_wp2
          go_roundw
          case rel =>
            refine ⟨k + 1, P ++ [(ys, yc)], Q, by go_num, by have := HKL.out; simp; omega, by rw [← HPQ.out]; simp, by simp; omega, ?_, (HBQ.out.swap _ _ _ _).drew⟩
            have e : sw (A ++ P ++ (xs, xc) :: ((ys, yc) :: Q) ++ B) k (k + 1) = A ++ (P ++ [(ys, yc)]) ++ (xs, xc) :: Q ++ B := by
              have := sw_next (A ++ P) (Q ++ B) (xs, xc) (ys, yc) k (k + 1) (by have := HKL.out; simp; omega) rfl
              simpa using this
            rw [← e]
            exact (HQ.out.swap (by have := HLK.out; omega) (by have := HLK.out; omega) (by omega) HX.out HY.out).heap rfl
          case measure => simp [intOf]; omega
        · have hk1 : ¬ (k : Int) < (i : Int) - 1 := by have := HA.out; have := HM.out; omega
          have hP : P = Y.take (i - m) := by rw [← hPQ, List.take_left' (by omega)]
          have hQ : Q = Y.drop (i - m) := by rw [← hPQ, List.drop_left' (by omega)]
          go_wp2
          refine bodyPost_ret (results_none rfl _ _ _) rfl ⟨rfl, ⟨P ++ x :: Q, srt_insert (by rw [hPQ]; exact HSY.out) (by rw [hP]; exact H1.out) ?_, ?_, by simpa using hdk⟩, hBk⟩
          · rw [hQ]
            have hs := HSY.out
            rw [← List.take_append_drop (i - m) Y] at hs
            exact head_all (List.pairwise_append.1 hs).2.1 H2.out
          · rw [← hPQ]
            exact List.perm_middle
end Go.Proofs.YtghegmbafbpnjaaDoor
namespace Go.Proofs.YtghegmbafbpnjaaDoor
set_option maxRecDepth 100000
open Go Go.RowKit
theorem srt_put {S1 S2 : List (Nat × Nat)} {x : Nat × Nat} (h : Srt (S1 ++ S2)) (h1 : ∀ y, S1.getLast? = some y → lx y x) (h2 : ∀ y, S2.head? = some y → lx x y) : Srt (S1 ++ x :: S2) :=
  srt_insert h h1 (head_all (List.pairwise_append.1 h).2.1 h2)

set_option maxRecDepth 1000000 in
set_option maxHeartbeats 4000000 in
theorem sym_right {w : World} {g o n cap a m b : Nat} {A X B : List (Nat × Nat)} {y : Nat × Nat} (hd : CL w g o (A ++ X ++ y :: B)) (hdl : (A ++ X ++ y :: B).length = n) (hn : n ≤ 1000) (hgl : g < w.heap.size)
    (ha : a = A.length) (hm : m = a + X.length) (hb : b = m + 1) (hX2 : 2 ≤ X.length) (hX : Srt X) (hc : ∀ x ∈ X, x.1 < y.1) :
    Calls Tryd.prog 89 #[.slice (some ⟨g, o, none⟩) n cap, .int .i64 a, .int .i64 m, .int .i64 b, .func (.func 77) #[] #[]] w fun e w' => e = .returned (.tuple #[]) ∧ (∃ S, Srt S ∧ S.Perm (X ++ [y]) ∧ CL w' g o (A ++ S ++ B)) ∧ But [g] w w' := by
  have mixed : Tryd.prog.follows .mixedOrders = true := by kernel_rfl
  have hbn : b ≤ n := by simp at hdl; omega
  have hma : ((m : Int) - (a : Int) == 1) = false := by simp; omega
  have hbm : (b : Int) - (m : Int) = 1 := by omega
  have hma2 : a ≤ m := by omega
  have hmb : m < b := by omega
  have HA := Lib.hid ha
  have HM := Lib.hid hm
  have HBB := Lib.hid hb
  have HDL := Lib.hid hdl
  have HSX := Lib.hid hX
  clear ha hm hb hdl hX
  go_enter Tryd.func89, Tryd.ntmps89
  go_wp2
  go_loopw [14, 15] (fun iv jv wr => ∃ i j : Nat, a ≤ i ∧ i ≤ j ∧ j ≤ m ∧ iv = .int .i64 i ∧ jv = .int .i64 j ∧ (∀ x, (X.take (i - a)).getLast? = some x → lx x y) ∧ (∀ x, (X.drop (j - a)).head? = some x → lx y x) ∧ CL wr g o (A ++ X ++ y :: B) ∧ But [g] w wr) (fun iv jv _ => (intOf jv).toNat - (intOf iv).toNat)
  case atStart => exact ⟨a, m, Nat.le_refl _, hma2, Nat.le_refl _, rfl, rfl, by simp, by have := HM.out; rw [List.drop_of_length_le (by omega)]; simp, hd, But.refl _ _⟩
  case round =>
    obtain ⟨i, j, hmi, hij, hjb, rfl, rfl, h1, h2, hd', hB⟩ := hrel
    clear hd hma hbm
    have hgj : g < wr.heap.size := Nat.lt_of_lt_of_le hgl hB.size
    by_cases hlt : i < j
    · obtain ⟨h, hh⟩ : ∃ h, h = (i + j) / 2 := ⟨_, rfl⟩
      have hhi : ((i : Int) + (j : Int)) / 2 = (h : Int) := by omega
      have hih : i ≤ h ∧ h < j := by omega
      have hhn : h < n := by omega
      have hgy := getD_at (d := A ++ X ++ y :: B) (A := A ++ X) (x := y) (B := B) (i := m) rfl (by have := HM.out; have := HA.out; simp; omega)
      have hym : h - a < X.length := by have := HM.out; omega
      have hgx : (A ++ X ++ y :: B).getD h (0, 0) = X[h - a]'hym := by
        have := getD_mid (d := A ++ X ++ y :: B) (A := A) (X := X) (B := y :: B) (i := h) rfl (by have := HA.out; omega) (by have := HA.out; have := HM.out; omega)
        rw [this]; congr 1; have := HA.out; omega
      have hlt1 := last_take hym
      have hhd1 := head_drop hym
      have hcy := hc _ (List.getElem_mem hym)
      generalize X[h - a]'hym = x at *
      have x0' := fun n' os => ((hd'.grow hgj n' os).get (i := h) (by have := HDL.out; omega) hgx).1
      have x1' := fun n' os => ((hd'.grow hgj n' os).get (i := h) (by have := HDL.out; omega) hgx).2.1
      have y0' := fun n' os => ((hd'.grow hgj n' os).get (i := m) (by have := HDL.out; omega) hgy).1
      have y1' := fun n' os => ((hd'.grow hgj n' os).get (i := m) (by have := HDL.out; omega) hgy).2.1
      have hcg := fun n' os => cmp_coins y.1 y.2 x.1 x.2 (Sort.grow (wr.drewN n') os)
      have hz0 : (0 : Int) ≤ (h : Int) := by omega
      have hz1 : (h : Int) < (n : Int) := by omega
      have hz2 : (0 : Int) ≤ (m : Int) := by omega
      have hz3 : (m : Int) < (n : Int) := by omega
      have HD := Lib.hid hd'
      have HB := Lib.hid hB
      have H1 := Lib.hid h1
      have H2 := Lib.hid h2
      have HL1 := Lib.hid hlt1
      have HL2 := Lib.hid hhd1
      have HC := Lib.hid hc
      have HCY := Lib.hid hcy
      clear hd' hB h1 h2 hlt1 hhd1 hgx hgy hh hc hcy
      by_cases hlv : (y.2 : Int) < (x.2 : Int)
      · have hcv := cmp_neg hlv
        generalize cmpOf (y.2 : Int) (x.2 : Int) = cv at *
        have hcb : (!decide (cv < 0)) = false := by simp; omega
        go_wp2_with fail
        go_quiet_grown (first | (go_at_call 77; refine Calls.grown_of (hcg _ _)))
        go_wp2
        go_roundw
        case rel =>
          refine ⟨i, h, hmi, by omega, by omega, rfl, rfl, H1.out, ?_, HD.out.grow hgj nq osq, HB.out.grow nq osq⟩
          intro z hz
          rw [HL2.out] at hz
          obtain rfl := Option.some.inj hz
          exact .inl (by omega)
        case measure => simp [intOf]; omega
      · have hcv := cmp_not hlv
        generalize cmpOf (y.2 : Int) (x.2 : Int) = cv at *
        have hcb : (!decide (cv < 0)) = true := by simp; omega
        go_wp2_with fail
        go_quiet_grown (first | (go_at_call 77; refine Calls.grown_of (hcg _ _)))
        go_wp2
        go_roundw
        case rel =>
          refine ⟨h + 1, j, by omega, by omega, hjb, by go_num, rfl, ?_, H2.out, HD.out.grow hgj nq osq, HB.out.grow nq osq⟩
          intro z hz
          rw [show h + 1 - a = (h - a) + 1 from by omega, HL1.out] at hz
          obtain rfl := Option.some.inj hz
          have := HCY.out
          unfold lx; omega
        case measure => simp [intOf]; omega
    · obtain rfl : i = j := by omega
      have HD := Lib.hid hd'
      have HB := Lib.hid hB
      have H1 := Lib.hid h1
      have H2 := Lib.hid h2
      have HC := Lib.hid hc
      have hi1 : i - a ≤ X.length := by have := HM.out; omega
      clear hd' hB h1 h2 hc
      obtain ⟨wo, rfl⟩ : ∃ wo : World, wo = wr := ⟨_, rfl⟩
      go_wp2
      go_loopw [17] (fun kv wr => ∃ (k : Nat) (P Q : List (Nat × Nat)), kv = .int .i64 k ∧ A.length + P.length = k ∧ P ++ Q = X ∧ i - a ≤ P.length ∧ CL wr g o (A ++ P ++ y :: Q ++ B) ∧ But [g] w wr) (fun kv _ => (intOf kv).toNat)
      case atStart => exact ⟨m, X, [], rfl, by have := HA.out; have := HM.out; omega, by simp, hi1, by simpa using HD.out, HB.out⟩
      case round =>
        obtain ⟨k, P, Q, rfl, hkl, hPQ, hPl, hdk, hBk⟩ := hrel
        have hLk : (A ++ P ++ y :: Q ++ B).length = n := by rw [← HDL.out, ← hPQ]; simp; omega
        by_cases hkt : i - a < P.length
        · have hk1 : decide (i < k) = true := by have := HA.out; have := HM.out; simp; omega
          have hk2 : (i : Int) < (k : Int) := by have := HA.out; have := HM.out; omega
          rcases List.eq_nil_or_concat P with e | ⟨P, x, e⟩
          · subst e; exfalso; simp at hkt
          rw [List.concat_eq_append] at e
          subst e
          obtain ⟨kp, rfl⟩ : ∃ kp, k = kp + 1 := ⟨k - 1, by simp at hkl; omega⟩
          have hkl2 : A.length + P.length = kp := by simp at hkl; omega
          have hx := getD_at (d := A ++ (P ++ [x]) ++ y :: Q ++ B) (A := A ++ P) (x := x) (B := y :: Q ++ B) (i := kp) (by simp) (by simp; omega)
          have hy := getD_at (d := A ++ (P ++ [x]) ++ y :: Q ++ B) (A := A ++ P ++ [x]) (x := y) (B := Q ++ B) (i := kp + 1) (by simp) (by simp; omega)
          have hkn : kp + 1 < n := by simp at hLk; omega
          obtain ⟨x0', x1', x2', x3'⟩ := hdk.get (i := kp) (by omega) hx
          obtain ⟨y0', y1', y2', y3'⟩ := hdk.get (i := kp + 1) (by omega) hy
          obtain ⟨xs, xc⟩ := x
          obtain ⟨ys, yc⟩ := y
          dsimp only at x0' x1' y0' y1'
          have hwp : IntKind.i64.wrap (kp : Int) = (kp : Int) := by rw [IntKind.wrap_i64]; omega
          have p0 : (0 : Int) ≤ (kp : Int) := by omega
          have p1 : (kp : Int) < (n : Int) := by omega
          have q0 : (0 : Int) ≤ (kp : Int) + 1 := by omega
          have q1 : (kp : Int) + 1 < (n : Int) := by omega
          have e0 : ((kp : Int) + 1).toNat = kp + 1 := by omega
          have HX := Lib.hid hx
          have HY := Lib.hid hy
          have HQ := Lib.hid hdk
          have HBQ := Lib.hid hBk
          have HPQ := Lib.hid hPQ
          have HLK := Lib.hid hLk
          have HKL := Lib.hid hkl2
          have HKT := Lib.hid hkt
          clear hx hy hdk hBk hPQ hLk hkl hkl2 hkt hPl
          go_wp2
          go_region
          go_wp2
          go_roundw
          case rel =>
            refine ⟨kp, P, (xs, xc) :: Q, rfl, HKL.out, by rw [← HPQ.out]; simp, by have := HKT.out; simp at this; omega, ?_, (HBQ.out.swap _ _ _ _).drew⟩
            have e : sw (A ++ (P ++ [(xs, xc)]) ++ (ys, yc) :: Q ++ B) (kp + 1) kp = A ++ P ++ (ys, yc) :: ((xs, xc) :: Q) ++ B := by
              rw [sw_comm _ _ _ (by omega)]
              have := sw_next (A ++ P) (Q ++ B) (xs, xc) (ys, yc) kp (kp + 1) (by have := HKL.out; simp; omega) rfl
              simpa using this
            rw [← e]
            exact (HQ.out.swap (by have := HLK.out; omega) (by have := HLK.out; omega) (by omega) HY.out HX.out).heap rfl
          case measure => simp [intOf]; try omega
        · have hk1 : decide (i < k) = false := by have := HA.out; have := HM.out; simp; omega
          have hk2 : ¬ (i : Int) < (k : Int) := by have := HA.out; have := HM.out; omega
          have hPl2 : P.length = i - a := by omega
          have hP : P = X.take (i - a) := by rw [← hPQ, List.take_left' hPl2]
          have hQ : Q = X.drop (i - a) := by rw [← hPQ, List.drop_left' hPl2]
          go_wp2
          refine bodyPost_ret (results_none rfl _ _ _) rfl ⟨rfl, ⟨P ++ y :: Q, srt_put (by rw [hPQ]; exact HSX.out) (by rw [hP]; exact H1.out) (by rw [hQ]; exact H2.out), ?_, by simpa using hdk⟩, hBk⟩
          rw [← hPQ]
          have : (P ++ y :: Q).Perm (y :: (P ++ Q)) := List.perm_middle
          exact this.trans (List.perm_append_singleton y (P ++ Q)).symm
end Go.Proofs.YtghegmbafbpnjaaDoor
namespace Go.Proofs.YtghegmbafbpnjaaDoor
set_option maxRecDepth 100000
open Go Go.RowKit
/-- Merges of so many coins and fewer sort. -/
def SymOk (N : Nat) : Prop := ∀ (w : World) (g o n cap a m b : Nat) (A X Y B : List (Nat × Nat)), X.length + Y.length ≤ N → CL w g o (A ++ X ++ Y ++ B) → (A ++ X ++ Y ++ B).length = n → n ≤ 1000 → g < w.heap.size →
  a = A.length → m = a + X.length → b = m + Y.length → 0 < X.length → 0 < Y.length → Srt X → Srt Y → Crs X Y →
  Calls Tryd.prog 89 #[.slice (some ⟨g, o, none⟩) n cap, .int .i64 a, .int .i64 m, .int .i64 b, .func (.func 77) #[] #[]] w fun e w' => e = .returned (.tuple #[]) ∧ (∃ S, Srt S ∧ S.Perm (X ++ Y) ∧ CL w' g o (A ++ S ++ B)) ∧ But [g] w w'
/-- What is left of the first list ahead of s, and of the second one ahead of q, is in order with what stands behind. -/
def Low (X Y : List (Nat × Nat)) (s q : Nat) : Prop := ∀ x y, (X.take s).getLast? = some x → (Y.drop q).head? = some y → lx x y
def High (X Y : List (Nat × Nat)) (s q : Nat) : Prop := ∀ y x, (Y.take q).getLast? = some y → (X.drop s).head? = some x → lx y x

theorem low_nil {X Y : List (Nat × Nat)} {s q : Nat} (h : s = 0 ∨ Y.length ≤ q) : Low X Y s q := by
  intro x y hx hy
  rcases h with rfl | h
  · simp at hx
  · rw [List.drop_of_length_le h] at hy; cases hy
theorem high_nil {X Y : List (Nat × Nat)} {s q : Nat} (h : q = 0 ∨ X.length ≤ s) : High X Y s q := by
  intro x y hx hy
  rcases h with rfl | h
  · simp at hx
  · rw [List.drop_of_length_le h] at hy; cases hy
/-- The ones from these two lists stand in order, ahead of R. -/
def Mid (w W : World) (g o : Nat) (A L R : List (Nat × Nat)) : Prop := ∃ S, Srt S ∧ S.Perm L ∧ CL W g o (A ++ S ++ R) ∧ But [g] w W
def Mid2 (w W : World) (g o : Nat) (A L M R : List (Nat × Nat)) : Prop := ∃ S T, Srt S ∧ S.Perm L ∧ Srt T ∧ T.Perm M ∧ CL W g o (A ++ S ++ T ++ R) ∧ But [g] w W
def Turned (w W : World) (g o : Nat) (d : List (Nat × Nat)) : Prop := CL W g o d ∧ But [g] w W
theorem Crs.take {X Y : List (Nat × Nat)} (h : Crs X Y) (s q : Nat) : Crs (X.take s) (Y.take q) := fun x hx y hy => h x (List.mem_of_mem_take hx) y (List.mem_of_mem_take hy)
theorem Crs.drop {X Y : List (Nat × Nat)} (h : Crs X Y) (s q : Nat) : Crs (X.drop s) (Y.drop q) := fun x hx y hy => h x (List.mem_of_mem_drop hx) y (List.mem_of_mem_drop hy)
theorem Srt.take {X : List (Nat × Nat)} (h : Srt X) (s : Nat) : Srt (X.take s) := List.Pairwise.sublist (List.take_sublist _ _) h
theorem Srt.drop {X : List (Nat × Nat)} (h : Srt X) (s : Nat) : Srt (X.drop s) := List.Pairwise.sublist (List.drop_sublist _ _) h
theorem srt_one {X Y : List (Nat × Nat)} (hX : Srt X) (hY : Srt Y) (h : X = [] ∨ Y = []) : Srt (X ++ Y) := by
  rcases h with rfl | rfl
  · simpa using hY
  · simpa using hX
theorem swap_one {X Y : List (Nat × Nat)} (h : X = [] ∨ Y = []) : X ++ Y = Y ++ X := by
  rcases h with rfl | rfl <;> simp

set_option maxRecDepth 1000000 in
set_option maxHeartbeats 8000000 in
theorem sym_more {N : Nat} (IH : SymOk N) {w : World} {g o n cap a m b : Nat} {A X Y B : List (Nat × Nat)} (hN : X.length + Y.length ≤ N + 1) (hd : CL w g o (A ++ X ++ Y ++ B)) (hdl : (A ++ X ++ Y ++ B).length = n) (hn : n ≤ 1000) (hgl : g < w.heap.size)
    (ha : a = A.length) (hm : m = a + X.length) (hb : b = m + Y.length) (hX2 : 2 ≤ X.length) (hY2 : 2 ≤ Y.length) (hX : Srt X) (hY : Srt Y) (hc : Crs X Y) :
    Calls Tryd.prog 89 #[.slice (some ⟨g, o, none⟩) n cap, .int .i64 a, .int .i64 m, .int .i64 b, .func (.func 77) #[] #[]] w fun e w' => e = .returned (.tuple #[]) ∧ (∃ S, Srt S ∧ S.Perm (X ++ Y) ∧ CL w' g o (A ++ S ++ B)) ∧ But [g] w w' := by
  have mixed : Tryd.prog.follows .mixedOrders = true := by kernel_rfl
  have hbn : b ≤ n := by simp at hdl; omega
  have hma : ((m : Int) - (a : Int) == 1) = false := by simp; omega
  have hbm : ((b : Int) - (m : Int) == 1) = false := by simp; omega
  obtain ⟨mid, hmid⟩ : ∃ mid, mid = (a + b) / 2 := ⟨_, rfl⟩
  have hmi : ((a : Int) + (b : Int)) / 2 = (mid : Int) := by omega
  have hab : a + 2 ≤ m ∧ m + 2 ≤ b := by omega
  have hmb : a < mid ∧ mid < b := by omega
  obtain ⟨lo, hi, l1, l2, l3, l4, l5, l6, l7, hcase⟩ : ∃ lo hi : Nat, a ≤ lo ∧ lo ≤ hi ∧ hi ≤ m ∧ hi ≤ mid ∧ mid + m ≤ lo + b ∧ (lo = a ∨ lo + b = mid + m) ∧ (hi = m ∨ hi = mid) ∧ ((decide (mid < m) = true ∧ (mid : Int) + (m : Int) - (b : Int) = (lo : Int) ∧ Hid (lo = lo) ∧ Hid (hi = mid)) ∨ (decide (mid < m) = false ∧ (0 : Int) ≤ (m : Int) ∧ Hid (lo = a) ∧ Hid (hi = m))) := by
    by_cases h : mid < m
    · exact ⟨mid + m - b, mid, by omega, by omega, by omega, by omega, by omega, by omega, by omega, .inl ⟨by simpa using h, by omega, Lib.hid rfl, Lib.hid rfl⟩⟩
    · exact ⟨a, m, by omega, by omega, by omega, by omega, by omega, by omega, by omega, .inr ⟨by simpa using h, by omega, Lib.hid rfl, Lib.hid rfl⟩⟩
  obtain ⟨p, hp⟩ : ∃ p, p = mid + m - 1 := ⟨_, rfl⟩
  have hpi : (mid : Int) + (m : Int) - 1 = (p : Int) := by omega
  have HA := Lib.hid ha
  have HM := Lib.hid hm
  have HBB := Lib.hid hb
  have HDL := Lib.hid hdl
  have HSX := Lib.hid hX
  have HSY := Lib.hid hY
  have HP := Lib.hid hp
  have HN := Lib.hid hN
  have HIH := Lib.hid IH
  have L6 := Lib.hid l6
  have L7 := Lib.hid l7
  have HC := Lib.hid hc
  clear ha hm hb hdl hX hY hp hN IH l6 l7 hmid hc
  rcases hcase with ⟨d1, d2, HL, HH⟩ | ⟨d1, d2, HL, HH⟩
  all_goals
    go_enter Tryd.func89, Tryd.ntmps89
    go_wp2
    clear d2
    go_loopw [20, 21] (fun iv jv wr => ∃ i j : Nat, lo ≤ i ∧ i ≤ j ∧ j ≤ hi ∧ iv = .int .i64 i ∧ jv = .int .i64 j ∧ Low X Y (i - a) (mid - i) ∧ High X Y (j - a) (mid - j) ∧ CL wr g o (A ++ X ++ Y ++ B) ∧ But [g] w wr) (fun iv jv _ => (intOf jv).toNat - (intOf iv).toNat)
    case atStart =>
      refine ⟨lo, hi, Nat.le_refl _, l2, Nat.le_refl _, by first | rfl | rw [HL.out], by rw [HH.out], low_nil ?_, high_nil ?_, hd, But.refl _ _⟩
      · have := L6.out; have := HBB.out; omega
      · have := L7.out; have := HM.out; omega
    case round =>
      obtain ⟨i, j, hmi', hij, hjb, rfl, rfl, h1, h2, hd', hB⟩ := hrel
      clear hd hma hbm HL HH
      have hgj : g < wr.heap.size := Nat.lt_of_lt_of_le hgl hB.size
      by_cases hlt : i < j
      · obtain ⟨h, hh⟩ : ∃ h, h = (i + j) / 2 := ⟨_, rfl⟩
        have hhi : ((i : Int) + (j : Int)) / 2 = (h : Int) := by omega
        have hih : i ≤ h ∧ h < j := by omega
        have hhn : h < n := by omega
        obtain ⟨h', hh'⟩ : ∃ h', h' = mid + m - 1 - h := ⟨_, rfl⟩
        have hpc : (p : Int) - (h : Int) = (h' : Int) := by have := HP.out; omega
        have hwp : IntKind.i64.wrap ((p : Int) - (h : Int)) = (h' : Int) := by rw [IntKind.wrap_i64]; have := HP.out; omega
        have hwp2 : IntKind.i64.wrap (h' : Int) = (h' : Int) := by rw [IntKind.wrap_i64]; have := HP.out; omega
        have hhn' : m ≤ h' ∧ h' < b := by omega
        have hxm : h - a < X.length := by have := HM.out; omega
        have hym : h' - m < Y.length := by have := HBB.out; omega
        have hgx : (A ++ X ++ Y ++ B).getD h (0, 0) = X[h - a]'hxm := by
          have := getD_mid (d := A ++ X ++ Y ++ B) (A := A) (X := X) (B := Y ++ B) (i := h) (by simp) (by have := HA.out; omega) (by have := HA.out; have := HM.out; omega)
          rw [this]; congr 1; have := HA.out; omega
        have hgy : (A ++ X ++ Y ++ B).getD h' (0, 0) = Y[h' - m]'hym := by
          have := getD_mid (d := A ++ X ++ Y ++ B) (A := A ++ X) (X := Y) (B := B) (i := h') (by simp) (by have := HA.out; have := HM.out; simp; omega) (by have := HA.out; have := HM.out; have := HBB.out; simp; omega)
          rw [this]; congr 1; have := HA.out; have := HM.out; simp; omega
        have hx1 := last_take hxm
        have hx2 := head_drop hxm
        have hy1 := last_take hym
        have hy2 := head_drop hym
        have hcy := HC.out _ (List.getElem_mem hxm) _ (List.getElem_mem hym)
        generalize X[h - a]'hxm = x at *
        generalize Y[h' - m]'hym = y at *
        have x0' := fun n' os => ((hd'.grow hgj n' os).get (i := h) (by have := HDL.out; omega) hgx).1
        have x1' := fun n' os => ((hd'.grow hgj n' os).get (i := h) (by have := HDL.out; omega) hgx).2.1
        have y0' := fun n' os => ((hd'.grow hgj n' os).get (i := h') (by have := HDL.out; omega) hgy).1
        have y1' := fun n' os => ((hd'.grow hgj n' os).get (i := h') (by have := HDL.out; omega) hgy).2.1
        have hcg := fun n' os => cmp_coins y.1 y.2 x.1 x.2 (Sort.grow (wr.drewN n') os)
        have hz0 : (0 : Int) ≤ (h : Int) := by omega
        have hz1 : (h : Int) < (n : Int) := by omega
        have hz2 : (0 : Int) ≤ (h' : Int) := by omega
        have hz3 : (h' : Int) < (n : Int) := by omega
        have hl1 : Low X Y (h + 1 - a) (mid - (h + 1)) ↔ lx x y := by
          unfold Low
          rw [show h + 1 - a = (h - a) + 1 from by omega, hx1, show mid - (h + 1) = h' - m from by omega, hy2]
          simp
        have hh1 : High X Y (h - a) (mid - h) ↔ lx y x := by
          unfold High
          rw [hx2, show mid - h = (h' - m) + 1 from by omega, hy1]
          simp
        have HD := Lib.hid hd'
        have HB := Lib.hid hB
        have H1 := Lib.hid h1
        have H2 := Lib.hid h2
        have HL1 := Lib.hid hl1
        have HH1 := Lib.hid hh1
        have HCY := Lib.hid hcy
        clear hd' hB h1 h2 hx1 hx2 hy1 hy2 hgx hgy hh hh' hcy hl1 hh1
        by_cases hlv : (y.2 : Int) < (x.2 : Int)
        · have hcv := cmp_neg hlv
          generalize cmpOf (y.2 : Int) (x.2 : Int) = cv at *
          have hcb : (!decide (cv < 0)) = false := by simp; omega
          go_wp2_with fail
          go_quiet_grown (first | (go_at_call 77; refine Calls.grown_of (hcg _ _)))
          go_wp2
          go_roundw
          case rel => exact ⟨i, h, hmi', by omega, by omega, rfl, rfl, H1.out, HH1.out.2 (.inl (by omega)), HD.out.grow hgj nq osq, HB.out.grow nq osq⟩
          case measure => simp [intOf]; omega
        · have hcv := cmp_not hlv
          generalize cmpOf (y.2 : Int) (x.2 : Int) = cv at *
          have hcb : (!decide (cv < 0)) = true := by simp; omega
          go_wp2_with fail
          go_quiet_grown (first | (go_at_call 77; refine Calls.grown_of (hcg _ _)))
          go_wp2
          go_roundw
          case rel => exact ⟨h + 1, j, by omega, by omega, hjb, by go_num, rfl, HL1.out.2 (by have := HCY.out; unfold lx; omega), H2.out, HD.out.grow hgj nq osq, HB.out.grow nq osq⟩
          case measure => simp [intOf]; omega
      · obtain rfl : i = j := by omega
        obtain ⟨E, hE⟩ : ∃ E, E = mid + m - i := ⟨_, rfl⟩
        have hEi : (mid : Int) + (m : Int) - (i : Int) = (E : Int) := by omega
        have hEm : m ≤ E ∧ E ≤ b ∧ mid ≤ E := by omega
        have hs1 : (X.take (i - a)).length = i - a := by have := HM.out; simp; omega
        have hs2 : (X.drop (i - a)).length = m - i := by have := HM.out; simp; omega
        have hq1 : (Y.take (mid - i)).length = mid - i := by have := HBB.out; simp; omega
        have hq2 : (Y.drop (mid - i)).length = b - E := by have := HBB.out; simp; omega
        have hXe := List.take_append_drop (i - a) X
        have hYe := List.take_append_drop (mid - i) Y
        have hall := halves (S1 := []) (S2 := []) (X1 := X.take (i - a)) (X2 := X.drop (i - a)) (Y1 := Y.take (mid - i)) (Y2 := Y.drop (mid - i)) (by rw [hXe]; exact HSX.out) (by rw [hYe]; exact HSY.out) h1 h2
        have hall2 : ∀ S1 S2, Srt S1 → Srt S2 → S1.Perm (X.take (i - a) ++ Y.take (mid - i)) → S2.Perm (X.drop (i - a) ++ Y.drop (mid - i)) → Srt (S1 ++ S2) ∧ (S1 ++ S2).Perm (X ++ Y) := by
          intro S1 S2 a1 a2 a3 a4
          have := halves (X1 := X.take (i - a)) (X2 := X.drop (i - a)) (Y1 := Y.take (mid - i)) (Y2 := Y.drop (mid - i)) (by rw [hXe]; exact HSX.out) (by rw [hYe]; exact HSY.out) h1 h2 a1 a2 a3 a4
          rw [hXe, hYe] at this
          exact this
        have k1 := HSX.out.take (i - a)
        have k2 := HSX.out.drop (i - a)
        have k3 := HSY.out.take (mid - i)
        have k4 := HSY.out.drop (mid - i)
        have k5 := HC.out.take (i - a) (mid - i)
        have k6 := HC.out.drop (i - a) (mid - i)
        have hd1 : CL wr g o (A ++ X.take (i - a) ++ X.drop (i - a) ++ Y.take (mid - i) ++ (Y.drop (mid - i) ++ B)) := by
          have : A ++ X.take (i - a) ++ X.drop (i - a) ++ Y.take (mid - i) ++ (Y.drop (mid - i) ++ B) = A ++ (X.take (i - a) ++ X.drop (i - a)) ++ (Y.take (mid - i) ++ Y.drop (mid - i)) ++ B := by simp only [List.append_assoc]
          rw [this, hXe, hYe]; exact hd'
        clear hall hXe hYe h1 h2 hd'
        generalize X.take (i - a) = X1 at *
        generalize X.drop (i - a) = X2 at *
        generalize Y.take (mid - i) = Y1 at *
        generalize Y.drop (mid - i) = Y2 at *
        have HALL := Lib.hid hall2
        have K1 := Lib.hid k1
        have K2 := Lib.hid k2
        have K3 := Lib.hid k3
        have K4 := Lib.hid k4
        have K5 := Lib.hid k5
        have K6 := Lib.hid k6
        have S1 := Lib.hid hs1
        have S2 := Lib.hid hs2
        have Q1 := Lib.hid hq1
        have Q2 := Lib.hid hq2
        have HD := Lib.hid hd1
        have HB := Lib.hid hB
        have HE := Lib.hid hE
        have hlen : A.length + X1.length + X2.length + Y1.length + Y2.length + B.length = n := by have h := HDL.out; have := HM.out; have := HBB.out; simp at h; omega
        have HLEN := Lib.hid hlen
        clear hall2 k1 k2 k3 k4 k5 k6 hs1 hs2 hq1 hq2 hd1 hB hE hlen
        obtain ⟨r1, hr1⟩ : ∃ r : Bool, r = decide (i < m ∧ m < E) := ⟨_, rfl⟩
        have Hr1 := Lib.hid hr1
        clear hr1
        go_upto_region 39 with (fail)
        go_cut [185] from 178 to 185 (fun c wx => c = .bool r1 ∧ wr = wx)
        case first =>
          by_cases c1 : i < m
          · have b1 : decide (i < m) = true := by simpa using c1
            by_cases c2 : m < E
            · obtain rfl : r1 = true := by have := Hr1.out; simp [c1, c2] at this; exact this
              go_wp2
              go_meet
              exact ⟨rfl, rfl⟩
            · obtain rfl : r1 = false := by have := Hr1.out; simp [c1, c2] at this; exact this
              go_wp2
              go_meet
              exact ⟨rfl, rfl⟩
          · have b1 : decide (i < m) = false := by simpa using c1
            obtain rfl : r1 = false := by have := Hr1.out; simp [c1] at this; exact this
            go_wp2
            go_meet
            exact ⟨rfl, rfl⟩
        case rest =>
          obtain ⟨rfl, rfl⟩ := hcut
          go_upto_if 185 with (fail)
          go_cut [] from 186 to 191 (fun wx => Turned w wx g o (A ++ X1 ++ Y1 ++ X2 ++ (Y2 ++ B)))
          case first =>
            rcases r1 with _ | _
            · have c1 : ¬ (i < m ∧ m < E) := by have := Hr1.out; simpa using this
              have hone : X2 = [] ∨ Y1 = [] := by
                by_cases h : i < m
                · right; exact List.eq_nil_of_length_eq_zero (by have := Q1.out; have := HE.out; omega)
                · left; exact List.eq_nil_of_length_eq_zero (by have := S2.out; omega)
              have hT : Turned w wr g o (A ++ X1 ++ Y1 ++ X2 ++ (Y2 ++ B)) := ⟨by
                have h := HD.out
                have e : A ++ X1 ++ X2 ++ Y1 ++ (Y2 ++ B) = A ++ X1 ++ (X2 ++ Y1) ++ (Y2 ++ B) := by simp
                rw [e, swap_one hone] at h
                simpa using h, HB.out⟩
              clear hone c1
              go_wp2
              go_meet
              exact hT
            · have c1 : i < m ∧ m < E := by have := Hr1.out; simpa using this
              have hrot := rotate_any (n := n) (cap := cap) (a := i) (m := m) (b := E) HD.out (by have := HLEN.out; simp; omega) hn (by have := HA.out; have := S1.out; simp; omega) (by have := HA.out; have := S1.out; have := S2.out; simp; omega) (by have := HA.out; have := S1.out; have := S2.out; have := Q1.out; have := HE.out; simp; omega) (by have := S2.out; omega) (by have := Q1.out; have := HE.out; omega) (.func (.func 77) #[] #[])
              have HR := Lib.hid hrot
              clear hrot c1
              go_wp2_with fail
              refine HR.out.mono ?_
              rintro e w2 ⟨rfl, hd2, hB2⟩
              have hT : Turned w w2 g o (A ++ X1 ++ Y1 ++ X2 ++ (Y2 ++ B)) := ⟨hd2, HB.out.trans hB2⟩
              clear hd2 hB2
              go_wp2
              go_meet
              exact hT
          case rest =>
            obtain ⟨hd2, hB2⟩ := hcut
            have HD2 := Lib.hid hd2
            have HB2 := Lib.hid hB2
            clear hd2 hB2
            obtain ⟨r2, hr2⟩ : ∃ r : Bool, r = decide (a < i ∧ i < mid) := ⟨_, rfl⟩
            have Hr2 := Lib.hid hr2
            clear hr2
            go_upto_region 41 with (fail)
            go_cut [199] from 192 to 199 (fun c wx => c = .bool r2 ∧ wc = wx)
            case first =>
              by_cases c1 : a < i
              · have b1 : decide (a < i) = true := by simpa using c1
                by_cases c2 : i < mid
                · obtain rfl : r2 = true := by have := Hr2.out; simp [c1, c2] at this; exact this
                  go_wp2
                  go_meet
                  exact ⟨rfl, rfl⟩
                · obtain rfl : r2 = false := by have := Hr2.out; simp [c1, c2] at this; exact this
                  go_wp2
                  go_meet
                  exact ⟨rfl, rfl⟩
              · have b1 : decide (a < i) = false := by simpa using c1
                obtain rfl : r2 = false := by have := Hr2.out; simp [c1] at this; exact this
                go_wp2
                go_meet
                exact ⟨rfl, rfl⟩
            case rest =>
              obtain ⟨rfl, rfl⟩ := hcut
              go_upto_if 199 with (fail)
              go_cut [] from 200 to 205 (fun wx => Mid w wx g o A (X1 ++ Y1) (X2 ++ (Y2 ++ B)))
              case first =>
                rcases r2 with _ | _
                · have c1 : ¬ (a < i ∧ i < mid) := by have := Hr2.out; simpa using this
                  have hone : X1 = [] ∨ Y1 = [] := by
                    by_cases h : a < i
                    · right; exact List.eq_nil_of_length_eq_zero (by have := Q1.out; omega)
                    · left; exact List.eq_nil_of_length_eq_zero (by have := S1.out; omega)
                  have hT : Mid w wc g o A (X1 ++ Y1) (X2 ++ (Y2 ++ B)) := ⟨X1 ++ Y1, srt_one K1.out K3.out hone, List.Perm.refl _, by simpa using HD2.out, HB2.out⟩
                  clear hone c1
                  go_wp2
                  go_meet
                  exact hT
                · have c1 : a < i ∧ i < mid := by have := Hr2.out; simpa using this
                  have hsym := HIH.out wc g o n cap a i mid A X1 Y1 (X2 ++ (Y2 ++ B)) (by have := S1.out; have := Q1.out; have := HN.out; have := HM.out; have := HBB.out; omega) (by simpa using HD2.out) (by have := HLEN.out; simp; omega) hn (Nat.lt_of_lt_of_le hgl HB2.out.size) HA.out (by have := S1.out; omega) (by have := Q1.out; omega) (by have := S1.out; omega) (by have := Q1.out; omega) K1.out K3.out K5.out
                  have HR := Lib.hid hsym
                  clear hsym c1
                  go_wp2_with fail
                  refine HR.out.mono ?_
                  rintro e w2 ⟨rfl, ⟨S, j1, j2, j3⟩, hB2⟩
                  have hT : Mid w w2 g o A (X1 ++ Y1) (X2 ++ (Y2 ++ B)) := ⟨S, j1, j2, j3, HB2.out.trans hB2⟩
                  clear j1 j2 j3 hB2
                  go_wp2
                  go_meet
                  exact hT
              case rest =>
                obtain ⟨S, j1, j2, j3, hB3⟩ := hcut
                have hSl := j2.length_eq
                rw [List.length_append, S1.out, Q1.out] at hSl
                have J1 := Lib.hid j1
                have J2 := Lib.hid j2
                have J3 := Lib.hid j3
                have HB3 := Lib.hid hB3
                have HSL := Lib.hid hSl
                clear j1 j2 j3 hB3 hSl
                rename_i wc0
                obtain ⟨wd, rfl⟩ : ∃ wd, wd = wc := ⟨_, rfl⟩
                obtain ⟨r3, hr3⟩ : ∃ r : Bool, r = decide (mid < E ∧ E < b) := ⟨_, rfl⟩
                have Hr3 := Lib.hid hr3
                clear hr3
                go_upto_region 43 with (fail)
                go_cut [213] from 206 to 213 (fun c wx => c = .bool r3 ∧ wd = wx)
                case first =>
                  by_cases c1 : mid < E
                  · have b1 : decide (mid < E) = true := by simpa using c1
                    by_cases c2 : E < b
                    · obtain rfl : r3 = true := by have := Hr3.out; simp [c1, c2] at this; exact this
                      go_wp2
                      go_meet
                      exact ⟨rfl, rfl⟩
                    · obtain rfl : r3 = false := by have := Hr3.out; simp [c1, c2] at this; exact this
                      go_wp2
                      go_meet
                      exact ⟨rfl, rfl⟩
                  · have b1 : decide (mid < E) = false := by simpa using c1
                    obtain rfl : r3 = false := by have := Hr3.out; simp [c1] at this; exact this
                    go_wp2
                    go_meet
                    exact ⟨rfl, rfl⟩
                case rest =>
                  obtain ⟨rfl, rfl⟩ := hcut
                  go_upto_if 213 with (fail)
                  rcases r3 with _ | _
                  · have c1 : ¬ (mid < E ∧ E < b) := by have := Hr3.out; simpa using this
                    have hone : X2 = [] ∨ Y2 = [] := by
                      by_cases h : mid < E
                      · right; exact List.eq_nil_of_length_eq_zero (by have := Q2.out; omega)
                      · left; exact List.eq_nil_of_length_eq_zero (by have := S2.out; have := HE.out; omega)
                    have hT : Mid2 w wd g o A (X1 ++ Y1) (X2 ++ Y2) B := ⟨S, X2 ++ Y2, J1.out, J2.out, srt_one K2.out K4.out hone, List.Perm.refl _, by simpa using J3.out, HB3.out⟩
                    have HT := Lib.hid hT
                    clear hone c1 hT
                    go_wp2
                    go_end0
                    obtain ⟨S', T, m1, m2, m3, m4, m5, m6⟩ := HT.out
                    obtain ⟨q1, q2⟩ := HALL.out S' T m1 m3 m2 m4
                    exact ⟨rfl, ⟨S' ++ T, q1, q2, by simpa using m5⟩, m6⟩
                  · have c1 : mid < E ∧ E < b := by have := Hr3.out; simpa using this
                    have hsym := HIH.out wd g o n cap mid E b (A ++ S) X2 Y2 B (by have := S2.out; have := Q2.out; have := HN.out; have := HM.out; have := HBB.out; have := HE.out; omega) (by simpa using J3.out) (by have := HLEN.out; have := HSL.out; have := S1.out; have := Q1.out; simp; omega) hn (Nat.lt_of_lt_of_le hgl HB3.out.size) (by have := HA.out; have := HSL.out; simp; omega) (by have := S2.out; have := HE.out; omega) (by have := Q2.out; omega) (by have := S2.out; have := HE.out; omega) (by have := Q2.out; omega) K2.out K4.out K6.out
                    have HR := Lib.hid hsym
                    clear hsym c1
                    go_wp2_with fail
                    refine HR.out.mono ?_
                    rintro e w2 ⟨rfl, ⟨T, m1, m2, m3⟩, hB2⟩
                    have hT : Mid2 w w2 g o A (X1 ++ Y1) (X2 ++ Y2) B := ⟨S, T, J1.out, J2.out, m1, m2, m3, HB3.out.trans hB2⟩
                    have HT := Lib.hid hT
                    clear m1 m2 m3 hB2 hT
                    go_wp2
                    go_end0
                    obtain ⟨S', T, m1, m2, m3, m4, m5, m6⟩ := HT.out
                    obtain ⟨q1, q2⟩ := HALL.out S' T m1 m3 m2 m4
                    exact ⟨rfl, ⟨S' ++ T, q1, q2, by simpa using m5⟩, m6⟩
theorem sym_all : ∀ N, SymOk N
  | 0 => fun w g o n cap a m b A X Y B hN _ _ _ _ _ _ _ hX _ _ _ _ => by omega
  | N + 1 => fun w g o n cap a m b A X Y B hN hd hdl hn hgl ha hm hb hX0 hY0 hX hY hc => by
    by_cases hX1 : X.length = 1
    · obtain ⟨x, rfl⟩ := List.length_eq_one_iff.1 hX1
      have e : A ++ [x] ++ Y ++ B = A ++ x :: Y ++ B := by simp
      rw [e] at hd hdl
      exact sym_left hd hdl hn hgl ha (by simpa using hm) hb hY (fun y hy => hc x (by simp) y hy)
    · by_cases hY1 : Y.length = 1
      · obtain ⟨y, rfl⟩ := List.length_eq_one_iff.1 hY1
        have e : A ++ X ++ [y] ++ B = A ++ X ++ y :: B := by simp
        rw [e] at hd hdl
        exact sym_right hd hdl hn hgl ha hm (by simpa using hb) (by omega) hX (fun x hx => hc x hx y (by simp))
      · exact sym_more (sym_all N) hN hd hdl hn hgl ha hm hb (by omega) (by omega) hX hY hc
end Go.Proofs.YtghegmbafbpnjaaDoor
