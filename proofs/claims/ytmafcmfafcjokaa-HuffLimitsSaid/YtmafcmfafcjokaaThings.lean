/- The document's things in memory; the contract of its merge. -/
import Derived.Test.YtmafcmfafcjokaaThingM
import Derived.Deep.QuietTactic
import Derived.BigQuiet
import Derived.Deep.DeepCutAuto
import Derived.Deep.CutRange
namespace Go.Proofs.Ytmafcmfafcjokaa
open Go Go.RowKit

/-- A thing: its weight, whether it is a coin, where its numbers lie, and these. -/
structure Th where
  n : Nat
  b : Bool
  a : Option Addr
  c : Nat
  v : List Int
def Th.t (x : Th) : Tg := (x.n, x.v)
def thCells (len : Nat) (L : List Th) : List Value := L.flatMap fun x => [.int .i64 x.n, .bool x.b, .slice x.a len x.c]
theorem thCells_append (len : Nat) (L M : List Th) : thCells len (L ++ M) = thCells len L ++ thCells len M := by simp [thCells]
theorem thCells_at (len : Nat) : ∀ (L : List Th) (i : Nat) (h : i < L.length), (thCells len L)[i * 3]? = some (.int .i64 L[i].n) ∧ (thCells len L)[i * 3 + 1]? = some (.bool L[i].b) ∧ (thCells len L)[i * 3 + 2]? = some (.slice L[i].a len L[i].c)
  | x :: L, 0, _ => by simp [thCells]
  | x :: L, i + 1, h => by
    have := thCells_at len L i (by simpa using h)
    have e : thCells len (x :: L) = .int .i64 x.n :: .bool x.b :: .slice x.a len x.c :: thCells len L := by simp [thCells]
    rw [e, show (i + 1) * 3 = i * 3 + 1 + 1 + 1 from by omega, show i * 3 + 1 + 1 + 1 + 1 = i * 3 + 1 + 1 + 1 + 1 from rfl]
    simpa using this
theorem length_thCells (len : Nat) (L : List Th) : (thCells len L).length = L.length * 3 := by
  induction L with
  | nil => rfl
  | cons x L ih => simp only [thCells, List.flatMap_cons, List.length_append] at ih ⊢; rw [ih]; simp; omega
/-- The numbers of things. -/
def Vecs (w : World) (len : Nat) (L : List Th) : Prop := ∀ x ∈ L, Ints w x.a len x.v
theorem Vecs.but {w w' : World} {len : Nat} {L : List Th} (h : Vecs w len L) (hw : But [] w w') : Vecs w' len L := fun x hx => (h x hx).but hw (by simp)
/-- A slice reads as these things. -/
def Things (w : World) (A : Option Addr) (n len : Nat) (L : List Th) : Prop :=
  L.length = n ∧ (0 < n → ∃ g o, A = some ⟨g, o, none⟩ ∧ g < w.heap.size ∧ ∀ (i : Nat) (h : i < L.length), w.cell? ⟨g, o + i * 3, none⟩ = some (.int .i64 L[i].n) ∧ w.cell? ⟨g, o + i * 3 + 1, none⟩ = some (.bool L[i].b) ∧ w.cell? ⟨g, o + i * 3 + 2, none⟩ = some (.slice L[i].a len L[i].c)) ∧ Vecs w len L
theorem Things.but {w w' : World} {A : Option Addr} {n len : Nat} {L : List Th} (h : Things w A n len L) (hw : But [] w w') : Things w' A n len L :=
  ⟨h.1, fun hn => by
    obtain ⟨g, o, e, hg, hc⟩ := h.2.1 hn
    exact ⟨g, o, e, Nat.lt_of_lt_of_le hg hw.size, fun i hi => ⟨hw.cell (hc i hi).1 (by simp), hw.cell (hc i hi).2.1 (by simp), hw.cell (hc i hi).2.2 (by simp)⟩⟩, h.2.2.but hw⟩
theorem Things.at {w : World} {A : Option Addr} {n len : Nat} {L : List Th} (h : Things w A n len L) {i : Nat} (hi : i < n) :
    ∃ g o, A = some ⟨g, o, none⟩ ∧ g < w.heap.size ∧ w.cell? ⟨g, o + i * 3, none⟩ = some (.int .i64 (L[i]'(by have := h.1; omega)).n) ∧ w.cell? ⟨g, o + i * 3 + 1, none⟩ = some (.bool (L[i]'(by have := h.1; omega)).b) ∧ w.cell? ⟨g, o + i * 3 + 2, none⟩ = some (.slice (L[i]'(by have := h.1; omega)).a len (L[i]'(by have := h.1; omega)).c) := by
  obtain ⟨g, o, e, hg, hc⟩ := h.2.1 (by omega)
  exact ⟨g, o, e, hg, hc i (by have := h.1; omega)⟩
theorem Things.nil (w : World) (A : Option Addr) (len : Nat) : Things w A 0 len [] := ⟨rfl, fun h => absurd h (by omega), fun x hx => by cases hx⟩
theorem Things.news {w : World} {g o n len : Nat} {L : List Th} (h : Things w (some ⟨g, o, none⟩) n len L) (hn : 0 < n) : ∀ j u, (thCells len L)[j]? = some u → w.cell? ((⟨g, o, none⟩ : Addr).add j) = some u := by
  intro j u hu
  obtain ⟨g', o', e, _, hc⟩ := h.2.1 hn
  injection e with e
  injection e with e1 e2
  subst e1 e2
  have hj : j < L.length * 3 := by
    have := (List.getElem?_eq_some_iff.1 hu).1
    rwa [length_thCells] at this
  obtain ⟨h0, h1, h2⟩ := thCells_at len L (j / 3) (by omega)
  obtain ⟨c0, c1, c2⟩ := hc (j / 3) (by omega)
  rw [Go.WideShapes.add_plain]
  have hr : j = j / 3 * 3 ∨ j = j / 3 * 3 + 1 ∨ j = j / 3 * 3 + 2 := by omega
  rcases hr with e | e | e
  · rw [← e] at h0 c0; rw [c0, ← h0, hu]
  · rw [← e] at h1; rw [Nat.add_assoc, ← e] at c1; rw [c1, ← h1, hu]
  · rw [← e] at h2; rw [Nat.add_assoc, ← e] at c2; rw [c2, ← h2, hu]
/-- A slice of things of the call's own. -/
def OwnT (w : World) (base len : Nat) (v : Value) (L : List Th) : Prop := w.ownsRow base 86 3 v L.length (thCells len L)
theorem info_thing : (Try.prog.info? 86).map (fun i => (i.zero, i.size, i.bytes)) = some (some (.agg #[.int .i64 0, .bool false, .slice none 0 0]), 3, 40) := by kernel_rfl
theorem OwnT.nil (w : World) (base len : Nat) : OwnT w base len (.slice none 0 0) [] := World.ownsRow_nil _ _ _ _
theorem OwnT.but {w w' : World} {base len : Nat} {v : Value} {L : List Th} (h : OwnT w base len v L) (hw : But [] w w') : OwnT w' base len v L := by
  unfold OwnT at h ⊢
  refine ⟨h.1, ?_⟩
  rcases h.2 with h2 | ⟨g, cap, cur, hv, hg, hh, r⟩
  · exact .inl h2
  · refine .inr ⟨g, cap, cur, hv, hg, ?_, r⟩
    have hlt : g < w.heap.size := (h.lt g (by rw [hv]; rfl)).2
    rw [hw.block g hlt (by simp)]
    exact hh
theorem OwnT.len {w : World} {base len : Nat} {A : Option Addr} {n c : Nat} {L : List Th} (h : OwnT w base len (.slice A n c) L) : n = L.length := by
  unfold OwnT at h
  rcases h.2 with ⟨e, e2⟩ | ⟨g, cap, cur, e, _⟩
  · injection e with e1 e3 e4; omega
  · injection e
theorem OwnT.open {w : World} {base len : Nat} {v : Value} {L : List Th} (h : OwnT w base len v L) (hv : Vecs w len L) : ∃ A c, v = .slice A L.length c ∧ Things w A L.length len L := by
  unfold OwnT at h
  rcases h.2 with ⟨rfl, e⟩ | ⟨g, cap, cur, rfl, hg, hh, r⟩
  · have : L = [] := List.eq_nil_of_length_eq_zero e
    subst this
    exact ⟨none, 0, rfl, Things.nil _ _ _⟩
  · refine ⟨some ⟨g, 0, none⟩, cap, rfl, rfl, fun hn => ⟨g, 0, rfl, (h.lt g rfl).2, fun i hi => ?_⟩, hv⟩
    obtain ⟨h0, h1, h2⟩ := thCells_at len L i hi
    have c0 := h.cells (g := g) rfl (i * 3) _ h0
    have c1 := h.cells (g := g) rfl (i * 3 + 1) _ h1
    have c2 := h.cells (g := g) rfl (i * 3 + 2) _ h2
    rw [Go.WideShapes.add_plain] at c0 c1 c2
    exact ⟨c0, c1, c2⟩
theorem OwnT.pushed {w wr w' : World} {len : Nat} {v v' : Value} {L : List Th} {x : Th} {cs : Array Value} {t : TypeId} (hB : But [] w wr) (hO : OwnT wr w.heap.size len v L)
    (h1 : w'.ownsRow w.heap.size 86 3 v' (L.length + 1) (thCells len L ++ [.int .i64 x.n, .bool x.b, .slice x.a len x.c])) (hg : (wr.alloc (.cells cs t)).grownBy w' v.ownBlock) :
    OwnT w' w.heap.size len v' (L ++ [x]) ∧ But [] w w' := by
  refine ⟨?_, (hB.alloc _).grown hg (fun g e => .inr (hO.lt g e).1)⟩
  unfold OwnT
  rw [List.length_append, thCells_append]
  simpa [thCells] using h1

def keyTh (x : Th) : Nat := x.n
/-- A merge of things, in a slice of the call's own. -/
def GotThings (w : World) (len : Nat) (L : List Th) (e : Ending) (w' : World) : Prop := ∃ v, e = .returned v ∧ OwnT w' w.heap.size len v L ∧ But [] w w'
set_option maxRecDepth 100000 in
set_option maxHeartbeats 2000000 in
theorem row_any {w : World} {A B : Option Addr} {n m c d len : Nat} {C P : List Th} (hC : Things w A n len C) (hP : Things w B m len P) (hn : n ≤ 600) (hm : m ≤ 600) :
    Calls Try.prog 42 #[.slice A n c, .slice B m d] w (GotThings w len (mrgG keyTh C P)) := by
  obtain ⟨i0, hi0, hz0, hz1, hz2⟩ := info_parts info_thing
  have hCl := hC.1
  have hPl := hP.1
  have HC := Lib.hid hC
  have HP := Lib.hid hP
  have HCL := Lib.hid hCl
  have HPL := Lib.hid hPl
  clear hC hP hCl hPl
  go_enter Try.func42, Try.ntmps42
  go_wp2
  go_loopw [5, 6, 7] (fun ov iv kv wr => ∃ (i k : Nat) (L : List Th), i ≤ n ∧ k ≤ m ∧ iv = .int .i64 i ∧ kv = .int .i64 k ∧ L.length = i + k ∧ L ++ mrgG keyTh (C.drop i) (P.drop k) = mrgG keyTh C P ∧ OwnT wr w.heap.size len ov L ∧ But [] w wr) (fun _ iv kv _ => 2000 - (intOf iv).toNat - (intOf kv).toNat)
  case atStart => exact ⟨0, 0, [], Nat.zero_le _, Nat.zero_le _, rfl, rfl, rfl, rfl, OwnT.nil _ _ _, But.refl _ _⟩
  case round =>
    obtain ⟨i, k, L, hi, hk, rfl, rfl, hL, hm2, hO, hB⟩ := hrel
    have hsz := hB.size
    have HO := Lib.hid hO
    have HB := Lib.hid hB
    have HM := Lib.hid hm2
    have HLL := Lib.hid hL
    have hLb : L.length ≤ 1200 := by omega
    clear hO hB hm2 hL
    by_cases hend : i = n ∧ k = m
    · obtain ⟨rfl, rfl⟩ := hend
      go_wp2
      go_ret
      refine ⟨_, rfl, ?_, HB.out⟩
      have h := HM.out
      rw [List.drop_of_length_le (by have := HCL.out; omega), List.drop_of_length_le (by have := HPL.out; omega), mrgG_none, List.append_nil] at h
      rw [← h]; exact HO.out
    · by_cases hcoin : i < n ∧ (k = m ∨ ∃ (h1 : i < C.length) (h2 : k < P.length), C[i].n ≤ P[k].n)
      · obtain ⟨hin, hcc⟩ := hcoin
        obtain ⟨g, o, rfl, hg, c0, c1, c2⟩ := HC.out.at hin
        have hnext := mrgG_coin (key := keyTh) (C := C) (P := P) (i := i) (k := k) (by have := HCL.out; omega) (by
          rcases hcc with h | ⟨h1, h2, h3⟩
          · left; have := HPL.out; omega
          · right; exact ⟨h2, h3⟩)
        have hN : (L ++ [C[i]'(by have := HCL.out; omega)]) ++ mrgG keyTh (C.drop (i + 1)) (P.drop k) = mrgG keyTh C P := by
          rw [← HM.out, hnext]; simp
        have HNX := Lib.hid hN
        have i0' : (0 : Int) ≤ (i : Int) := by omega
        have i1' : (i : Int) < (n : Int) := by omega
        have din : decide (i < n) = true := by simpa using hin
        have e0 := HB.out.cell c0 (by simp)
        have e1 := HB.out.cell c1 (by simp)
        have e2 := HB.out.cell c2 (by simp)
        go_upto_region 5 with (fail)
        go_cut [40] (fun v wx => v = .bool true ∧ But [] w wx ∧ OwnT wx w.heap.size len u5 L)
        case first =>
          rcases hcc with h | ⟨h1, h2, h3⟩
          · have dk : ((k : Int) == (m : Int)) = true := by simp; omega
            clear hnext hN h
            go_quiet (fail)
            go_wp2
            go_meet
            exact ⟨rfl, HB.out.drewN _, HO.out.but ((But.refl [] wr).drewN _)⟩
          · have hkm : k < m := by have := HPL.out; omega
            have dk : ((k : Int) == (m : Int)) = false := by simp; omega
            obtain ⟨g2, o2, rfl, hg2, p0, _, _⟩ := HP.out.at hkm
            have q0 := HB.out.cell p0 (by simp)
            generalize C[i].n = X at *
            generalize P[k].n = Y at *
            have k0' : (0 : Int) ≤ (k : Int) := by omega
            have k1' : (k : Int) < (m : Int) := by omega
            have dxy : decide (X ≤ Y) = true := by simpa using h3
            clear hnext hN c0 c1 c2 p0
            go_quiet (fail)
            go_wp2
            go_meet
            exact ⟨rfl, HB.out.drewN _, HO.out.but ((But.refl [] wr).drewN _)⟩
        case rest =>
          obtain ⟨rfl, hB2, hO2⟩ := hcut
          clear e0 e1 e2 hnext hN hcc
          have e0 := hB2.cell c0 (by simp)
          have e1 := hB2.cell c1 (by simp)
          have e2 := hB2.cell c2 (by simp)
          obtain ⟨x, hx⟩ : ∃ x, x = C[i]'(by have := HCL.out; omega) := ⟨_, rfl⟩
          rw [← hx] at e0 e1 e2
          have HX := Lib.hid hx
          have HO2 := Lib.hid hO2
          have HB2 := Lib.hid hB2
          have hsz2 := hB2.size
          clear hx hO2 hB2 c0 c1 c2
          go_wp2_with (at_builtin; refine wpList_append_own _ rfl _ _ 84 rfl w.heap.size 86 i0 (.agg #[.int .i64 0, .bool false, .slice none 0 0]) 3 40 Try.underlying84 hi0 hz0 hz1 hz2 rfl (by decide) _ L.length (thCells len L) rfl (World.ownsRow.alloc HO2.out _) ⟨wc.heap.size, 0, none⟩ 1 1 [.int .i64 x.n, .bool x.b, .slice x.a len x.c] rfl rfl ?c1 ?c2 ?c3 ?c4 ?c5 ?_)
          case c1 => exact World.news_of_block (cs := #[.int .i64 x.n, .bool x.b, .slice x.a len x.c]) (t := 86) (fr := (0, 0)) (heap_alloc_new wc _)
          case c2 => simp [Value.oneCell']
          case c3 => unfold maxLen; omega
          case c4 => omega
          case c5 => simp; omega
          intro v' w1 hown1 hgrow _
          have HN := Lib.hid (OwnT.pushed HB2.out HO2.out hown1 hgrow)
          clear hown1 hgrow e0 e1 e2
          go_wp2
          go_roundw
          case rel => exact ⟨i + 1, k, L ++ [x], by omega, hk, by go_num, rfl, by have := HLL.out; simp; omega, by rw [HX.out]; exact HNX.out, HN.out.1, HN.out.2⟩
          case measure => simp [intOf]; omega
      · have hkm : k < m := by
          apply Classical.byContradiction; intro h
          have hkm : k = m := by omega
          exact hcoin ⟨by omega, .inl hkm⟩
        have hpk : n ≤ i ∨ ∃ (h1 : i < C.length) (h2 : k < P.length), P[k].n < C[i].n := by
          by_cases hin : i < n
          · right
            have h1 : i < C.length := by have := HCL.out; omega
            have h2 : k < P.length := by have := HPL.out; omega
            refine ⟨h1, h2, ?_⟩
            apply Classical.byContradiction; intro h
            exact hcoin ⟨hin, .inr ⟨h1, h2, by omega⟩⟩
          · left; omega
        obtain ⟨g, o, rfl, hg, c0, c1, c2⟩ := HP.out.at hkm
        have hnext := mrgG_pair (key := keyTh) (C := C) (P := P) (i := i) (k := k) (by have := HPL.out; omega) (by
          rcases hpk with h | ⟨h1, h2, h3⟩
          · left; have := HCL.out; omega
          · right; exact ⟨h1, h3⟩)
        have hN : (L ++ [P[k]'(by have := HPL.out; omega)]) ++ mrgG keyTh (C.drop i) (P.drop (k + 1)) = mrgG keyTh C P := by
          rw [← HM.out, hnext]; simp
        have HNX := Lib.hid hN
        have k0' : (0 : Int) ≤ (k : Int) := by omega
        have k1' : (k : Int) < (m : Int) := by omega
        have dkm : decide (k < m) = true := by simpa using hkm
        have dk : ((k : Int) == (m : Int)) = false := by simp; omega
        have e0 := HB.out.cell c0 (by simp)
        have e1 := HB.out.cell c1 (by simp)
        have e2 := HB.out.cell c2 (by simp)
        clear hcoin hend
        rcases hpk with h | ⟨h1, h2, h3⟩
        · have din : decide (i < n) = false := by simp; omega
          clear h
          go_upto_region 5 with (fail)
          go_cut [40] (fun v wx => v = .bool false ∧ But [] w wx ∧ OwnT wx w.heap.size len u5 L)
          case first =>
            clear hnext hN
            go_quiet (fail)
            go_wp2
            go_meet
            exact ⟨rfl, HB.out.drewN _, HO.out.but ((But.refl [] wr).drewN _)⟩
          case rest =>
            obtain ⟨rfl, hB2, hO2⟩ := hcut
            clear e0 e1 e2 hnext hN
            have e0 := hB2.cell c0 (by simp)
            have e1 := hB2.cell c1 (by simp)
            have e2 := hB2.cell c2 (by simp)
            obtain ⟨x, hx⟩ : ∃ x, x = P[k]'(by have := HPL.out; omega) := ⟨_, rfl⟩
            rw [← hx] at e0 e1 e2
            have HX := Lib.hid hx
            have HO2 := Lib.hid hO2
            have HB2 := Lib.hid hB2
            have hsz2 := hB2.size
            clear hx hO2 hB2 c0 c1 c2
            go_wp2_with (at_builtin; refine wpList_append_own _ rfl _ _ 84 rfl w.heap.size 86 i0 (.agg #[.int .i64 0, .bool false, .slice none 0 0]) 3 40 Try.underlying84 hi0 hz0 hz1 hz2 rfl (by decide) _ L.length (thCells len L) rfl (World.ownsRow.alloc HO2.out _) ⟨wc.heap.size, 0, none⟩ 1 1 [.int .i64 x.n, .bool x.b, .slice x.a len x.c] rfl rfl ?c1 ?c2 ?c3 ?c4 ?c5 ?_)
            case c1 => exact World.news_of_block (cs := #[.int .i64 x.n, .bool x.b, .slice x.a len x.c]) (t := 86) (fr := (0, 0)) (heap_alloc_new wc _)
            case c2 => simp [Value.oneCell']
            case c3 => unfold maxLen; omega
            case c4 => omega
            case c5 => simp; omega
            intro v' w1 hown1 hgrow _
            have HN := Lib.hid (OwnT.pushed HB2.out HO2.out hown1 hgrow)
            clear hown1 hgrow e0 e1 e2
            go_wp2
            go_roundw
            case rel => exact ⟨i, k + 1, L ++ [x], hi, by omega, rfl, by go_num, by have := HLL.out; simp; omega, by rw [HX.out]; exact HNX.out, HN.out.1, HN.out.2⟩
            case measure => simp [intOf]; omega
        · have hin : i < n := by have := HCL.out; omega
          have din : decide (i < n) = true := by simpa using hin
          go_upto_region 5 with (fail)
          go_cut [40] (fun v wx => v = .bool false ∧ But [] w wx ∧ OwnT wx w.heap.size len u5 L)
          case first =>
            obtain ⟨g2, o2, rfl, hg2, p0, _, _⟩ := HC.out.at hin
            have q0 := HB.out.cell p0 (by simp)
            generalize C[i].n = X at *
            generalize P[k].n = Y at *
            have i0' : (0 : Int) ≤ (i : Int) := by omega
            have i1' : (i : Int) < (n : Int) := by omega
            have dxy : decide (X ≤ Y) = false := by simpa using h3
            clear hnext hN c0 c1 c2 p0
            go_quiet (fail)
            go_wp2
            go_meet
            exact ⟨rfl, HB.out.drewN _, HO.out.but ((But.refl [] wr).drewN _)⟩
          case rest =>
            obtain ⟨rfl, hB2, hO2⟩ := hcut
            clear e0 e1 e2 hnext hN
            have e0 := hB2.cell c0 (by simp)
            have e1 := hB2.cell c1 (by simp)
            have e2 := hB2.cell c2 (by simp)
            obtain ⟨x, hx⟩ : ∃ x, x = P[k]'(by have := HPL.out; omega) := ⟨_, rfl⟩
            rw [← hx] at e0 e1 e2
            have HX := Lib.hid hx
            have HO2 := Lib.hid hO2
            have HB2 := Lib.hid hB2
            have hsz2 := hB2.size
            clear hx hO2 hB2 c0 c1 c2
            go_wp2_with (at_builtin; refine wpList_append_own _ rfl _ _ 84 rfl w.heap.size 86 i0 (.agg #[.int .i64 0, .bool false, .slice none 0 0]) 3 40 Try.underlying84 hi0 hz0 hz1 hz2 rfl (by decide) _ L.length (thCells len L) rfl (World.ownsRow.alloc HO2.out _) ⟨wc.heap.size, 0, none⟩ 1 1 [.int .i64 x.n, .bool x.b, .slice x.a len x.c] rfl rfl ?c1 ?c2 ?c3 ?c4 ?c5 ?_)
            case c1 => exact World.news_of_block (cs := #[.int .i64 x.n, .bool x.b, .slice x.a len x.c]) (t := 86) (fr := (0, 0)) (heap_alloc_new wc _)
            case c2 => simp [Value.oneCell']
            case c3 => unfold maxLen; omega
            case c4 => omega
            case c5 => simp; omega
            intro v' w1 hown1 hgrow _
            have HN := Lib.hid (OwnT.pushed HB2.out HO2.out hown1 hgrow)
            clear hown1 hgrow e0 e1 e2
            go_wp2
            go_roundw
            case rel => exact ⟨i, k + 1, L ++ [x], hi, by omega, rfl, by go_num, by have := HLL.out; simp; omega, by rw [HX.out]; exact HNX.out, HN.out.1, HN.out.2⟩
            case measure => simp [intOf]; omega
end Go.Proofs.Ytmafcmfafcjokaa
