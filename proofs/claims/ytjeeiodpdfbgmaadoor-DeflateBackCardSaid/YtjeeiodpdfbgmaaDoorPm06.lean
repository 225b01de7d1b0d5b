/- Several texts in one: CoinsW, Pairs, RowsOf, Range, Backward, Count (what Back, Best, Dynamic, Fixed, Least, Runs, Stored reach of them). -/
import Derived.Test.YtjeeiodpdfbgmaaDoorPm01
import Derived.Test.YtjeeiodpdfbgmaaDoorPm02
import Derived.Test.YtjeeiodpdfbgmaaDoorPm03
import Derived.Test.YtjeeiodpdfbgmaaDoorPm04
import Derived.Test.YtjeeiodpdfbgmaaDoorPm05
import Derived.Below
import Derived.BigQuiet
import Derived.BigRegion
import Derived.Deep.AppendLies
import Derived.Deep.CutRange
import Derived.Deep.DeepCutAuto
import Derived.Deep.Draws
import Derived.Deep.QuietTactic
import Derived.Deep.RegionLaw
import Derived.Deep.Slices
import Derived.Laws.BitsAllLaws
import Derived.Laws.BitsLemmas
import Derived.Laws.IdiomStrings
import Derived.Laws.OwnMore
import Derived.Laws.Rows
import Derived.Lib.AppendStr
import Derived.Lib.Hide
import Derived.Lib.Strings
import Derived.LoopIn
import Derived.LoopNIn
import Derived.OneCell
import Derived.OpenShut
import Derived.Outline
import Derived.OwnWalk
import Derived.OwnWalkIn
import Derived.ProofKit
import Derived.RangeFuncBound
import Derived.RangeFuncCalls
import Derived.RangeFuncLeaves
import Derived.RangeFuncNested
import Derived.RegionTactic
import Derived.Shelf.Abstract
import Derived.Shelf.RegionOpen
import Derived.Shelf.SlSortCmp.QuietGrown
import Derived.StillTailTactics
import Derived.TacticsInMore
import Derived.Test.YtjeeiodpdfbgmaaDoorChecked
import Derived.WalkKit
import Derived.WalkLawsBesides
import Derived.WalkSpells
set_option maxRecDepth 100000
set_option linter.unusedVariables false
namespace Go.Proofs.YtjeeiodpdfbgmaaDoor
set_option maxRecDepth 100000
open Go Go.RowKit
def coinCells (r : List (Nat × Nat)) : List Value := r.flatMap fun x => [.int .i64 x.1, .int .i64 x.2]
theorem coinCells_snoc (r : List (Nat × Nat)) (x : Nat × Nat) : coinCells (r ++ [x]) = coinCells r ++ [.int .i64 x.1, .int .i64 x.2] := by simp [coinCells]
theorem coinCells_at : ∀ (r : List (Nat × Nat)) (i : Nat) (h : i < r.length), (coinCells r)[i * 2]? = some (.int .i64 r[i].1) ∧ (coinCells r)[i * 2 + 1]? = some (.int .i64 r[i].2)
  | x :: r, 0, _ => by simp [coinCells]
  | x :: r, i + 1, h => by
    have := coinCells_at r i (by simpa using h)
    have e : coinCells (x :: r) = .int .i64 x.1 :: .int .i64 x.2 :: coinCells r := by simp [coinCells]
    rw [e, show (i + 1) * 2 = i * 2 + 1 + 1 from by omega]
    simpa using this
def OwnC (w : World) (base : Nat) (v : Value) (r : List (Nat × Nat)) : Prop := w.ownsRow base 137 2 v r.length (coinCells r)
theorem info_coin : (Tryd.prog.info? 137).map (fun i => (i.zero, i.size, i.bytes)) = some (some (.agg #[.int .i64 0, .int .i64 0]), 2, 16) := by kernel_rfl
theorem OwnC.cl {w : World} {base g n c : Nat} {r : List (Nat × Nat)} (h : OwnC w base (.slice (some ⟨g, 0, none⟩) n c) r) : n = r.length ∧ CL w g 0 r := by
  have hn : n = r.length := by
    unfold OwnC at h
    rcases h.2 with ⟨e, _⟩ | ⟨g, cap, cur, e, _⟩
    · cases e
    · injection e
  subst hn
  refine ⟨rfl, fun i hi => ?_⟩
  obtain ⟨e1, e2⟩ := coinCells_at r i hi
  have h1 := World.ownsRow.cells h (g := g) rfl _ _ e1
  have h2 := World.ownsRow.cells h (g := g) rfl _ _ e2
  rw [Go.WideShapes.add_plain] at h1 h2
  exact ⟨h1, by rw [Nat.add_assoc]; exact h2, World.ownsRow.frozenAt h _, World.ownsRow.frozenAt h _⟩
theorem CL.coins {w : World} {g n : Nat} {r : List (Nat × Nat)} (h : CL w g 0 r) (hn : r.length = n) (hg : g < w.heap.size) : Coins w (some ⟨g, 0, none⟩) n r :=
  ⟨hn, fun _ => ⟨g, 0, rfl, hg, fun i hi => ⟨(h i hi).1, (h i hi).2.1⟩⟩⟩
theorem OwnC.pushed {w wr w' : World} {v v' : Value} {L : List (Nat × Nat)} {x y : Nat} (hB : But [] w wr) (hO : OwnC wr w.heap.size v L)
    (h1 : w'.ownsRow w.heap.size 137 2 v' (L.length + 1) (coinCells L ++ [.int .i64 x, .int .i64 y])) (hg : (wr.alloc (.cells #[.int .i64 x, .int .i64 y] 137)).grownBy w' v.ownBlock) :
    OwnC w' w.heap.size v' (L ++ [(x, y)]) ∧ But [] w w' := by
  refine ⟨?_, (hB.alloc _).grown hg (fun g e => .inr (hO.lt g e).1)⟩
  unfold OwnC
  rw [List.length_append, coinCells_snoc]
  exact h1
/-- The sorted coins, in a slice of the call's own. -/
def GotCoins (w : World) (l : List Int) (len : Nat) (e : Ending) (w' : World) : Prop :=
  ∃ A c, e = .returned (.slice A (csOf l len).length c) ∧ Coins w' A (csOf l len).length (csOf l len) ∧ (∀ a, A = some a → w.heap.size ≤ a.block) ∧ But [] w w'

set_option maxRecDepth 100000 in
set_option maxHeartbeats 1000000 in
theorem coinsOf_any {N : Nat} (hN : SortsUpTo N) {w : World} {A : Option Addr} {len cap : Nat} {l : List Int} (hl : Ints w A len l) (h288 : len ≤ 288) (hcN : (coins0 l len).length ≤ N) :
    Calls Tryd.prog 92 #[.slice A len cap] w (GotCoins w l len) := by
  obtain ⟨i0, hi0, hz0, hz1, hz2⟩ := info_parts info_coin
  have hlen := hl.1
  go_enter Tryd.func92, Tryd.ntmps92
  go_wp2
  go_loopw [3, 8] (fun v i wr => ∃ (k n' : Nat) (A' : Option Addr) (c' : Nat), k ≤ len ∧ i = .int .i64 k ∧ v = .slice A' n' c' ∧ n' = (coins0 l k).length ∧ OwnC wr w.heap.size (.slice A' n' c') (coins0 l k) ∧ But [] w wr) (fun _ i _ => len - (intOf i).toNat)
  case atStart => exact ⟨0, 0, none, 0, Nat.zero_le _, rfl, rfl, rfl, World.ownsRow_nil _ _ _ _, But.refl _ _⟩
  case round =>
    obtain ⟨k, n', A', c', hk, rfl, rfl, hn', hO, hB⟩ := hrel
    have HN' := Lib.hid hn'
    clear hn'
    by_cases hlt : k < len
    · obtain ⟨g, o, rfl, hg, hc⟩ := hl.at hlt
      replace hc := hB.cell hc (by simp)
      have hgd : l.getD k 0 = l[k]'(by omega) := by rw [List.getD_eq_getElem?_getD, List.getElem?_eq_getElem (by omega)]; rfl
      have hs : coins0 l (k + 1) = if 0 < l.getD k 0 then coins0 l k ++ [(k, (l.getD k 0).toNat)] else coins0 l k := rfl
      rw [← hgd] at hc
      have hcl := length_coins0 l k
      have HS := Lib.hid hs
      generalize l.getD k 0 = x at *
      clear hs hgd
      by_cases hx : 0 < x
      · obtain ⟨c, hcx⟩ := Int.eq_ofNat_of_zero_le (Int.le_of_lt hx)
        subst hcx
        have HS2 := Lib.hid (show coins0 l (k + 1) = coins0 l k ++ [(k, c)] by rw [HS.out, if_pos hx]; simp)
        have HO := Lib.hid hO
        have HB := Lib.hid hB
        have hsz := hB.size
        generalize hL : coins0 l k = L at *
        have HL := Lib.hid hL
        clear hL hO hB
        go_wp2_with (at_builtin; refine wpList_append_own _ rfl _ _ 134 rfl w.heap.size 137 i0 (.agg #[.int .i64 0, .int .i64 0]) 2 16 Tryd.underlying134 hi0 hz0 hz1 hz2 rfl (by decide) _ L.length (coinCells L) rfl (World.ownsRow.alloc HO.out _) ⟨wr.heap.size, 0, none⟩ 1 1 [.int .i64 (k : Int), .int .i64 (c : Int)] rfl rfl ?c1 ?c2 ?c3 ?c4 ?c5 ?_)
        case c1 => exact World.news_of_block (cs := #[.int .i64 (k : Int), .int .i64 (c : Int)]) (t := 137) (fr := (0, 0)) (heap_alloc_new wr _)
        case c2 => simp [Value.oneCell']
        case c3 => unfold maxLen; omega
        case c4 => omega
        case c5 => simp; omega
        intro v' w1 hown1 hgrow _
        obtain ⟨g4, c4, rfl⟩ : ∃ g4 c4, v' = .slice (some ⟨g4, 0, none⟩) (L.length + 1) c4 := by
          rcases hown1.2 with ⟨_, e⟩ | ⟨g4, c4, cur, e, _⟩
          · omega
          · exact ⟨g4, c4, e⟩
        have HN := Lib.hid (OwnC.pushed HB.out HO.out hown1 hgrow)
        clear hown1 hgrow
        go_wp2
        go_roundw
        case rel => exact ⟨k + 1, L.length + 1, _, _, by omega, by go_num, rfl, by rw [HS2.out, List.length_append]; rfl, by rw [HS2.out]; exact HN.out.1, HN.out.2⟩
        case measure => simp [intOf]; omega
      · have HS2 := Lib.hid (show coins0 l (k + 1) = coins0 l k by rw [HS.out, if_neg hx])
        go_wp2
        go_roundw
        case rel => exact ⟨k + 1, _, _, _, by omega, by go_num, rfl, by rw [HS2.out]; exact HN'.out, by rw [HS2.out]; exact hO, hB⟩
        case measure => simp [intOf]; omega
    · obtain rfl : k = len := by omega
      have hcl := length_coins0 l k
      have hle := length_csOf l k
      by_cases h0 : n' = 0
      · subst h0
        have he : (csOf l k).length = 0 := by rw [hle]; exact HN'.out.symm
        have hce : csOf l k = [] := List.eq_nil_of_length_eq_zero he
        have HCE := Lib.hid hce
        have hbase : ∀ a, A' = some a → w.heap.size ≤ a.block := fun a e => by subst e; exact (World.ownsRow.lt hO a.block rfl).1
        clear he hle hcl hO hce
        go_wp2_with (go_at_call 104; refine (sort_nil _ _ _ _).mono ?_; rintro e w' ⟨rfl, rfl⟩)
        go_ret
        refine ⟨A', c', ?_, ?_, hbase, hB⟩
        · rw [HCE.out]; rfl
        · rw [HCE.out]; exact ⟨rfl, fun h => absurd h (by simp)⟩
      · obtain ⟨g, rfl⟩ : ∃ g, A' = some ⟨g, 0, none⟩ := by
          rcases hO.2 with ⟨e, e2⟩ | ⟨g, cap', cur, e, _⟩
          · exact absurd (HN'.out.trans e2) h0
          · injection e with e1 e2 e3
            exact ⟨g, e1⟩
        have hcl2 := hO.cl.2
        have hgl := World.ownsRow.lt hO g rfl
        have hs := hN wr g 0 n' c' (coins0 l k) hcl2 HN'.out.symm (by rw [HN'.out]; exact hcN) hgl.2 (coins0_asc l k)
        have HSO := Lib.hid hs
        have HLE := Lib.hid hle
        have HB := Lib.hid hB
        clear hs hcl2 hO hle hB
        go_wp2_with fail
        refine HSO.out.mono ?_
        rintro e w' ⟨rfl, ⟨S, hS, hSp, hSc⟩, hB'⟩
        have hSe := csOf_eq hS hSp
        subst hSe
        have hfin : Coins w' (some ⟨g, 0, none⟩) (csOf l k).length (csOf l k) := hSc.coins rfl (Nat.lt_of_lt_of_le hgl.2 hB'.size)
        have HF := Lib.hid hfin
        have HBB := Lib.hid (HB.out.fresh hB' (fun i hi => by
          obtain rfl : i = g := by simpa using hi
          exact hgl.1))
        have HSP := Lib.hid hSp
        clear hfin hSc hSp hS hB'
        go_wp2
        go_ret
        refine ⟨some ⟨g, 0, none⟩, c', by rw [HLE.out, ← HN'.out]; rfl, HF.out, fun a e => by injection e with e; subst e; exact hgl.1, HBB.out⟩
end Go.Proofs.YtjeeiodpdfbgmaaDoor
namespace Go.Proofs.YtjeeiodpdfbgmaaDoor
set_option maxRecDepth 100000
open Go Go.RowKit
/-- A slice reads as these items. -/
def Items (w : World) (A : Option Addr) (n : Nat) (r : List (Nat × Bool)) : Prop :=
  r.length = n ∧ (0 < n → ∃ g o, A = some ⟨g, o, none⟩ ∧ g < w.heap.size ∧ ∀ (i : Nat) (h : i < r.length), w.cell? ⟨g, o + i * 2, none⟩ = some (.int .i64 r[i].1) ∧ w.cell? ⟨g, o + i * 2 + 1, none⟩ = some (.bool r[i].2))
theorem Items.but {w w' : World} {A : Option Addr} {n : Nat} {l : List (Nat × Bool)} {S : List Nat} (h : Items w A n l) (hw : But S w w') (hA : ∀ k ∈ S, Off A k) : Items w' A n l :=
  ⟨h.1, fun hn => by
    obtain ⟨g, o, e, hg, hc⟩ := h.2 hn
    exact ⟨g, o, e, Nat.lt_of_lt_of_le hg hw.size, fun i hi => ⟨hw.cell (hc i hi).1 (fun hS => hA g hS _ e rfl), hw.cell (hc i hi).2 (fun hS => hA g hS _ e rfl)⟩⟩⟩
theorem Items.at {w : World} {A : Option Addr} {n : Nat} {l : List (Nat × Bool)} (h : Items w A n l) {i : Nat} (hi : i < n) :
    ∃ g o, A = some ⟨g, o, none⟩ ∧ g < w.heap.size ∧ w.cell? ⟨g, o + i * 2, none⟩ = some (.int .i64 (l[i]'(by have := h.1; omega)).1) ∧ w.cell? ⟨g, o + i * 2 + 1, none⟩ = some (.bool (l[i]'(by have := h.1; omega)).2) := by
  obtain ⟨g, o, e, hg, hc⟩ := h.2 (by omega)
  exact ⟨g, o, e, hg, hc i (by have := h.1; omega)⟩
theorem itemCells_at : ∀ (r : List (Nat × Bool)) (i : Nat) (h : i < r.length), (itemCells r)[i * 2]? = some (.int .i64 r[i].1) ∧ (itemCells r)[i * 2 + 1]? = some (.bool r[i].2)
  | x :: r, 0, _ => by simp [itemCells]
  | x :: r, i + 1, h => by
    have := itemCells_at r i (by simpa using h)
    have e : itemCells (x :: r) = .int .i64 x.1 :: .bool x.2 :: itemCells r := by simp [itemCells]
    rw [e, show (i + 1) * 2 = i * 2 + 1 + 1 from by omega]
    simpa using this
theorem OwnR.items {w : World} {base g c n : Nat} {r : List (Nat × Bool)} (h : OwnR w base (.slice (some ⟨g, 0, none⟩) n c) r) : n = r.length ∧ Items w (some ⟨g, 0, none⟩) n r := by
  have hn : n = r.length := by
    unfold OwnR at h
    rcases h.2 with ⟨e, _⟩ | ⟨g, cap, cur, e, _⟩
    · cases e
    · injection e
  subst hn
  refine ⟨rfl, rfl, fun _ => ⟨g, 0, rfl, (World.ownsRow.lt h g rfl).2, fun i hi => ?_⟩⟩
  obtain ⟨e1, e2⟩ := itemCells_at r i hi
  have h1 := World.ownsRow.cells h (g := g) rfl _ _ e1
  have h2 := World.ownsRow.cells h (g := g) rfl _ _ e2
  rw [Go.WideShapes.add_plain] at h1 h2
  exact ⟨h1, by rw [Nat.add_assoc]; exact h2⟩

/-- The pairs when j of them are laid. -/
def midPrs (r : List (Nat × Bool)) (q j : Nat) : List Int := nats ((prs r).take j) ++ List.replicate (q - j) 0
theorem midPrs_succ {r : List (Nat × Bool)} {q j : Nat} (hj : j < q) (hq : (prs r).length = q) : midPrs r q (j + 1) = (midPrs r q j).set j (((prs r)[j]'(by omega) : Nat) : Int) := by
  unfold midPrs
  have e : q - j = (q - (j + 1)) + 1 := by omega
  rw [e, List.replicate_succ, List.set_append_right _ _ (by simp [nats]; omega), List.take_succ_eq_append_getElem (by omega)]
  have e2 : j - (nats ((prs r).take j)).length = 0 := by simp [nats]; omega
  rw [e2, List.set_cons_zero]
  simp only [nats, List.map_append, List.map_cons, List.map_nil, List.append_assoc, List.singleton_append]

set_option maxRecDepth 100000 in
set_option maxHeartbeats 1000000 in
theorem pairs_any {w : World} {A : Option Addr} {n cap : Nat} {r : List (Nat × Bool)} (hr : Items w A n r) (hn : n ≤ 1000) (hM : ∀ x ∈ r, x.1 ≤ 1152921504606846976) :
    Calls Tryd.prog 109 #[.slice A n cap] w fun e w' => e = .returned (.slice (some ⟨w.heap.size, 0, none⟩) (n / 2) (n / 2)) ∧ OwnI w' w.heap.size (.slice (some ⟨w.heap.size, 0, none⟩) (n / 2) (n / 2)) (nats (prs r)) ∧ But [] w w' := by
  obtain ⟨i0, hi0, hz0, hz1, hz2⟩ := info_parts info_int
  have hrl := hr.1
  have hpl : (prs r).length = n / 2 := by rw [length_prs, hrl]
  obtain ⟨q, hq⟩ : ∃ q, q = n / 2 := ⟨_, rfl⟩
  have hqd : (n : Int) / 2 = (q : Int) := by omega
  rw [← hq] at hpl ⊢
  have HQ := Lib.hid hqd
  have hq2 : 2 * q ≤ n := by omega
  have hq3 : q ≤ 500 := by omega
  clear hqd hq
  go_enter Tryd.func109, Tryd.ntmps109
  go_wp2_with (at_make; refine wpList_make_full _ rfl _ _ 22 rfl w.heap.size 3 i0 _ 1 Tryd.underlying22 hi0 hz0 hz1 _ _ _ _ q rfl rfl (by have := HQ.out; omega) (by have := HQ.out; omega) (by rw [hz2]; omega) (by unfold maxLen; omega) (by simp) ?_; intro w1 hown hgrow)
  have hO1 := OwnI.made hown
  have hB1 : But [] w w1 := (But.refl [] w).grown hgrow (by simp)
  clear hown hgrow
  go_loopw [11] (fun i wr => ∃ j : Nat, j ≤ q ∧ i = .int .i64 j ∧ OwnI wr w.heap.size (.slice (some ⟨w.heap.size, 0, none⟩) q q) (midPrs r q j) ∧ But [] w wr) (fun i _ => q - (intOf i).toNat)
  case atStart => exact ⟨0, Nat.zero_le _, rfl, by unfold midPrs; simpa [nats] using hO1, hB1⟩
  case round =>
    obtain ⟨j, hj, rfl, hO, hB⟩ := hrel
    clear hO1 hB1
    by_cases hlt : j < q
    · obtain ⟨g, o, rfl, hg, hc0, hd0⟩ := hr.at (show 2 * j < n by omega)
      obtain ⟨g', o', e, hg', hc1, hd1⟩ := hr.at (show 2 * j + 1 < n by omega)
      injection e with e
      injection e with e1 e2
      subst e1 e2
      clear hd0 hd1 hg'
      have hx := hM _ (List.getElem_mem (show 2 * j < r.length by omega))
      have hy := hM _ (List.getElem_mem (show 2 * j + 1 < r.length by omega))
      have hpe : (prs r)[j]'(by omega) = (r[2 * j]'(by omega)).1 + (r[2 * j + 1]'(by omega)).1 := by
        have h := prs_getD r j (by have := length_prs r; omega)
        simp only [List.getD_eq_getElem?_getD, List.getElem?_map] at h
        rw [List.getElem?_eq_getElem (by omega), List.getElem?_eq_getElem (by omega), List.getElem?_eq_getElem (by omega)] at h
        simpa using h
      have hms := midPrs_succ hlt hpl
      rw [hpe] at hms
      generalize (r[2 * j]'(by omega)).1 = x at *
      generalize (r[2 * j + 1]'(by omega)).1 = y at *
      have hml : (midPrs r q j).length = q := by unfold midPrs nats; simp; omega
      have hce := hO.cell (show j < (midPrs r q j).length by omega)
      have hcf := hO.free j
      generalize (midPrs r q j)[j]'_ = cv at hce
      replace hc0 := hB.cell hc0 (by simp)
      replace hc1 := hB.cell hc1 (by simp)
      have HMS := Lib.hid hms
      have HO := Lib.hid hO
      have HB := Lib.hid hB
      clear hms hO hB hpe hml hpl hrl hr hM
      have j0 : 0 ≤ (j : Int) := by omega
      have j1 : (j : Int) < (q : Int) := by omega
      have j2 : 2 * (j : Int) < (n : Int) := by omega
      have j3 : 2 * (j : Int) + 1 < (n : Int) := by omega
      have j4 : 0 ≤ 2 * (j : Int) := by omega
      have j5 : 0 ≤ 2 * (j : Int) + 1 := by omega
      have t2 : (2 * (j : Int)).toNat = 2 * j := by omega
      have t3 : (2 * (j : Int) + 1).toNat = 2 * j + 1 := by omega
      go_upto_region 5 with (fail)
      have d0 : wr.drew.cell? ⟨g, o + 2 * j * 2, none⟩ = some (.int .i64 x) := hc0
      have d1 : wr.drew.cell? ⟨g, o + (2 * j + 1) * 2, none⟩ = some (.int .i64 y) := hc1
      have de : wr.drew.cell? ⟨w.heap.size, j, none⟩ = some (.int .i64 cv) := hce
      have df : wr.drew.frozen? ⟨w.heap.size, j, none⟩ = false := hcf
      have hsz : wr.heap.size = wr.drew.heap.size := rfl
      have HO2 : Hid (OwnI wr.drew w.heap.size (.slice (some ⟨w.heap.size, 0, none⟩) q q) (midPrs r q j)) := HO
      have HB2 := Lib.hid (HB.out.drew)
      have ew2 : IntKind.i64.wrap (2 * (j : Int)) = 2 * (j : Int) := IntWalk.i64_in _ (by omega)
      have ew3 : IntKind.i64.wrap (2 * (j : Int) + 1) = 2 * (j : Int) + 1 := IntWalk.i64_in _ (by omega)
      have ew4 : IntKind.i64.wrap ((x : Int) + (y : Int)) = (x : Int) + (y : Int) := IntWalk.i64_in _ (by omega)
      refine wp_region_still_tail 17 (by kernel_rfl) (by kernel_rfl) ?_
      simp only [List.take_succ_cons, List.take_zero, List.drop_succ_cons, List.drop_zero]
      change wpStill _ _ wr.drew (fun a' => wpList _ _ _ _ a' wr.drew) _ _
      clear hc0 hc1 hce hcf HO HB hsz
      generalize wr.drew = W1 at *
      repeat still_step
      refine wpStill_nil ?_
      clear ew2 ew3 ew4
      go_wp2
      go_roundw
      case rel =>
        refine ⟨j + 1, by omega, by go_num, ?_, HB2.out.setCell (.inr (Nat.le_refl _)) _⟩
        rw [HMS.out]
        exact HO2.out.set j _
      case measure => simp [intOf]; omega
    · obtain rfl : j = q := by omega
      have he : midPrs r j j = nats (prs r) := by unfold midPrs; rw [List.take_of_length_le (by omega)]; simp
      rw [he] at hO
      go_wp2
      go_ret
      exact ⟨rfl, hO, hB⟩
end Go.Proofs.YtjeeiodpdfbgmaaDoor
namespace Go.Proofs.YtjeeiodpdfbgmaaDoor
set_option maxRecDepth 100000
open Go Go.RowKit
theorem row_bound (ws : List Nat) (M : Nat) (h : ∀ x ∈ ws, x ≤ M) : ∀ k, ∀ x ∈ rowN ws k, x.1 ≤ M * 2 ^ k
  | 0, x, hx => by
    rcases mrg_mem hx with ⟨h1, _⟩ | ⟨h1, _⟩
    · simpa using h _ h1
    · cases h1
  | k + 1, x, hx => by
    have hp := Nat.two_pow_pos k
    have hM : M ≤ M * 2 ^ k := Nat.le_mul_of_pos_right _ hp
    rw [Nat.pow_succ]
    rcases mrg_mem hx with ⟨h1, _⟩ | ⟨h1, _⟩
    · have := h _ h1
      have e2 : M * (2 ^ k * 2) = M * 2 ^ k + M * 2 ^ k := by rw [← Nat.mul_assoc]; omega
      rw [e2]; omega
    · obtain ⟨a, ha, b, hb, e⟩ := prs_mem h1
      have h2 := row_bound ws M h k a ha
      have h3 := row_bound ws M h k b hb
      have e2 : M * (2 ^ k * 2) = M * 2 ^ k + M * 2 ^ k := by rw [← Nat.mul_assoc]; omega
      rw [e, e2]; omega
/-- A slice of rows of the call's own: their heads. -/
def OwnS (w : World) (base : Nat) (v : Value) (L : List Value) : Prop := w.ownsRow base 160 1 v L.length L
theorem info_row : (Tryd.prog.info? 160).map (fun i => (i.zero, i.size, i.bytes)) = some (some (.slice none 0 0), 1, 24) := by kernel_rfl
/-- The heads are those of the rows. -/
def RowsAre (w : World) (base : Nat) (ws : List Nat) (L : List Value) : Prop :=
  ∀ k (h : k < L.length), ∃ g, L[k] = .slice (some ⟨g, 0, none⟩) (rowN ws k).length (rowN ws k).length ∧ OwnR w base L[k] (rowN ws k)
theorem own_apart {w : World} {b1 b2 n1 n2 s1 s2 : Nat} {e1 e2 : TypeId} {v1 v2 : Value} {x1 x2 : List Value} (h1 : w.ownsRow b1 e1 s1 v1 n1 x1) (h2 : w.ownsRow b2 e2 s2 v2 n2 x2) (hne : e1 ≠ e2) {g : Nat} (hg : v1.ownBlock = some g) : v2.ownBlock ≠ some g := by
  intro hg2
  rcases h1.2 with ⟨rfl, _⟩ | ⟨g1, c1, cur1, rfl, _, hh1, _⟩
  · cases hg
  rcases h2.2 with ⟨rfl, _⟩ | ⟨g2, c2, cur2, rfl, _, hh2, _⟩
  · cases hg2
  have e1' : g1 = g := by simpa [Value.ownBlock] using hg
  have e2' : g2 = g := by simpa [Value.ownBlock] using hg2
  rw [e1'] at hh1
  rw [e2', hh1] at hh2
  exact hne (Obj.cells.inj (Option.some.inj hh2)).2.1
theorem RowsAre.but {w w' : World} {base : Nat} {ws : List Nat} {L : List Value} (h : RowsAre w base ws L) {S : List Nat} (hw : But S w w') (hS : ∀ v r, OwnR w base v r → ∀ k ∈ S, v.ownBlock ≠ some k) : RowsAre w' base ws L := by
  intro k hk
  obtain ⟨g, e, ho⟩ := h k hk
  exact ⟨g, e, ho.but hw (hS _ _ ho)⟩
theorem OwnS.made (w : World) (v : Value) (base : Nat) (hb : base ≤ w.heap.size) : OwnS (w.alloc (.cells #[v] 160)) base (.slice (some ⟨w.heap.size, 0, none⟩) 1 1) [v] :=
  ⟨rfl, .inr ⟨w.heap.size, 1, #[v], rfl, hb, (Is.fresh w 160 #[v]), Nat.le_refl _, by unfold maxLen; decide, rfl, rfl⟩⟩
theorem OwnS.but {w w' : World} {base : Nat} {v : Value} {l : List Value} (h : OwnS w base v l) {S : List Nat} (hw : But S w w') (hS : ∀ k ∈ S, v.ownBlock ≠ some k) : OwnS w' base v l := by
  unfold OwnS at h ⊢
  refine ⟨h.1, ?_⟩
  rcases h.2 with h2 | ⟨g, cap, cur, hv, hg, hh, r⟩
  · exact .inl h2
  · refine .inr ⟨g, cap, cur, hv, hg, ?_, r⟩
    have hlt : g < w.heap.size := (h.lt g (by rw [hv]; rfl)).2
    rw [hw.block g hlt (fun hk => hS g hk (by rw [hv]; rfl))]
    exact hh
theorem OwnS.open {w : World} {base : Nat} {v : Value} {L : List Value} (h : OwnS w base v L) (h0 : 0 < L.length) : ∃ g c, v = .slice (some ⟨g, 0, none⟩) L.length c ∧ g < w.heap.size ∧ ∀ i (hi : i < L.length), w.cell? ⟨g, i, none⟩ = some L[i] := by
  unfold OwnS at h
  rcases h.2 with ⟨_, e⟩ | ⟨g, cap, cur, rfl, hg, hh, r⟩
  · omega
  · refine ⟨g, cap, rfl, (h.lt g rfl).2, fun i hi => ?_⟩
    have hc := h.cells (g := g) rfl i L[i] (by simp [hi])
    rw [Go.WideShapes.add_plain, Nat.zero_add] at hc
    exact hc
/-- The rows, one behind the other. -/
def GotRows (w : World) (most : Nat) (ws : List Nat) (e : Ending) (w' : World) : Prop :=
  ∃ g c L, e = .returned (.slice (some ⟨g, 0, none⟩) most c) ∧ L.length = most ∧ OwnS w' w.heap.size (.slice (some ⟨g, 0, none⟩) most c) L ∧ RowsAre w' w.heap.size ws L ∧ But [] w w'
theorem RowsAre.snoc {w : World} {base k g : Nat} {ws : List Nat} {L : List Value} (h : RowsAre w base ws L) (hk : L.length = k) {n : Nat} (hn : n = (rowN ws k).length) (ho : OwnR w base (.slice (some ⟨g, 0, none⟩) n n) (rowN ws k)) :
    RowsAre w base ws (L ++ [.slice (some ⟨g, 0, none⟩) n n]) := by
  intro i hi
  subst hk hn
  rcases Nat.lt_or_ge i L.length with h1 | h1
  · rw [List.getElem_append_left h1]; exact h i h1
  · have : i = L.length := by simp at hi; omega
    subst this
    rw [List.getElem_append_right (Nat.le_refl _)]
    simp only [Nat.sub_self, List.getElem_cons_zero]
    exact ⟨g, rfl, ho⟩
theorem OwnR.base {w : World} {b1 b2 : Nat} {v : Value} {r : List (Nat × Bool)} (h : OwnR w b1 v r) (hb : b2 ≤ b1) : OwnR w b2 v r := by
  refine ⟨h.1, ?_⟩
  rcases h.2 with h2 | ⟨g, cap, cur, hv, hg, r⟩
  · exact .inl h2
  · exact .inr ⟨g, cap, cur, hv, by omega, r⟩

set_option maxRecDepth 100000 in
set_option maxHeartbeats 1000000 in
theorem rowsOf_any {w : World} {A : Option Addr} {n cap most : Nat} {cs : List (Nat × Nat)} {ws : List Nat} (hws : ws = cs.map (·.2)) (hc : Coins w A n cs) (hn : n ≤ 288) (hmo : 1 ≤ most) (hmo2 : most ≤ 15) (hM : ∀ x ∈ ws, x ≤ 1000000000) :
    Calls Tryd.prog 94 #[.int .i64 most, .slice A n cap] w (GotRows w most ws) := by
  obtain ⟨i0, hi0, hz0, hz1, hz2⟩ := info_parts info_row
  have hwl : ws.length = n := by rw [hws, List.length_map, hc.1]
  have hmerge := merge_any (cap := cap) (ps := []) hws hc (Ints.empty w none) (by omega) (by omega) (Nat.le_refl _)
  have HM := Lib.hid hmerge
  clear hmerge
  go_enter Tryd.func94, Tryd.ntmps94
  go_wp2_with fail
  refine HM.out.mono ?_
  rintro e w1 ⟨rfl, hO, hB⟩
  have hB1 := hB.alloc (.cells #[.slice (some ⟨w.heap.size, 0, none⟩) n n] 160)
  have hS1 := OwnS.made w1 (.slice (some ⟨w.heap.size, 0, none⟩) n n) w.heap.size hB.size
  have hr0 : (rowN ws 0).length = n := by show (mrg ws []).length = n; rw [length_mrg, hwl]; rfl
  have hO1 : OwnR (w1.alloc (.cells #[.slice (some ⟨w.heap.size, 0, none⟩) n n] 160)) w.heap.size (.slice (some ⟨w.heap.size, 0, none⟩) n n) (rowN ws 0) := hO.but ((But.refl [] w1).alloc _) (by simp)
  have hR1 : RowsAre (w1.alloc (.cells #[.slice (some ⟨w.heap.size, 0, none⟩) n n] 160)) w.heap.size ws [.slice (some ⟨w.heap.size, 0, none⟩) n n] := by
    have : RowsAre (w1.alloc (.cells #[.slice (some ⟨w.heap.size, 0, none⟩) n n] 160)) w.heap.size ws [] := fun k hk => absurd hk (by simp)
    simpa using this.snoc (k := 0) rfl hr0.symm hO1
  have HC := Lib.hid hc
  have HWS := Lib.hid hws
  have HWL := Lib.hid hwl
  clear hr0 hO1 hO hB hc hws hwl HM
  go_wp2
  go_loopw [5] (fun v wr => ∃ (k g c : Nat) (L : List Value), 1 ≤ k ∧ k ≤ most ∧ v = .slice (some ⟨g, 0, none⟩) k c ∧ L.length = k ∧ OwnS wr w.heap.size (.slice (some ⟨g, 0, none⟩) k c) L ∧ RowsAre wr w.heap.size ws L ∧ But [] w wr)
    (fun v _ => match v with | .slice _ n _ => most - n | _ => 0)
  case atStart => exact ⟨1, _, 1, _, Nat.le_refl _, hmo, rfl, rfl, hS1, hR1, hB1⟩
  case round =>
    obtain ⟨k, g, c, L, hk1, hk2, rfl, hL, hS, hR, hB⟩ := hrel
    clear hS1 hR1 hB1
    by_cases hlt : k < most
    · obtain ⟨k0, rfl⟩ : ∃ k0, k = k0 + 1 := ⟨k - 1, by omega⟩
      obtain ⟨g2, c2, e, hg2, hcell⟩ := hS.open (by omega)
      rw [hL] at e
      injection e with e1 e2 e3
      injection e1 with e1
      injection e1 with e1
      subst e1 e3
      have hck := hcell k0 (by omega)
      obtain ⟨g3, e4, hO3⟩ := hR k0 (by omega)
      rw [e4] at hck hO3
      obtain ⟨_, hI3⟩ := hO3.items
      have hlr := length_row ws k0
      have hlen3 : (rowN ws k0).length ≤ 1000 := by have := hlr.2.1; have := HWL.out; omega
      have hMk : ∀ x ∈ rowN ws k0, x.1 ≤ 1152921504606846976 := fun x hx => by
        have := row_bound ws _ hM k0 x hx
        have h2 : 2 ^ k0 ≤ 2 ^ 15 := Nat.pow_le_pow_right (by decide) (by omega)
        have h3 := Nat.mul_le_mul_left 1000000000 h2
        omega
      have hpr := pairs_any (cap := (rowN ws k0).length) hI3 hlen3 hMk
      have hq := length_prs (rowN ws k0)
      have hrow : rowN ws (k0 + 1) = mrg ws (prs (rowN ws k0)) := rfl
      have hrl : (rowN ws (k0 + 1)).length = n + (rowN ws k0).length / 2 := by rw [hrow, length_mrg, hq, HWL.out]
      have HROW := Lib.hid hrow
      have HRL := Lib.hid hrl
      have HPR := Lib.hid hpr
      have HS := Lib.hid hS
      have HR := Lib.hid hR
      have HB := Lib.hid hB
      have HL := Lib.hid hL
      generalize hn3 : (rowN ws k0).length = n3 at *
      clear hn3 hcell e4 hO3 hI3 hlr hMk hpr hq hrow hrl hS hR hB hL e2
      have k00 : 0 ≤ (k0 : Int) := by omega
      have kk : (k0 : Int) < ((k0 + 1 : Nat) : Int) := by omega
      go_wp2_with fail
      refine HPR.out.mono ?_
      rintro e w2 ⟨rfl, hO2, hB2⟩
      have hB2' := HB.out.trans hB2
      have hm := merge_any (cap := cap) (cap2 := n3 / 2) HWS.out (HC.out.but hB2' (by simp)) hO2.ints (by omega) (by omega) (Nat.le_refl _)
      have HM := Lib.hid hm
      have HB2 := Lib.hid hB2
      have HB2' := Lib.hid hB2'
      have hbs := HB.out.size
      have hbs2 := hB2.size
      clear hm hO2 hB2 hB2'
      go_wp2_with fail
      refine HM.out.mono ?_
      rintro e w3 ⟨rfl, hO3, hB3⟩
      have hBr := HB2.out.trans hB3
      have hBw := HB.out.trans hBr
      have hbs3 := hB3.size
      have hS3 := HS.out.but hBr (by simp)
      have hR3 := HR.out.but hBr (by simp)
      rw [← HROW.out] at hO3
      have hO4 : OwnR w3 w.heap.size (.slice (some ⟨w2.heap.size, 0, none⟩) (n + n3 / 2) (n + n3 / 2)) (rowN ws (k0 + 1)) := hO3.base (by omega)
      have hlt3 := (World.ownsRow.lt hO3 _ rfl).2
      clear hO3 hB3 hBr HM
      have HS3 := Lib.hid hS3
      have HR3 := Lib.hid hR3
      have HO4 := Lib.hid hO4
      have HBW := Lib.hid hBw
      clear hS3 hR3 hO4 hBw HS HR HB HB2 HB2' HPR
      have hL15 : L.length = k0 + 1 := HL.out
      have HL15 := Lib.hid hL15
      clear hL15
      have hown : w3.ownsRow w.heap.size 160 1 (.slice (some ⟨g, 0, none⟩) (k0 + 1) c) (k0 + 1) L := by have := HS3.out; unfold OwnS at this; rw [HL15.out] at this; exact this
      have HOWN := Lib.hid hown
      clear hown
      go_wp2_with (at_builtin; refine wpList_append_own _ rfl _ _ 139 rfl w.heap.size 160 i0 (.slice none 0 0) 1 24 Tryd.underlying139 hi0 hz0 hz1 hz2 rfl (by decide) _ (k0 + 1) L rfl (HOWN.out.alloc _) ⟨w3.heap.size, 0, none⟩ 1 1 [.slice (some ⟨w2.heap.size, 0, none⟩) (n + n3 / 2) (n + n3 / 2)] rfl rfl ?c1 ?c2 ?c3 ?c4 ?c5 ?_)
      case c1 => exact World.news_of_block (cs := #[.slice (some ⟨w2.heap.size, 0, none⟩) (n + n3 / 2) (n + n3 / 2)]) (t := 160) (fr := (0, 0)) (heap_alloc_new w3 _)
      case c2 => simp [Value.oneCell']
      case c3 => unfold maxLen; omega
      case c4 => omega
      case c5 => simp; omega
      intro v' w4 hown4 hgrow4 hnn
      obtain ⟨g4, c4, rfl⟩ : ∃ g4 c4, v' = .slice (some ⟨g4, 0, none⟩) (k0 + 1 + 1) c4 := by
        rcases hown4.2 with ⟨_, e⟩ | ⟨g4, c4, cur, e, _⟩
        · omega
        · exact ⟨g4, c4, e⟩
      have hBa : But [] w3 (w3.alloc (.cells #[.slice (some ⟨w2.heap.size, 0, none⟩) (n + n3 / 2) (n + n3 / 2)] 160)) := (But.refl [] w3).alloc _
      have hBg : But [g] (w3.alloc (.cells #[.slice (some ⟨w2.heap.size, 0, none⟩) (n + n3 / 2) (n + n3 / 2)] 160)) w4 := (But.refl [g] _).grown hgrow4 (fun g' e => by
        have : g = g' := by simpa [Value.ownBlock] using e
        subst this; exact .inl (by simp))
      have hap : ∀ v r, OwnR (w3.alloc (.cells #[.slice (some ⟨w2.heap.size, 0, none⟩) (n + n3 / 2) (n + n3 / 2)] 160)) w.heap.size v r → ∀ k ∈ [g], v.ownBlock ≠ some k := fun v r ho k hk => by
        obtain rfl : k = g := by simpa using hk
        exact own_apart (HOWN.out.alloc _) ho (by decide) rfl
      have hO5 := (HO4.out.but hBa (by simp))
      have hO6 := hO5.but hBg (hap _ _ hO5)
      have hR6 := (HR3.out.but hBa (by simp)).but hBg (hap)
      have hg0 : w.heap.size ≤ g := (World.ownsRow.lt HOWN.out g rfl).1
      have HNEW := Lib.hid (show OwnS w4 w.heap.size (.slice (some ⟨g4, 0, none⟩) (k0 + 1 + 1) c4) (L ++ [.slice (some ⟨w2.heap.size, 0, none⟩) (n + n3 / 2) (n + n3 / 2)]) by
        unfold OwnS; rw [List.length_append, HL15.out]; exact hown4)
      have HR7 := Lib.hid (hR6.snoc HL15.out HRL.out.symm hO6)
      have HB7 := Lib.hid ((HBW.out.trans hBa).fresh hBg (fun i hi => by
        obtain rfl : i = g := by simpa using hi
        exact hg0))
      clear hown4 hgrow4 hBa hBg hap hO5 hO6 hR6 hnn
      go_wp2
      go_roundw
      case rel => exact ⟨k0 + 1 + 1, g4, c4, _, by omega, by omega, rfl, by rw [List.length_append, HL15.out]; rfl, HNEW.out, HR7.out, HB7.out⟩
      case measure => simp; try omega
    · obtain rfl : k = most := by omega
      go_wp2
      go_ret
      exact ⟨g, c, L, rfl, hL, hS, hR, hB⟩
end Go.Proofs.YtjeeiodpdfbgmaaDoor
namespace Go.Proofs.YtjeeiodpdfbgmaaDoor
set_option maxRecDepth 100000
open Go Go.RowKit Go.Shelf
/-- The function calls what it is handed for round 0, 1, .. up to N; between two calls it counts on nothing but Kp. -/
def Rounds (F : Fence) (m : Nat) (P : Program) (gf : Nat) (lb : Array Value) (encs : Nat → Array Value) (Kp : World → World → Prop) (N : Nat) (w : World) : Prop :=
  ∀ (l : Nat) (J : Nat → World → Prop) (W : World), Below w.heap.size w W →
    (∀ k W1, J k W1 → k < N → YieldAt F (m - 1) P l (encs k) W1 fun e W' => e = .returned (.bool true) ∧ J (k + 1) W' ∧ Kp W1 W') → J 0 W →
    CallsIn F m P gf (#[.func (.yield l) #[] #[]] ++ lb) W fun e W' => (∃ v, e = .returned v) ∧ J N W'
/-- The body of a round goes on. -/
def goesOn (Kp : World → World → Prop) (I : Nat → World → Prop) (k : Nat) (W : World) : Exit → Act → World → Prop
  | .normal, _, W' => KeepsOthers W W' ∧ Kp W W' ∧ I k W'
  | _, _, _ => False
theorem below_putObj {D : Nat} {W : World} {l : Nat} {o : Obj} (o' : Obj) (h : W.heap[l]? = some o) (hD : D ≤ l) : Below D W (W.putObj l o') :=
  (Below.refl D W).grown (grownBy_putObj' W l o') (by have := (Array.getElem?_eq_some_iff.1 h).1; omega) (fun k e => by cases e; exact hD)

theorem range_rounds {F : Fence} {n : Nat} {P : Program} {g : Operand} {ps : Array Tmp} {assign body : Code} {Q : Exit → Act → World → Prop} {a : Act} {w : World}
    (hro : F.round = none) (h1 : 1 ≤ n) {gf : Nat} {lb : Array Value} (hg : a.eval g = .func (.func gf) #[] lb) (hF : F.fn gf) (eg : ∀ args w, (callFunc gf args).run P w = .ok (.enter gf args) w)
    {encs : Nat → Array Value} {Kp : World → World → Prop} {N : Nat} (hseq : Rounds F (n - 1) P gf lb encs Kp N w)
    (hKt : ∀ {A B C : World}, Kp A B → Kp B C → Kp A C) (hKb : ∀ {A B : World}, Below w.heap.size A B → Kp A B) (hps : ∀ k, (encs k).size = ps.size)
    (I : Nat → World → Prop) (hI : ∀ k W W', I k W → Below w.heap.size W W' → I k W') (h0 : I 0 w) (a₁ : Nat → Act)
    (hassign : ∀ (l k : Nat) (W : World) (K : Act → World → Prop), K (a₁ k) W →
      assign.wpIn (F.inRound l) (n - 1 - 1) P (Exit.then K (fun _ _ _ => False)) { tmps := (ps.zip (encs k)).foldl (fun t (p, v) => t.setIfInBounds p v) a.tmps, defers := [] } W)
    (hbody : ∀ (l k : Nat) (W : World), I k W → k < N → body.wpIn (F.inRound l) (n - 1 - 1) P (goesOn Kp I (k + 1) W) (a₁ k) W)
    (hdone : ∀ W : World, I N W → w.heap.size < W.heap.size → W.heap[w.heap.size]? = some (.deferred (some [])) → Q .normal { a with defers := { target := .collected w.heap.size, args := #[] } :: a.defers } W) :
    (Code.rangeFunc g ps assign body).wpIn F n P Q a w := by
  refine wpIn_rangeFunc fun fn hfn => ?_
  rw [hro]
  obtain ⟨D, hD⟩ : ∃ D, D = w.heap.size := ⟨_, rfl⟩
  obtain ⟨rc, hrc⟩ : ∃ rc : _ → Loop, rc = fun st => { state := st, pending := none, fn, tmps := a.tmps, params := ps, assign, body, defers := D } := ⟨_, rfl⟩
  have hb1 : Below w.heap.size w ((w.alloc (.deferred (some []))).alloc (.loop (rc .ready))) := ((Below.refl _ w).alloc (Nat.le_refl _) _).alloc (by simp) _
  have hl1 : ((w.alloc (.deferred (some []))).alloc (.loop (rc .ready))).heap[D + 1]? = some (.loop (rc .ready)) := by
    have h := World.alloc_heap_new (w.alloc (.deferred (some []))) (.loop (rc .ready))
    rw [World.size_alloc, ← hD] at h
    exact h
  have hk1 : ((w.alloc (.deferred (some []))).alloc (.loop (rc .ready))).heap[D]? = some (.deferred (some [])) := by
    rw [Below.heap_alloc _ _ _ (by simp [hD]), hD]; exact World.alloc_heap_new w _
  have he : (Instr.enterLoop fn a.tmps ps assign body none).run P w = .ok (D + 1, [{ target := .collected D, args := #[] }]) ((w.alloc (.deferred (some []))).alloc (.loop (rc .ready))) := by
    rw [hrc, hD]; exact run_enterLoop_outer fn a.tmps ps assign body
  generalize (w.alloc (.deferred (some []))).alloc (.loop (rc .ready)) = W1 at *
  refine ⟨D + 1, _, W1, { target := .fn (.func gf) lb, args := #[.func (.yield (D + 1)) #[] #[]] }, W1, gf, #[.func (.yield (D + 1)) #[] #[]] ++ lb, W1, he, by simp only [resolve, hg]; simp [go_sem], fun f' hf' => ?_, by simp [invoke, go_sem, eg], fun _ => h1, ?_⟩
  · simp [Target.leads] at hf'; subst hf'; exact hF
  refine (hseq (D + 1) (fun k W => I k W ∧ W.heap[D + 1]? = some (.loop (rc .ready)) ∧ W.heap[D]? = some (.deferred (some []))) W1 hb1 ?_ ⟨hI 0 w W1 h0 hb1, hl1, hk1⟩).mono ?_
  · rintro k W ⟨hi, hl, hk⟩ hkN
    have hlt : D + 1 < W.heap.size := (Array.getElem?_eq_some_iff.1 hl).1
    have hy := run_yield (P := P) (args := encs k) hl (by rw [hrc]; exact hps k)
    rw [hrc] at hy
    refine ⟨fn, _, assign, body, hy, roundIn_of_wpIn hfn (hassign _ k W _ ⟨_, run_beginRound hl (by rw [hrc]), ?_⟩)⟩
    have hbb : Below w.heap.size W (W.putObj (D + 1) (.loop { rc .ready with state := .busy })) := below_putObj _ hl (by omega)
    have hl2 : (W.putObj (D + 1) (.loop { rc .ready with state := .busy })).heap[D + 1]? = some (.loop { rc .ready with state := .busy }) := World.putObj_heap_same hlt
    have hk2 : (W.putObj (D + 1) (.loop { rc .ready with state := .busy })).heap[D]? = some (.deferred (some [])) := (World.putObj_heap_other (by omega)).trans hk
    refine wpIn_mono (hbody _ k _ (hI _ _ _ hi hbb) hkN) ?_
    rintro e a3 W3 hp
    cases e with
    | normal =>
      obtain ⟨hk3, hkp3, hi3⟩ := hp
      have hl3 := hk3.same _ _ hl2 rfl
      have hk3' := hk3.same _ _ hk2 rfl
      have hbe : Below w.heap.size W3 (W3.putObj (D + 1) (.loop (rc .ready))) := below_putObj _ hl3 (by omega)
      refine ⟨.bool true, W3.putObj (D + 1) (.loop (rc .ready)), ?_, rfl, ⟨hI _ _ _ hi3 hbe, World.putObj_heap_same (Array.getElem?_eq_some_iff.1 hl3).1, (World.putObj_heap_other (by omega)).trans hk3'⟩, hKt (hKt (hKb hbb) hkp3) (hKb hbe)⟩
      have hr := run_endRound (P := P) none hl3
      rw [hrc] at hr ⊢
      exact hr
    | ret => exact hp.elim
    | exit id => exact hp.elim
    | goto t => exact hp.elim
    | panic ch => exact hp.elim
    | outgrown => exact hp.elim
  · rintro e W2 ⟨⟨v, rfl⟩, hi, hl, hk⟩
    have hlt : D + 1 < W2.heap.size := (Array.getElem?_eq_some_iff.1 hl).1
    have hr := run_endLoop (P := P) hl (by rw [hrc]; simp)
    rw [hrc] at hr
    refine ⟨none, _, hr, ?_⟩
    have := hdone _ (hI _ _ _ hi (below_putObj (.loop { rc .ready with state := .exhausted }) hl (by omega : w.heap.size ≤ D + 1))) (by simp; omega) (by rw [← hD]; exact (World.putObj_heap_other (by omega)).trans hk)
    rw [hrc, ← hD] at this
    exact this
end Go.Proofs.YtjeeiodpdfbgmaaDoor
namespace Go.Proofs.YtjeeiodpdfbgmaaDoor
set_option maxRecDepth 100000
open Go Go.RowKit Go.Shelf
attribute [local go_sem] Oper.semAt_some
/-- The blocks of R are as they were. -/
def Kept (R : Nat → Prop) (W W' : World) : Prop := ∀ b, R b → W'.heap[b]? = W.heap[b]?
theorem Kept.trans {R : Nat → Prop} {A B C : World} (h : Kept R A B) (k : Kept R B C) : Kept R A C := fun b hb => (k b hb).trans (h b hb)
theorem Kept.cell {R : Nat → Prop} {A B : World} (h : Kept R A B) {a : Addr} (ha : R a.block) : B.cell? a = A.cell? a := World.cell?_of_block (h a.block ha)

set_option maxRecDepth 100000 in
set_option maxHeartbeats 2000000 in
theorem backward_closure {F : Fence} {m : Nat} (hF : F.fn 114) (hro : F.round = none) (hm : 1 ≤ m) {Bs g c N : Nat} {heads : List Value} (hN : heads.length = N) (hN15 : N ≤ 15) {R : Nat → Prop} {w : World}
    (hBs : w.cell? ⟨Bs, 0, none⟩ = some (.slice (some ⟨g, 0, none⟩) N c)) (hBl : Bs < w.heap.size) (hgl : g < w.heap.size) (hc : ∀ i (h : i < heads.length), w.cell? ⟨g, i, none⟩ = some heads[i]) (hRB : R Bs) (hRg : R g) :
    Rounds F m Tryd.prog 114 #[.pointer (some ⟨Bs, 0, none⟩)] (fun k => #[.int .i64 ((N : Int) - k - 1), heads[N - k - 1]?.getD undef]) (Kept R) N w := by
  intro l J W hW hY h0
  have hBs' : W.cell? ⟨Bs, 0, none⟩ = some (.slice (some ⟨g, 0, none⟩) N c) := (hW.cell (p := ⟨Bs, 0, none⟩) hBl).trans hBs
  have hc' : ∀ i (h : i < heads.length), W.cell? ⟨g, i, none⟩ = some heads[i] := fun i h => (hW.cell (p := ⟨g, i, none⟩) hgl).trans (hc i h)
  clear hBs hc
  refine callsIn_of_wp Tryd.func114 rfl hF ?_ hro
  simp only [Tryd.ntmps114, List.size_toArray, List.length_cons, List.length_nil, Nat.reduceAdd, Nat.reduceSub, Array.replicate_succ, Array.replicate_zero, List.push_toArray, List.append_toArray, List.nil_append, List.cons_append]
  gi_wp2
  gi_loopw [3] (fun i wr => ∃ k : Nat, k ≤ N ∧ i = .int .i64 ((N : Int) - k - 1) ∧ J k wr ∧ Kept R W wr) (fun i _ => (intOf i + 1).toNat)
  case atStart => exact ⟨0, Nat.zero_le _, by go_num, h0, fun b _ => rfl⟩
  case round =>
    obtain ⟨k, hk, rfl, hJ, hK⟩ := hrel
    by_cases hlt : k < N
    · obtain ⟨fn, tmps, assign, body, hy, hR⟩ := hY k wr hJ hlt
      obtain ⟨j, hj⟩ : ∃ j, N - k - 1 = j := ⟨_, rfl⟩
      rw [hj] at hy
      have hji : (N : Int) - k - 1 = (j : Int) := by omega
      rw [hji] at hy
      have hjl : j < heads.length := by omega
      have hgd : heads[j]?.getD undef = heads[j] := by rw [List.getElem?_eq_getElem hjl]; rfl
      rw [hgd] at hy
      have c1 : wr.cell? ⟨Bs, 0, none⟩ = some (.slice (some ⟨g, 0, none⟩) N c) := (hK.cell hRB).trans hBs'
      have c2 : wr.cell? ⟨g, j, none⟩ = some heads[j] := (hK.cell hRg).trans (hc' j hjl)
      generalize heads[j] = v at *
      have j0 : 0 ≤ (j : Int) := by omega
      have jN : (j : Int) < (N : Int) := by omega
      clear hc' hY hgd
      gi_wp2
      refine hR.mono ?_
      rintro e W3 ⟨rfl, hJ3, hk3⟩
      gi_wp2
      go_roundw
      case rel => exact ⟨k + 1, by omega, by congr 1; omega, hJ3, hK.trans hk3⟩
      case measure => simp [intOf]; omega
    · obtain rfl : k = N := by omega
      gi_wp2
      go_end0
      exact ⟨⟨_, rfl⟩, hJ⟩
theorem backward_in {F : Fence} {m : Nat} (hF : F.fn 107) (hro : F.round = none) (v : Value) {A : Option Addr} {n c : Nat} (hv : v = .slice A n c) (w : World) :
    CallsIn F m Tryd.prog 107 #[v] w fun e w' => e = .returned (.func (.func 114) #[] #[.pointer (some ⟨w.heap.size, 0, none⟩)]) ∧ w' = w.alloc (.cells #[v] 139) := by
  subst hv
  refine callsIn_of_wp Tryd.func107 rfl hF ?_ hro
  simp only [Tryd.ntmps107, List.size_toArray, List.length_cons, List.length_nil, Nat.reduceAdd, Nat.reduceSub, Array.replicate_succ, Array.replicate_zero, List.push_toArray, List.append_toArray, List.nil_append, List.cons_append]
  gi_wp2
  go_ret
  exact ⟨rfl, rfl⟩
end Go.Proofs.YtjeeiodpdfbgmaaDoor
namespace Go.Proofs.YtjeeiodpdfbgmaaDoor
set_option maxRecDepth 100000
/-- How many items are looked at in round k, from the last row on. -/
def aAt (ws : List Nat) (K a : Nat) : Nat → Nat
  | 0 => a
  | k + 1 => 2 * (aAt ws K a k - tk (rowN ws (K - k)) (aAt ws K a k))
def tAt (ws : List Nat) (K a k : Nat) : Nat := tk (rowN ws (K - k)) (aAt ws K a k)
/-- One more for each of the first t coins. -/
def bump (cs : List (Nat × Nat)) (t : Nat) (l : List Int) : List Int := (cs.take t).foldl (fun l c => l.set c.1 (l.getD c.1 0 + 1)) l
def lFold (cs : List (Nat × Nat)) (ts : List Nat) (l : List Int) : List Int := ts.foldl (fun l t => bump cs t l) l

theorem aAt_shift (ws : List Nat) (K a : Nat) : ∀ k, aAt ws (K + 1) a (k + 1) = aAt ws K (2 * (a - tk (rowN ws (K + 1)) a)) k
  | 0 => rfl
  | k + 1 => by rw [aAt, aAt_shift ws K a k, aAt, Nat.add_sub_add_right]
theorem cc_range (ws : List Nat) : ∀ K a, cc ws K a = (List.range (K + 1)).map (tAt ws K a)
  | 0, a => rfl
  | K + 1, a => by
    rw [cc, cc_range ws K, List.range_succ_eq_map (n := K + 1), List.map_cons, List.map_map]
    congr 1
    apply List.map_congr_left
    intro k _
    simp only [tAt, Function.comp, Nat.succ_eq_add_one]
    rw [aAt_shift, Nat.add_sub_add_right]
theorem aAt_le (ws : List Nat) (K a : Nat) (h : a ≤ (rowN ws K).length) : ∀ k, k ≤ K → aAt ws K a k ≤ (rowN ws (K - k)).length
  | 0, _ => h
  | k + 1, hk => by
    have ih := aAt_le ws K a h k (by omega)
    have e : K - k = (K - (k + 1)) + 1 := by omega
    rw [aAt]
    rw [e] at ih ⊢
    exact pairs_enough ws _ _ ih
theorem length_bump (cs : List (Nat × Nat)) (t : Nat) (l : List Int) : (bump cs t l).length = l.length := by
  unfold bump
  have : ∀ (p : List (Nat × Nat)) (l : List Int), (p.foldl (fun l c => l.set c.1 (l.getD c.1 0 + 1)) l).length = l.length := by
    intro p
    induction p with
    | nil => intro l; rfl
    | cons c p ih => intro l; rw [List.foldl_cons, ih, List.length_set]
  exact this _ _
theorem bump_succ (cs : List (Nat × Nat)) (t : Nat) (l : List Int) (h : t < cs.length) : bump cs (t + 1) l = (bump cs t l).set cs[t].1 ((bump cs t l).getD cs[t].1 0 + 1) := by
  unfold bump; rw [List.take_succ_eq_append_getElem h, List.foldl_append]; rfl
theorem length_lFold (cs : List (Nat × Nat)) (ts : List Nat) (l : List Int) : (lFold cs ts l).length = l.length := by
  unfold lFold
  induction ts generalizing l with
  | nil => rfl
  | cons t ts ih => rw [List.foldl_cons, ih, length_bump]
theorem lFold_snoc (cs : List (Nat × Nat)) (ts : List Nat) (t : Nat) (l : List Int) : lFold cs (ts ++ [t]) l = bump cs t (lFold cs ts l) := by unfold lFold; rw [List.foldl_append]; rfl
/-- What may stand in a list of lengths. -/
def Small (B : Nat) (l : List Int) : Prop := ∀ x ∈ l, 0 ≤ x ∧ x ≤ (B : Int)
theorem Small.bumped {B : Nat} {l : List Int} (h : Small B l) (cs : List (Nat × Nat)) : ∀ t, Small (B + t) (bump cs t l) := by
  intro t
  induction t with
  | zero => simpa [bump] using h
  | succ t ih =>
    by_cases ht : t < cs.length
    · rw [bump_succ cs t l ht]
      intro x hx
      rcases List.mem_or_eq_of_mem_set hx with h1 | h1
      · have := ih x h1; omega
      · subst h1
        rcases Nat.lt_or_ge cs[t].1 (bump cs t l).length with h2 | h2
        · have := ih _ (List.getElem_mem h2)
          rw [List.getD_eq_getElem?_getD, List.getElem?_eq_getElem h2]
          simp only [Option.getD_some]; omega
        · rw [List.getD_eq_getElem?_getD, List.getElem?_eq_none h2]; simp; omega
    · have e : bump cs (t + 1) l = bump cs t l := by
        unfold bump; rw [List.take_of_length_le (by omega), List.take_of_length_le (by omega)]
      rw [e]; intro x hx; have := ih x hx; omega
theorem tk_succ (row : List (Nat × Bool)) (a : Nat) (h : a < row.length) : tk row (a + 1) = tk row a + (if row[a].2 then 0 else 1) := by
  unfold tk coinsIn
  rw [List.take_succ_eq_append_getElem h, List.filter_append, List.length_append]
  congr 1
  cases hb : row[a].2 <;> simp [hb]
end Go.Proofs.YtjeeiodpdfbgmaaDoor
