/- Several texts in one: RLimit (what Wraps reach of them). -/
import Derived.Test.YtghegmbafbpnjaaGreatDoorPm01
import Derived.Test.YtghegmbafbpnjaaGreatDoorPm02
import Derived.Test.YtghegmbafbpnjaaGreatDoorPm03
import Derived.Test.YtghegmbafbpnjaaGreatDoorPm04
import Derived.Test.YtghegmbafbpnjaaGreatDoorPm05
import Derived.Test.YtghegmbafbpnjaaGreatDoorPm06
import Derived.Test.YtghegmbafbpnjaaGreatDoorPm07
import Derived.Test.YtghegmbafbpnjaaGreatDoorPm08
import Derived.Test.YtghegmbafbpnjaaGreatDoorPm09
import Derived.Test.YtghegmbafbpnjaaGreatDoorPm10
import Derived.Test.YtghegmbafbpnjaaGreatDoorPm11
import Derived.Test.YtghegmbafbpnjaaGreatDoorPm12
import Derived.Test.YtghegmbafbpnjaaGreatDoorPm13
import Derived.Test.YtghegmbafbpnjaaGreatDoorPm14
import Derived.Test.YtghegmbafbpnjaaGreatDoorPm15
import Derived.Test.YtghegmbafbpnjaaGreatDoorPm16
import Derived.Test.YtghegmbafbpnjaaGreatDoorPm26
import Derived.Test.YtghegmbafbpnjaaGreatDoorPm27
import Derived.Test.YtghegmbafbpnjaaGreatDoorPm28
import Derived.Below
import Derived.BigQuiet
import Derived.BigRegion
import Derived.Deep.AppendLies
import Derived.Deep.CutBlock
import Derived.Deep.CutRange
import Derived.Deep.DeepCutAuto
import Derived.Deep.Draws
import Derived.Deep.QuietTactic
import Derived.Deep.RegionLaw
import Derived.Deep.Slices
import Derived.Laws.BitsAllLaws
import Derived.Laws.BitsLemmas
import Derived.Laws.IdiomStrings
import Derived.Laws.OwnMore
import Derived.Laws.Rows
import Derived.Lib.AppendStr
import Derived.Lib.Hide
import Derived.Lib.Strings
import Derived.LoopIn
import Derived.LoopNIn
import Derived.OneCell
import Derived.OpenShut
import Derived.Outline
import Derived.OwnWalk
import Derived.OwnWalkIn
import Derived.ProofKit
import Derived.RangeFuncBound
import Derived.RangeFuncCalls
import Derived.RangeFuncLeaves
import Derived.RangeFuncNested
import Derived.RegionTactic
import Derived.Shelf.Abstract
import Derived.Shelf.RegionOpen
import Derived.Shelf.SlSortCmp.QuietGrown
import Derived.StillTailTactics
import Derived.TacticsInMore
import Derived.Test.YtghegmbafbpnjaaGreatDoorChecked
import Derived.WalkKit
import Derived.WalkLawsBesides
import Derived.WalkSpells
set_option maxRecDepth 100000
set_option linter.unusedVariables false
namespace Go.Proofs.YtghegmbafbpnjaaGreatDoor
set_option maxRecDepth 100000
open Go Go.RowKit
theorem zeroRow_get (n i : Nat) (h : i < n) : (zeroRow n)[i]? = some (.int .i64 0) := by
  unfold zeroRow madeCells
  have e : (Value.int .i64 0).cells = #[.int .i64 0] := rfl
  rw [e]
  simp [h, Nat.mod_one]
theorem zeroRow_size (n : Nat) : (zeroRow n).size = n := by unfold zeroRow; rw [size_madeCells]; omega

theorem NewThing.b (w : World) (len x : Nat) (b : Bool) : NewThing w ((w.alloc (.cells #[.int .i64 x, .bool b, .slice (some ⟨w.heap.size + 1, 0, none⟩) len len] 130)).alloc (.cells (zeroRow len) 3)).drew len x b (.pointer (some ⟨w.heap.size, 0, none⟩)) := by
  have h := Is.fresh (w.alloc (.cells #[.int .i64 x, .bool b, .slice (some ⟨w.heap.size + 1, 0, none⟩) len len] 130)) 3 (zeroRow len)
  rw [show (w.alloc (.cells #[.int .i64 x, .bool b, .slice (some ⟨w.heap.size + 1, 0, none⟩) len len] 130)).heap.size = w.heap.size + 1 from by simp] at h
  exact ⟨w.heap.size, w.heap.size + 1, rfl, by omega, by omega, by omega, ((Is.fresh w 130 _).alloc _).drew, h.drew, (((But.refl [] w).alloc _).alloc _).drew⟩
theorem unit_ints {w : World} {gt len k : Nat} (h : Is w gt 3 ((zeroRow len).setIfInBounds k (.int .i64 1))) : Ints w (some ⟨gt, 0, none⟩) len (unitV len k) := by
  have hl : (unitV len k).length = len := by simp [unitV]
  refine Ints.of h hl fun i hi => ?_
  have hi' : i < len := by omega
  rw [← getD_in hi, unitV_getD]
  rw [Array.getElem?_setIfInBounds]
  by_cases e : k = i
  · subst e
    rw [if_pos rfl, if_pos (by rw [zeroRow_size]; exact hi'), if_pos ⟨rfl, hi'⟩]
  · rw [if_neg e, zeroRow_get _ _ hi', if_neg (fun h => e h.1)]
theorem Things.news' {w : World} {ad : Addr} {n len : Nat} {L : List Th} (h : Things w (some ad) n len L) : ∀ j u, (thCells len L)[j]? = some u → w.cell? (ad.add j) = some u := by
  by_cases hn : 0 < n
  · obtain ⟨g, o, e, _⟩ := h.2.1 hn
    injection e with e
    subst e
    exact h.news hn
  · intro j u hu
    have : L = [] := List.eq_nil_of_length_eq_zero (by have := h.1; omega)
    subst this; simp [thCells] at hu
theorem thCells_one (len : Nat) (L : List Th) : ∀ u ∈ thCells len L, u.oneCell' = true := by
  intro u hu
  obtain ⟨x, _, hx⟩ := List.mem_flatMap.1 hu
  simp only [List.mem_cons, List.not_mem_nil, or_false] at hx
  rcases hx with rfl | rfl | rfl <;> rfl
theorem OwnT.joined {w wr w' : World} {len m : Nat} {v v' : Value} {L X : List Th} (hB : But [] w wr) (hO : OwnT wr w.heap.size len v L) (hm : X.length = m)
    (h1 : w'.ownsRow w.heap.size 130 3 v' (L.length + m) (thCells len L ++ thCells len X)) (hg : wr.grownBy w' v.ownBlock) : OwnT w' w.heap.size len v' (L ++ X) ∧ But [] w w' := by
  subst hm
  refine ⟨?_, hB.grown hg (fun g e => .inr (hO.lt g e).1)⟩
  unfold OwnT
  rw [List.length_append, thCells_append]
  exact h1
theorem OwnT.state {w : World} {base len : Nat} {v : Value} {L : List Th} (h : OwnT w base len v L) (hv : Vecs w len L) : ∃ A c, v = .slice A L.length c ∧ L.length ≤ c ∧ (A = none → c = 0) ∧ Things w A L.length len L ∧ ∀ a, A = Option.some a → base ≤ a.block := by
  have h' := h
  unfold OwnT at h'
  rcases h'.2 with ⟨rfl, e⟩ | ⟨g, cap, cur, rfl, hg, hh, hcap, r⟩
  · have : L = [] := List.eq_nil_of_length_eq_zero e
    subst this
    exact ⟨none, 0, rfl, Nat.le_refl _, fun _ => rfl, Things.nil _ _ _, fun a e => by cases e⟩
  · obtain ⟨A, c, e1, hT⟩ := h.open hv
    injection e1 with e1 e2 e3
    subst e1 e3
    exact ⟨_, _, rfl, hcap, fun e => (by cases e), hT, fun a e => (by injection e with e; rw [← e]; exact hg)⟩
theorem own_of_is {w : World} {base g n : Nat} {cs : Array Value} {r : List Int} (h : Is w g 3 cs) (hb : base ≤ g) (hn : r.length = n) (hm : n ≤ maxLen) (hc : cs.toList = r.map (.int .i64)) : OwnI w base (.slice (some ⟨g, 0, none⟩) n n) r := by
  subst hn
  have hs : cs.size = r.length := by rw [← Array.length_toList, hc, List.length_map]
  exact ⟨by simp, .inr ⟨g, r.length, cs, rfl, hb, h, Nat.le_refl _, hm, by omega, by rw [hc, Nat.mul_one, List.take_of_length_le (by simp)]⟩⟩
theorem zeroRow_list (n : Nat) : (zeroRow n).toList = (List.replicate n (0 : Int)).map (.int .i64) := by
  apply List.ext_getElem?
  intro i
  rw [Array.getElem?_toList]
  by_cases h : i < n
  · rw [zeroRow_get n i h, List.getElem?_map, List.getElem?_eq_getElem (by simpa using h)]; simp
  · rw [Array.getElem?_eq_none (by rw [zeroRow_size]; omega), List.getElem?_map, List.getElem?_eq_none (by simpa using h)]; rfl
theorem unit_list (n k : Nat) : ((zeroRow n).setIfInBounds k (.int .i64 1)).toList = (unitV n k).map (.int .i64) := by
  rw [Array.toList_setIfInBounds, zeroRow_list]
  unfold unitV
  rw [List.map_set]
/-- The numbers of a pair, the first s of them reckoned. -/
def midRow (n s : Nat) (u v : List Int) : Array Value := ((List.range n).map fun i => Value.int .i64 (if i < s then u.getD i 0 + v.getD i 0 else 0)).toArray
theorem midRow_get {n s i : Nat} {u v : List Int} (h : i < n) : (midRow n s u v)[i]? = some (.int .i64 (if i < s then u.getD i 0 + v.getD i 0 else 0)) := by
  unfold midRow; simp [h]
theorem midRow_zero (n : Nat) (u v : List Int) : midRow n 0 u v = zeroRow n := by
  apply Array.toList_inj.1
  rw [zeroRow_list]
  unfold midRow
  simp [List.map_const']
theorem midRow_put {n s : Nat} {u v : List Int} (h : s < n) : (midRow n s u v).setIfInBounds s (.int .i64 (u.getD s 0 + v.getD s 0)) = midRow n (s + 1) u v := by
  apply Array.toList_inj.1
  apply List.ext_getElem?
  intro i
  rw [Array.getElem?_toList, Array.getElem?_toList, Array.getElem?_setIfInBounds]
  have hs : (midRow n s u v).size = n := by unfold midRow; simp
  by_cases hi : i < n
  · by_cases e : s = i
    · subst e
      rw [if_pos rfl, if_pos (by omega), midRow_get hi, if_pos (by omega)]
    · rw [if_neg e, midRow_get hi, midRow_get hi]
      by_cases h1 : i < s
      · rw [if_pos h1, if_pos (by omega)]
      · rw [if_neg h1, if_neg (by omega)]
  · have hs2 : (midRow n (s + 1) u v).size = n := by unfold midRow; simp
    rw [if_neg (by omega), Array.getElem?_eq_none (by omega), Array.getElem?_eq_none (by omega)]
theorem midRow_full {w : World} {g n : Nat} {u v : List Int} (h : Is w g 3 (midRow n n u v)) (hu : u.length = n) (hv : v.length = n) : Ints w (some ⟨g, 0, none⟩) n (addV u v) := by
  have hl : (addV u v).length = n := by simp [addV, hu, hv]
  refine Ints.of h hl fun i hi => ?_
  have hi' : i < n := by omega
  rw [midRow_get hi', if_pos hi', ← getD_in hi, addV_getD (hu.trans hv.symm)]
/-- All of it lies above. -/
def Above (lo : Nat) (A : Option Addr) (L : List Th) : Prop := (∀ a, A = some a → lo ≤ a.block) ∧ ∀ x ∈ L, ∀ a, x.a = some a → lo ≤ a.block
theorem VecsT.vecs {w : World} {base len : Nat} {P : List Th} (h : VecsT w base len P) : Vecs w len P := fun y hy => by
  obtain ⟨_, _, _, _, _, hv⟩ := h y hy; exact hv
/-- Pairs so far, in memory. -/
def PairsSt (wo wr : World) (len : Nat) (T : List Tg) (q : Nat) (v : Value) : Prop := ∃ P : List Th, OwnT wr wo.heap.size len v P ∧ VecsT wr wo.heap.size len P ∧ P.map Th.t = (prT T).take q ∧ But [] wo wr
/-- A row, in memory. -/
def RowSt (w1 wr : World) (len : Nat) (T : List Tg) (v : Value) : Prop := ∃ (A : Option Addr) (n' c : Nat) (L : List Th), v = .slice A n' c ∧ n' = L.length ∧ L.map Th.t = T ∧ Things wr A n' len L ∧ Above w1.heap.size A L ∧ But [] w1 wr
/-- The sums so far; of the first s symbols one item more. -/
def sumT (T : List Tg) (i s : Nat) : Int := ((T.take i).map fun x => x.2.getD s 0).sum
def sumRow (T : List Tg) (n i s : Nat) : Array Value := ((List.range n).map fun x => Value.int .i64 (if x < s then sumT T (i + 1) x else sumT T i x)).toArray
theorem sumRow_get {T : List Tg} {n i s x : Nat} (h : x < n) : (sumRow T n i s)[x]? = some (.int .i64 (if x < s then sumT T (i + 1) x else sumT T i x)) := by unfold sumRow; simp [h]
theorem sumRow_size (T : List Tg) (n i s : Nat) : (sumRow T n i s).size = n := by unfold sumRow; simp
theorem sumRow_put {T : List Tg} {n i s : Nat} (h : s < n) : (sumRow T n i s).setIfInBounds s (.int .i64 (sumT T (i + 1) s)) = sumRow T n i (s + 1) := by
  apply Array.toList_inj.1
  apply List.ext_getElem?
  intro x
  rw [Array.getElem?_toList, Array.getElem?_toList, Array.getElem?_setIfInBounds]
  by_cases hx : x < n
  · by_cases e : s = x
    · subst e
      rw [if_pos rfl, if_pos (by rw [sumRow_size]; exact h), sumRow_get hx, if_pos (by omega)]
    · rw [if_neg e, sumRow_get hx, sumRow_get hx]
      by_cases h1 : x < s
      · rw [if_pos h1, if_pos (by omega)]
      · rw [if_neg h1, if_neg (by omega)]
  · rw [if_neg (by omega), Array.getElem?_eq_none (by rw [sumRow_size]; omega), Array.getElem?_eq_none (by rw [sumRow_size]; omega)]
theorem sumRow_next (T : List Tg) (n i : Nat) : sumRow T n i n = sumRow T n (i + 1) 0 := by
  apply Array.toList_inj.1
  apply List.ext_getElem?
  intro x
  rw [Array.getElem?_toList, Array.getElem?_toList]
  by_cases hx : x < n
  · rw [sumRow_get hx, sumRow_get hx, if_pos hx, if_neg (by omega)]
  · rw [Array.getElem?_eq_none (by rw [sumRow_size]; omega), Array.getElem?_eq_none (by rw [sumRow_size]; omega)]
theorem sumRow_zero (T : List Tg) (n : Nat) : sumRow T n 0 0 = zeroRow n := by
  apply Array.toList_inj.1
  apply List.ext_getElem?
  intro x
  rw [Array.getElem?_toList, Array.getElem?_toList]
  by_cases hx : x < n
  · rw [sumRow_get hx, zeroRow_get _ _ hx, if_neg (by omega)]; rfl
  · rw [Array.getElem?_eq_none (by rw [sumRow_size]; omega), Array.getElem?_eq_none (by rw [zeroRow_size]; omega)]
theorem sumT_succ {T : List Tg} {i s : Nat} (h : i < T.length) : sumT T (i + 1) s = sumT T i s + T[i].2.getD s 0 := by
  unfold sumT
  rw [List.take_succ_eq_append_getElem h, List.map_append, List.sum_append]; simp
theorem sumRow_list {T : List Tg} {n i : Nat} {r : List Int} (hr : r.length = n) (h : ∀ s, s < n → sumT T i s = r.getD s 0) : (sumRow T n i 0).toList = r.map (.int .i64) := by
  apply List.ext_getElem?
  intro x
  rw [Array.getElem?_toList]
  by_cases hx : x < n
  · rw [sumRow_get hx, if_neg (by omega), h x hx, List.getElem?_map, List.getElem?_eq_getElem (by omega), getD_in (by omega)]; rfl
  · rw [Array.getElem?_eq_none (by rw [sumRow_size]; omega), List.getElem?_map, List.getElem?_eq_none (by omega)]; rfl
/-- The coins of the symbols below k, in memory. -/
def CoinsSt (w1 wr : World) (len : Nat) (l : List Int) (k n : Nat) (v : Value) : Prop := ∃ (A : Option Addr) (n' c : Nat) (L : List Th), v = .slice A n' c ∧ n' = L.length ∧ n' ≤ c ∧ (A = none → c = 0) ∧ L.map Th.t = (csOf l k).map (coinT len) ∧
  Things wr A n' len L ∧ Above w1.heap.size A L ∧ But [] w1 wr ∧ (n = 1 → csOf l k = [])

set_option maxRecDepth 100000 in
set_option maxHeartbeats 4000000 in
theorem rlimit_any {w : World} {A : Option Addr} {len cap M : Nat} {l : List Int} (hl : Ints w A len l) (hM1 : 1 ≤ M) (hM2 : M ≤ 15) (h288 : len ≤ 288) (hok : okCounts l = true) (hp : (csOf l len).length ≤ 2 ^ M) :
    Calls Tryz.prog 56 #[.int .i64 (M : Int), .slice A len cap] w (GotList w len (lims M l)) := by
  have hlen := hl.1
  have hmk := run_zeros len (by omega)
  have HL := Lib.hid hl
  have HLEN := Lib.hid hlen
  have HOK := Lib.hid hok
  have HP := Lib.hid hp
  have HMK := Lib.hid hmk
  have d0 : decide (288 < len) = false := by simp; omega
  have d1 : decide ((M : Int) < 1) = false := by simp; omega
  have d2 : decide ((15 : Int) < (M : Int)) = false := by simp; omega
  have d3 : decide ((288 : Int) < (len : Int)) = false := by simp; omega
  clear hl hlen hok hp hmk
  go_enter Tryz.func56, Tryz.ntmps56
  go_wp2
  clear d0 d3
  go_loop [6, 7] (fun mv iv => ∃ k : Nat, k ≤ len ∧ iv = .int .i64 k ∧ mv = .int .i64 (csOf l k).length) (fun _ iv => len - (intOf iv).toNat)
  case atStart => exact ⟨0, Nat.zero_le _, rfl, rfl⟩
  case round =>
    obtain ⟨k, hk, rfl, rfl⟩ := hrel
    have hcl := length_coins0 l k
    have hce := length_csOf l k
    by_cases hlt : k < len
    · obtain ⟨g, o, rfl, hg, hc⟩ := HL.out.at hlt
      have hgd : l.getD k 0 = l[k]'(by have := HLEN.out; omega) := getD_in _
      have hr := count_range HOK.out k
      have hs : (csOf l (k + 1)).length = if 0 < l.getD k 0 then (csOf l k).length + 1 else (csOf l k).length := by
        rw [length_csOf, length_csOf]
        show (if 0 < l.getD k 0 then _ else _ : List (Nat × Nat)).length = _
        split
        · simp
        · rfl
      rw [hgd] at hr hs
      generalize l[k]'(by have := HLEN.out; omega) = x at *
      have HS := Lib.hid hs
      have hb : (csOf l k).length ≤ 288 := by omega
      have n0 : decide (x < 0) = false := by simp; omega
      have n1 : decide ((1000000000 : Int) < x) = false := by simp; omega
      generalize (csOf l k).length = c at *
      clear hcl hce hs hgd
      by_cases hx : 0 < x
      · go_wp2
        go_round
        case rel => exact ⟨k + 1, by omega, by go_num, by rw [HS.out, if_pos hx]; go_num⟩
        case measure => simp [intOf]; omega
      · go_wp2
        go_round
        case rel => exact ⟨k + 1, by omega, by go_num, by rw [HS.out, if_neg hx]⟩
        case measure => simp [intOf]; omega
    · have hke : len = k := by omega
      subst hke
      obtain ⟨n, hn⟩ : ∃ n, n = (csOf l len).length := ⟨_, rfl⟩
      have HN := Lib.hid hn
      rw [← hn] at hce ⊢
      have hn288 : n ≤ 288 := by omega
      have hn2 : n ≤ 2 ^ M := by have := HP.out; omega
      obtain ⟨p, hpp⟩ : ∃ p : Nat, p = 2 ^ M := ⟨_, rfl⟩
      have h15 : 2 ^ M ≤ 2 ^ 15 := Nat.pow_le_pow_right (by decide) hM2
      have hp15 : p ≤ 32768 := by rw [hpp]; exact h15
      have hsh : (2 : Int) ^ M = (p : Int) := by rw [hpp]; simp
      have dnp : decide (p < n) = false := by simp; omega
      have dp1 : decide ((p : Int) < 1) = false := by have := Nat.two_pow_pos M; simp; omega
      clear hn2 h15 hcl hce hpp hn hlt
      have hmk := HMK.out
      go_upto_block 2 with (fail)
      clear hmk hsh dnp dp1
      have HO1 := Lib.hid (Is.fresh w 3 (zeroRow len))
      have HB1 := Lib.hid ((But.refl [] w).alloc (.cells (zeroRow len) 3))
      have HW1 := Lib.hid (show w.heap.size < (w.alloc (.cells (zeroRow len) 3)).heap.size by simp)
      generalize w.alloc (.cells (zeroRow len) 3) = w1 at *
      go_cut [9] (fun v wx => CoinsSt w1 wx len l len n v ∧ n ≠ 1)
      case first =>
        go_wp2_with fail
        go_loopw [9, 10] (fun cv iv wr => ∃ k : Nat, k ≤ len ∧ iv = .int .i64 k ∧ CoinsSt w1 wr len l k n cv) (fun _ iv _ => len - (intOf iv).toNat)
        case atStart => exact ⟨0, Nat.zero_le _, rfl, none, 0, 0, [], rfl, rfl, Nat.le_refl _, fun _ => rfl, rfl, Things.nil _ _ _, ⟨(fun a e => by cases e), (fun x hx => by cases hx)⟩, But.refl _ _, fun _ => rfl⟩
        case round =>
          obtain ⟨k, hk, rfl, A', n', c', L, rfl, hn', hnc, hAc, hLt, hT, hAb, hB, hone⟩ := hrel
          by_cases hlt : k < len
          · obtain ⟨g, o, rfl, hg, hc⟩ := HL.out.at hlt
            have hgd : l.getD k 0 = l[k]'(by have := HLEN.out; omega) := getD_in _
            have hr := count_range HOK.out k
            have hs : csOf l (k + 1) = if 0 < l.getD k 0 then ins (csOf l k) (k, (l.getD k 0).toNat) else csOf l k := rfl
            rw [hgd] at hr hs
            generalize l[k]'(by have := HLEN.out; omega) = x at *
            have hcr := (HB1.out.trans hB).cell hc (by simp)
            have HS := Lib.hid hs
            have HLT := Lib.hid hLt
            have HT := Lib.hid hT
            have HAB := Lib.hid hAb
            have HB := Lib.hid hB
            have HONE := Lib.hid hone
            have HN' := Lib.hid hn'
            have HAC := Lib.hid hAc
            clear hs hLt hT hAb hB hone hgd hn' hAc hc
            obtain ⟨wo, rfl⟩ : ∃ wo : World, wo = wr := ⟨_, rfl⟩
            have hk0 : (0 : Int) ≤ (k : Int) := by omega
            have hkl : (k : Int) < (len : Int) := by omega
            by_cases hx : 0 < x
            · obtain ⟨c, rfl⟩ : ∃ c : Nat, x = c := ⟨x.toNat, by omega⟩
              have dx : ((c : Int) == 0) = false := by simp; omega
              have hmk := run_zeros len (by omega)
              go_upto_region 19 with (fail)
              go_cut [11] (fun v wx => NewThing wo wx len c true v)
              case first =>
                have hc1 : ∀ o1, (wo.alloc o1).cell? ⟨g, o + k, none⟩ = some (.int .i64 (c : Int)) := fun o1 => ((But.refl [] wo).alloc o1).cell hcr (by simp)
                have hc2 : ∀ o1 o2, ((wo.alloc o1).alloc o2).cell? ⟨g, o + k, none⟩ = some (.int .i64 (c : Int)) := fun o1 o2 => (((But.refl [] wo).alloc o1).alloc o2).cell hcr (by simp)
                go_region
                all_goals
                  (try go_wp2)
                  go_meet
                  first | exact NewThing.a _ _ _ _ | exact NewThing.b _ _ _ _
              case rest =>
                obtain ⟨gc, gt, rfl, hc1, hc2, hc3, hIc, hIt, hBn⟩ := hcut
                have k1 := hIc.cell 2
                have k2 := (hIt.cell k).trans (zeroRow_get len k hlt)
                have k3 := hIt.free k
                have k1' : wc.cell? ⟨gc, 2, none⟩ = some (.slice (some ⟨gt, 0, none⟩) len len) := k1
                clear k1 hcr
                go_upto_block 4 with (fail)
                clear k1' k2 k3
                have hIc2 := hIc.far (p := ⟨gt, k, none⟩) hc3 (.int .i64 1)
                have hIt2 := hIt.put k (.int .i64 1)
                have hB2 := hBn.setCell (p := ⟨gt, k, none⟩) (.inr hc2) (.int .i64 1)
                generalize wc.setCell ⟨gt, k, none⟩ (.int .i64 1) = w2 at *
                have HIC := Lib.hid hIc2
                have HV := Lib.hid (unit_ints hIt2)
                have HB2 := Lib.hid hB2
                have HT2 := Lib.hid (HT.out.but hB2)
                have hsp := spot_le c (csOf l k)
                have hLc : L.length = (csOf l k).length := by have := congrArg List.length HLT.out; simpa using this
                obtain ⟨sp, hspe⟩ : ∃ sp, sp = spot c (csOf l k) := ⟨_, rfl⟩
                have hspn : sp ≤ n' := by have := HN'.out; omega
                have hn2 : n' ≤ 288 := by have := HN'.out; have := length_csOf l k; have := length_coins0 l k; omega
                have HSP := Lib.hid hspe
                have hLn : ∀ j (hj : j < L.length), L[j].n = ((csOf l k)[j]'(by omega)).2 := fun j hj => by
                  have h2 := congrArg (fun x : List Tg => x[j]?) HLT.out
                  simp only [List.getElem?_map, List.getElem?_eq_getElem hj, List.getElem?_eq_getElem (show j < (csOf l k).length by omega), Option.map_some, Option.some.injEq] at h2
                  exact congrArg Prod.fst h2
                have hbelow : ∀ j (hj : j < L.length), j ≤ sp → L[j].n ≤ c → j + 1 ≤ sp := fun j hj h1 h2 => by
                  apply Classical.byContradiction; intro h3
                  have h4 : sp = j := by omega
                  have h5 := spot_at c (csOf l k) (by omega)
                  rw [hLn j hj] at h2
                  have : (csOf l k)[j]'(by omega) = (csOf l k)[spot c (csOf l k)]'(by omega) := by congr 1; omega
                  rw [this] at h2
                  omega
                have habove : ∀ j (hj : j < L.length), j ≤ sp → ¬ L[j].n ≤ c → j = sp := fun j hj h1 h2 => by
                  apply Classical.byContradiction; intro h3
                  have h5 := spot_before c (csOf l k) j (by omega) (by omega)
                  rw [hLn j hj] at h2
                  omega
                have HBEL := Lib.hid hbelow
                have HABV := Lib.hid habove
                clear hIc hIt hBn hIc2 hIt2 hB2 hsp hLc hspe hLn hbelow habove hc3
                go_cut [12] (fun v wx => v = .int .i64 (sp : Nat) ∧ But [] w2 wx)
                case first =>
                  go_wp2_with fail
                  go_loopw [12] (fun v wr => ∃ j : Nat, j ≤ sp ∧ v = .int .i64 j ∧ But [] w2 wr) (fun v _ => n' + 1 - (intOf v).toNat)
                  case atStart => exact ⟨0, Nat.zero_le _, rfl, But.refl _ _⟩
                  case round =>
                    obtain ⟨j, hj, rfl, hBj⟩ := hrel
                    have HBJ := Lib.hid hBj
                    have c0 : wr.cell? ⟨gc, 0, none⟩ = some (.int .i64 (c : Nat)) := (HIC.out.but hBj (by simp)).cell 0
                    clear hBj
                    by_cases hjn : j < n'
                    · obtain ⟨gA, oA, rfl, hgA, q0, _, _⟩ := HT2.out.at hjn
                      have q0' := HBJ.out.cell q0 (by simp)
                      have hb1 := HBEL.out j (by have := HN'.out; omega) hj
                      have hb2 := HABV.out j (by have := HN'.out; omega) hj
                      generalize (L[j]'(by have := HN'.out; omega)).n = X at *
                      have HB1' := Lib.hid hb1
                      have HB2' := Lib.hid hb2
                      have djn : decide (j < n') = true := by simpa using hjn
                      have j0 : (0 : Int) ≤ (j : Int) := by omega
                      have j1 : (j : Int) < (n' : Int) := by omega
                      clear hb1 hb2 q0
                      by_cases hXc : X ≤ c
                      · have dX : decide (X ≤ c) = true := by simpa using hXc
                        go_wp2_with fail
                        go_quiet (fail)
                        go_wp2
                        go_roundw
                        case rel => exact ⟨j + 1, HB1'.out hXc, by go_num, HBJ.out.drewN _⟩
                        case measure => simp [intOf]; omega
                      · have dX : decide (X ≤ c) = false := by simpa using hXc
                        have hjs : j = sp := HB2'.out hXc
                        have HJS := Lib.hid hjs
                        clear hjs
                        go_wp2_with fail
                        go_quiet (fail)
                        go_wp2
                        go_meet
                        exact ⟨by rw [HJS.out], HBJ.out.drewN _⟩
                    · have djn : decide (j < n') = false := by simpa using hjn
                      have hjs : j = sp := by omega
                      have HJS := Lib.hid hjs
                      clear hjs
                      go_wp2_with fail
                      go_quiet (fail)
                      go_wp2
                      go_meet
                      exact ⟨by rw [HJS.out], HBJ.out.drewN _⟩
                case rest =>
                  obtain ⟨rfl, hB3⟩ := hcut
                  have HIC3 := Lib.hid (HIC.out.but hB3 (by simp))
                  have HT3 := Lib.hid (HT2.out.but hB3)
                  have HV3 := Lib.hid (HV.out.but hB3 (by simp))
                  have HBo := Lib.hid (HB2.out.trans hB3)
                  have z0 : wc.cell? ⟨gc, 0, none⟩ = some (.int .i64 (c : Nat)) := HIC3.out.cell 0
                  have z1 : wc.cell? ⟨gc, 1, none⟩ = some (.bool true) := HIC3.out.cell 1
                  have z2 : wc.cell? ⟨gc, 2, none⟩ = some (.slice (some ⟨gt, 0, none⟩) len len) := HIC3.out.cell 2
                  clear hB3 HIC HT2 HV HBEL HABV
                  obtain ⟨i0, hi0, hz0, hz1, hz2⟩ := info_parts info_thing
                  have hsz3 := (HB.out.trans HBo.out).size
                  obtain ⟨w3, rfl⟩ : ∃ w3 : World, w3 = wc := ⟨_, rfl⟩
                  go_upto_region 25 with (fail)
                  go_cut [13] (fun v wx => OwnT wx w3.heap.size len v (L.take sp) ∧ But [] w3 wx)
                  case first =>
                    rcases A' with _ | ad
                    · have hc0 : c' = 0 := HAC.out rfl
                      subst hc0
                      have hn0 : n' = 0 := by omega
                      subst hn0
                      have hs0 : sp = 0 := by omega
                      subst hs0
                      go_wp2
                      go_meet
                      exact ⟨OwnT.nil _ _ _, But.refl _ _⟩
                    · have hTt := HT3.out.take hspn
                      have HTT := Lib.hid hTt
                      have sp0 : (0 : Int) ≤ (sp : Int) := by omega
                      have spc : (sp : Int) ≤ (c' : Int) := by omega
                      have spc2 : sp ≤ c' := by omega
                      have dsp : decide (c' < sp) = false := by simp; omega
                      clear hTt
                      go_wp2_with (at_builtin; refine wpList_append_own _ rfl _ _ 128 rfl w3.heap.size 130 i0 (.agg #[.int .i64 0, .bool false, .slice none 0 0]) 3 40 Tryz.underlying128 hi0 hz0 hz1 hz2 rfl (by decide) (.slice none 0 0) 0 [] rfl (World.ownsRow_nil _ _ _ _) ad sp c' (thCells len (L.take sp)) rfl (by rw [length_thCells, HTT.out.1]) HTT.out.news' ?c2 ?c3 ?c4 ?c5 ?_)
                      case c2 => exact thCells_one _ _
                      case c3 => unfold maxLen; omega
                      case c4 => omega
                      case c5 => exact Nat.le_refl _
                      intro v' w4 hown hgrow _
                      have hj := OwnT.joined (L := []) (But.refl [] w3) (OwnT.nil _ _ _) HTT.out.1 (by simpa [thCells] using hown) hgrow
                      have HJ := Lib.hid hj.1
                      have HBG := Lib.hid hj.2
                      clear hown hgrow hj
                      go_wp2
                      go_meet
                      exact ⟨by simpa using HJ.out, HBG.out⟩
                  case rest =>
                    obtain ⟨hO5, hB5⟩ := hcut
                    obtain ⟨w5, rfl⟩ : ∃ w5 : World, w5 = wc := ⟨_, rfl⟩
                    obtain ⟨P5, hP5⟩ : ∃ P5, P5 = L.take sp := ⟨_, rfl⟩
                    rw [← hP5] at hO5
                    have hpl5 : P5.length ≤ 288 := by have := HN'.out; rw [hP5]; simp; omega
                    have HP5 := Lib.hid hP5
                    have HB5 := Lib.hid hB5
                    have HO5 := Lib.hid hO5
                    have hic5 := HIC3.out.but hB5 (by simp)
                    clear hP5 hB5 hO5 z0 z1 z2
                    have z0 : w5.cell? ⟨gc, 0, none⟩ = some (.int .i64 (c : Nat)) := hic5.cell 0
                    have z1 : w5.cell? ⟨gc, 1, none⟩ = some (.bool true) := hic5.cell 1
                    have z2 : w5.cell? ⟨gc, 2, none⟩ = some (.slice (some ⟨gt, 0, none⟩) len len) := hic5.cell 2
                    have hsz5 := HB5.out.size
                    clear hic5
                    go_upto_region 27 with (at_builtin; refine wpList_append_own _ rfl _ _ 128 rfl w3.heap.size 130 i0 (.agg #[.int .i64 0, .bool false, .slice none 0 0]) 3 40 Tryz.underlying128 hi0 hz0 hz1 hz2 rfl (by decide) u13 P5.length (thCells len P5) rfl (World.ownsRow.alloc HO5.out _) ⟨w5.heap.size, 0, none⟩ 1 1 [.int .i64 (c : Nat), .bool true, .slice (some ⟨gt, 0, none⟩) len len] rfl rfl ?c1 ?c2 ?c3 ?c4 ?c5 ?_)
                    case c1 => exact World.news_of_block (cs := #[.int .i64 (c : Nat), .bool true, .slice (some ⟨gt, 0, none⟩) len len]) (t := 130) (fr := (0, 0)) (heap_alloc_new w5 _)
                    case c2 => simp [Value.oneCell']
                    case c3 => unfold maxLen; omega
                    case c4 => omega
                    case c5 => simp; omega
                    intro v6 w6 hown1 hgrow _
                    have hp6 := OwnT.pushed (x := ⟨c, true, some ⟨gt, 0, none⟩, len, unitV len k⟩) HB5.out HO5.out hown1 hgrow
                    have HO6 := Lib.hid hp6.1
                    have HB6 := Lib.hid hp6.2
                    clear hown1 hgrow hp6 z0 z1 z2
                    obtain ⟨x6, hx6⟩ : ∃ x6 : Th, x6 = ⟨c, true, some ⟨gt, 0, none⟩, len, unitV len k⟩ := ⟨_, rfl⟩
                    rw [← hx6] at HO6
                    have HX6 := Lib.hid hx6
                    have hsz6 := HB6.out.size
                    have hpl6 : (P5 ++ [x6]).length = P5.length + 1 := by simp
                    obtain ⟨P6, hP6⟩ : ∃ P6, P6 = P5 ++ [x6] := ⟨_, rfl⟩
                    rw [← hP6] at HO6 hpl6
                    have HP6 := Lib.hid hP6
                    have hpl6' : P6.length ≤ 289 := by omega
                    have HPL6 := Lib.hid hpl6
                    clear hx6 hpl6 hP6
                    go_upto_region 27 with (fail)
                    go_cut [9] (fun v wx => OwnT wx w3.heap.size len v (P6 ++ L.drop sp) ∧ But [] w3 wx)
                    case first =>
                      rcases A' with _ | ad
                      · have hc0 : c' = 0 := HAC.out rfl
                        subst hc0
                        have hn0 : n' = 0 := by omega
                        subst hn0
                        have hs0 : sp = 0 := by omega
                        subst hs0
                        have hL0 : L = [] := List.eq_nil_of_length_eq_zero (by have := HN'.out; omega)
                        have HL0 := Lib.hid hL0
                        clear hL0
                        obtain ⟨g6, c6, rfl, hc6, hg6⟩ := HO6.out.some (by have := HPL6.out; omega)
                        go_wp2_with (at_builtin; refine wpList_append_fits_any _ rfl _ _ 128 rfl w3.heap.size 130 i0 3 Tryz.underlying128 hi0 hz1 g6 P6.length c6 (thCells len P6) rfl HO6.out none 0 0 [] rfl rfl (fun _ => ⟨rfl, rfl⟩) (fun ad e => by cases e) (by simp) (by omega) ?_; intro w7 hown hgrow)
                        have hj := OwnT.joined (X := []) (m := 0) HB6.out HO6.out rfl (by simpa [thCells] using hown) hgrow
                        have HJ := Lib.hid hj.1
                        have HBG := Lib.hid hj.2
                        clear hown hgrow hj
                        go_wp2
                        go_meet
                        exact ⟨by rw [HL0.out]; simpa using HJ.out, HBG.out⟩
                      · obtain ⟨g6, c6, rfl, hc6, hg6⟩ := HO6.out.some (by have := HPL6.out; omega)
                        have sp0 : (0 : Int) ≤ (sp : Int) := by omega
                        have spc : (sp : Int) ≤ (c' : Int) := by omega
                        have spn : (sp : Int) ≤ (n' : Int) := by omega
                        have spc2 : sp ≤ c' := by omega
                        by_cases hsn : sp < n'
                        · obtain ⟨gA, oA, e, _⟩ := HT3.out.at (show 0 < n' by omega)
                          obtain rfl : ad = ⟨gA, oA, none⟩ := by injection e
                          have hTd := (HT3.out.but HB6.out).drop hspn
                          have HTD := Lib.hid hTd
                          have hcs : ¬ c' = sp := by omega
                          clear hTd e
                          have dsp : decide (c' < sp) = false := by simp; omega
                          have hnl : n' - sp ≤ 288 := by omega
                          go_wp2_with (at_builtin; refine wpList_append_own _ rfl _ _ 128 rfl w3.heap.size 130 i0 (.agg #[.int .i64 0, .bool false, .slice none 0 0]) 3 40 Tryz.underlying128 hi0 hz0 hz1 hz2 rfl (by decide) (.slice (some ⟨g6, 0, none⟩) P6.length c6) P6.length (thCells len P6) rfl HO6.out ⟨gA, oA + sp * 3, none⟩ (n' - sp) (c' - sp) (thCells len (L.drop sp)) rfl (by rw [length_thCells, HTD.out.1]) HTD.out.news' ?c2 ?c3 ?c4 hsz6 ?_)
                          case c2 => exact thCells_one _ _
                          case c3 => unfold maxLen; omega
                          case c4 => omega
                          intro v7 w7 hown hgrow _
                          have hj := OwnT.joined (X := L.drop sp) (m := n' - sp) HB6.out HO6.out HTD.out.1 hown hgrow
                          have HJ := Lib.hid hj.1
                          have HBG := Lib.hid hj.2
                          clear hown hgrow hj
                          go_wp2
                          go_meet
                          exact ⟨HJ.out, HBG.out⟩
                        · have hsn : sp = n' := by omega
                          have hLd : L.drop sp = [] := List.drop_of_length_le (by have := HN'.out; omega)
                          have HLD := Lib.hid hLd
                          have dsp : decide (c' < sp) = false := by simp; omega
                          clear hLd
                          subst hsn
                          by_cases hcs : c' = sp
                          all_goals
                            go_wp2_with (at_builtin; refine wpList_append_own _ rfl _ _ 128 rfl w3.heap.size 130 i0 (.agg #[.int .i64 0, .bool false, .slice none 0 0]) 3 40 Tryz.underlying128 hi0 hz0 hz1 hz2 rfl (by decide) (.slice (some ⟨g6, 0, none⟩) P6.length c6) P6.length (thCells len P6) rfl HO6.out _ _ _ [] rfl (by simp) (fun j u hu => by simp at hu) (by simp) ?c3 ?c4 hsz6 ?_)
                            case c3 => unfold maxLen; omega
                            case c4 => omega
                            intro v7 w7 hown hgrow _
                            have hj := OwnT.joined (X := []) (m := 0) HB6.out HO6.out rfl (by simpa [thCells] using hown) hgrow
                            have HJ := Lib.hid hj.1
                            have HBG := Lib.hid hj.2
                            clear hown hgrow hj
                            go_wp2
                            go_meet
                            exact ⟨by rw [HLD.out]; simpa using HJ.out, HBG.out⟩
                    case rest =>
                      obtain ⟨hO7, hB7⟩ := hcut
                      obtain ⟨w7, rfl⟩ : ∃ w7 : World, w7 = wc := ⟨_, rfl⟩
                      have hcs1 : csOf l (k + 1) = (csOf l k).take sp ++ (k, c) :: (csOf l k).drop sp := by
                        rw [HS.out, if_pos hx, HSP.out]; rfl
                      have hL7 : P6 ++ L.drop sp = L.take sp ++ x6 :: L.drop sp := by rw [HP6.out, HP5.out]; simp
                      rw [hL7] at hO7
                      have hx6a : x6.a = some ⟨gt, 0, none⟩ ∧ x6.v = unitV len k ∧ x6.t = coinT len (k, c) := by rw [HX6.out]; exact ⟨rfl, rfl, rfl⟩
                      have hmem : ∀ y ∈ L.take sp ++ x6 :: L.drop sp, y = x6 ∨ y ∈ L := fun y hy => by
                        rcases List.mem_append.1 hy with h | h
                        · exact .inr (List.mem_of_mem_take h)
                        · rcases List.mem_cons.1 h with h | h
                          · exact .inl h
                          · exact .inr (List.mem_of_mem_drop h)
                      have hV7 : Vecs w7 len (L.take sp ++ x6 :: L.drop sp) := fun y hy => by
                        rcases hmem y hy with h | h
                        · rw [h, hx6a.1, hx6a.2.1]; exact HV3.out.but hB7 (by simp)
                        · exact (HT3.out.2.2 y h).but hB7 (by simp)
                      obtain ⟨A7, c7, rfl, hlc7, hA7, hT7, hab7⟩ := hO7.state hV7
                      have hB17 := (HB.out.trans HBo.out).trans hB7
                      have hwo := HB.out.size
                      have hST : n ≠ 1 → CoinsSt w1 w7 len l (k + 1) n (.slice A7 (L.take sp ++ x6 :: L.drop sp).length c7) := fun hn1 => ⟨A7, _, c7, _, rfl, rfl, hlc7, hA7, by
                        rw [hcs1, List.map_append, List.map_append, List.map_cons, List.map_cons, List.map_take, List.map_drop, List.map_take, List.map_drop, HLT.out, hx6a.2.2], hT7, ⟨fun a e => Nat.le_trans hsz3 (hab7 a e), fun y hy a e => by
                          rcases hmem y hy with h | h
                          · rw [h, hx6a.1] at e; injection e with e; subst e; exact Nat.le_trans hwo hc2
                          · exact HAB.out.2 y h a e⟩, hB17, fun h => absurd h hn1⟩
                      have HST := Lib.hid hST
                      have HB17 := Lib.hid hB17
                      generalize (L.take sp ++ x6 :: L.drop sp).length = n7 at *
                      clear hlc7 hA7 hT7 hab7 hO7 hV7 hmem hL7 hST hB17 hx6a hB7
                      by_cases hn1 : n = 1
                      · have hnil := HONE.out hn1
                        have hcs2 : csOf l (k + 1) = [(k, c)] := by rw [hcs1, hnil]; simp
                        have hlim : lims M l = unitV len k := by
                          have h1 : (csOf l l.length).length = 1 := by rw [HLEN.out, ← HN.out]; exact hn1
                          rw [lims_one rfl rfl h1]
                          obtain ⟨y, hy⟩ := List.length_eq_one_iff.1 h1
                          have hk1 : (k, c) ∈ csOf l (k + 1) := by rw [hcs2]; simp
                          have hk2 := mem_csOf.1 hk1
                          have hk3 : (k, c) ∈ csOf l l.length := mem_csOf.2 ⟨by rw [HLEN.out]; exact hlt, hk2.2.1, hk2.2.2⟩
                          rw [hy] at hk3 ⊢
                          have : (k, c) = y := by simpa using hk3
                          rw [← this, HLEN.out]; rfl
                        have hIs := HO1.out.but HB17.out (by simp)
                        have y1 := (hIs.cell k).trans (zeroRow_get len k hlt)
                        have y2 := hIs.free k
                        have hown := own_of_is (base := w.heap.size) (n := len) (r := unitV len k) (hIs.put k (.int .i64 1)) (Nat.le_refl _) (by simp [unitV]) (by unfold maxLen; omega) (unit_list len k)
                        have HLIM := Lib.hid hlim
                        have HOWN := Lib.hid hown
                        have hbf := (HB1.out.trans HB17.out).setCell (p := ⟨w.heap.size, k, none⟩) (.inr (Nat.le_refl _)) (.int .i64 1)
                        have HBF := Lib.hid hbf
                        have dn1 : ((n : Int) == 1) = true := by simp; omega
                        clear hnil hcs2 hlim hIs hown hbf hn1 hcs1
                        go_wp2
                        go_ret2
                        exact ⟨w.heap.size, rfl, by rw [HLIM.out]; exact HOWN.out, HBF.out⟩
                      · have dn1 : ((n : Int) == 1) = false := by simp; omega
                        have HST2 := Lib.hid (HST.out hn1)
                        clear hcs1
                        go_wp2
                        go_roundw
                        case rel => exact ⟨k + 1, by omega, by go_num, HST2.out⟩
                        case measure => simp [intOf]; omega
            · have hx0 : x = 0 := by omega
              have HST : CoinsSt w1 wo len l (k + 1) n (.slice A' n' c') := ⟨A', n', c', L, rfl, HN'.out, hnc, HAC.out, by rw [HS.out, if_neg hx]; exact HLT.out, HT.out, HAB.out, HB.out, by rw [HS.out, if_neg hx]; exact HONE.out⟩
              have HST := Lib.hid HST
              subst hx0
              go_wp2
              go_roundw
              case rel => exact ⟨k + 1, by omega, by go_num, HST.out⟩
              case measure => simp [intOf]; omega
          · have hkl : k = len := by omega
            have hn1 : n ≠ 1 := fun h => by
              have h1 := hone h
              have h2 := HN.out
              rw [hkl] at h1
              rw [h1] at h2; simp at h2; omega
            have hst : CoinsSt w1 wr len l len n (.slice A' n' c') := ⟨A', n', c', L, rfl, hn', hnc, hAc, by have h := hLt; rw [hkl] at h; exact h, hT, hAb, hB, fun h => absurd h hn1⟩
            have HST := Lib.hid hst
            clear hst hLt hT hAb hB hone hn' hAc hkl
            go_wp2
            go_meet
            exact ⟨HST.out, hn1⟩
      case rest =>
        obtain ⟨⟨A9, n9, c9, L9, rfl, hn9, hnc9, hAc9, hLt9, hT9, hAb9, hB9, _⟩, hn1⟩ := hcut
        obtain ⟨w9, rfl⟩ : ∃ w9 : World, w9 = wc := ⟨_, rfl⟩
        obtain ⟨csT, hcsT⟩ : ∃ csT, csT = (csOf l len).map (coinT len) := ⟨_, rfl⟩
        rw [← hcsT] at hLt9
        have hLl9 : L9.length = n := by
          have := congrArg List.length hLt9
          rw [hcsT] at this
          have h2 := HN.out
          simp at this; omega
        have hnn : n9 = n := hn9.trans hLl9
        subst hnn
        have hrl : ∀ k, (rowT csT k).length ≤ 2 * n9 := fun k => by
          rw [length_rowT]
          have := (length_row (csT.map (·.1)) k).2.1
          have h3 : (csT.map (·.1)).length = n9 := by rw [hcsT, coins_keys, List.length_map, ← HN.out]
          omega
        have hwide : ∀ k, Wide len (rowT csT k) := rowT_wide (by rw [hcsT]; exact coinT_wide _ _)
        have hbnd : ∀ k, Bnd (2 ^ k) (2 ^ k * 1000000000) (rowT csT k) := rowT_bnd (by rw [hcsT]; exact coinT_wide len _) (by have h := coins_bnd HOK.out len; rw [HLEN.out] at h; rw [hcsT]; exact h)
        have HRL := Lib.hid hrl
        have HWD := Lib.hid hwide
        have HBD := Lib.hid hbnd
        have HCT := Lib.hid hcsT
        have HT9 := Lib.hid hT9
        have HLT9 := Lib.hid hLt9
        have HAB9 := Lib.hid hAb9
        have HB9 := Lib.hid hB9
        have HLL9 := Lib.hid hLl9
        clear hrl hwide hbnd hcsT hT9 hLt9 hAb9 hB9 hn9 hLl9 hAc9
        obtain ⟨i0, hi0, hz0, hz1, hz2⟩ := info_parts info_thing
        go_wp2
        go_loopw [14, 15] (fun lv kv wr => ∃ k : Nat, 1 ≤ k ∧ k ≤ M ∧ kv = .int .i64 k ∧ RowSt w1 wr len (rowT csT (k - 1)) lv ∧ But [] w9 wr) (fun _ kv _ => M - (intOf kv).toNat)
        case atStart => exact ⟨1, Nat.le_refl _, hM1, rfl, ⟨A9, n9, c9, L9, rfl, HLL9.out.symm, HLT9.out, HT9.out, HAB9.out, HB9.out⟩, But.refl _ _⟩
        case round =>
          obtain ⟨k, hk1, hkM, rfl, ⟨A', n', c', L, rfl, hn', hLt, hT, hAb, hB⟩, hB9r⟩ := hrel
          obtain ⟨wo, rfl⟩ : ∃ wo : World, wo = wr := ⟨_, rfl⟩
          have HB := Lib.hid hB
          have HB9R := Lib.hid hB9r
          have HT := Lib.hid hT
          have HAB := Lib.hid hAb
          have hTl : (rowT csT (k - 1)).length = n' := by rw [← hLt, List.length_map, hn']
          have hn576 : n' ≤ 576 := by have := HRL.out (k - 1); omega
          have HN' := Lib.hid hn'
          have HLT := Lib.hid hLt
          have HTL := Lib.hid hTl
          clear hLt hT hAb hB hB9r hn' hTl
          by_cases hlt : k < M
          · have hb15 : ∀ x ∈ rowT csT (k - 1), x.1 ≤ 16384000000000 ∧ ∀ s, 0 ≤ x.2.getD s 0 ∧ x.2.getD s 0 ≤ 16384 := fun x hx => by
              have h := HBD.out (k - 1) x hx
              have h1 : 2 ^ (k - 1) ≤ 2 ^ 14 := Nat.pow_le_pow_right (by decide) (by omega)
              refine ⟨by have := Nat.mul_le_mul_right 1000000000 h1; omega, fun s => ?_⟩
              have := h.2 s
              have h2 : ((2 ^ (k - 1) : Nat) : Int) ≤ 16384 := by exact_mod_cast h1
              omega
            have hw15 : Wide len (rowT csT (k - 1)) := HWD.out (k - 1)
            generalize hTT : rowT csT (k - 1) = T at *
            have HB15 := Lib.hid hb15
            have HW15 := Lib.hid hw15
            have HTT := Lib.hid hTT
            clear hb15 hw15 hTT
            have hdl : decide ((k : Int) < (M : Int)) = true := by simp; omega
            go_upto_block 8 with (fail)
            go_cut [16] (fun v wx => PairsSt wo wx len T (n' / 2) v)
            case first =>
              go_wp2_with fail
              go_loopw [16, 17] (fun pv iv wr => ∃ q i : Nat, Hid (i = 2 * q) ∧ i ≤ n' ∧ iv = .int .i64 i ∧ PairsSt wo wr len T q pv) (fun _ iv _ => n' - (intOf iv).toNat)
              case atStart => exact ⟨0, 0, Lib.hid rfl, Nat.zero_le _, rfl, [], OwnT.nil _ _ _, (fun x hx => by cases hx), rfl, But.refl _ _⟩
              case round =>
                obtain ⟨q, i, hiq, hin, rfl, P, hO, hV, hPt, hBw⟩ := hrel
                have hPl : P.length ≤ 288 := by
                  have := congrArg List.length hPt
                  have h2 := hiq.out
                  simp at this; omega
                by_cases hi1 : i + 1 < n'
                · obtain ⟨gA, oA, rfl, hgA, a0, a1, a2⟩ := HT.out.at (show i < n' by omega)
                  obtain ⟨gB, oB, eB, hgB, b0, b1, b2⟩ := HT.out.at hi1
                  obtain ⟨rfl, rfl⟩ : gB = gA ∧ oB = oA := by injection eB with e; injection e with e1 e2 e3; exact ⟨e1.symm, e2.symm⟩
                  have hTi : ∀ j (hj : j < L.length), (L[j].n, L[j].v) = T[j]'(by have := HTL.out; have := HN'.out; omega) := fun j hj => by
                    have h2 := congrArg (fun x : List Tg => x[j]?) HLT.out
                    simp only [List.getElem?_map, List.getElem?_eq_getElem hj, List.getElem?_eq_getElem (show j < T.length by have := HTL.out; have := HN'.out; omega), Option.map_some, Option.some.injEq] at h2
                    exact h2
                  have ha := hTi i (by have := HN'.out; omega)
                  have hb := hTi (i + 1) (by have := HN'.out; omega)
                  have ha1 := HB15.out _ (List.getElem_mem (show i < T.length by have := HTL.out; omega))
                  have hb1 := HB15.out _ (List.getElem_mem (show i + 1 < T.length by have := HTL.out; omega))
                  have hpt := prT_at T q (by have := HTL.out; have := hiq.out; omega)
                  have hpt2 : (prT T)[q]'(by rw [length_prT]; have := HTL.out; have := hiq.out; omega) = ((T[i]'(by have := HTL.out; omega)).1 + (T[i + 1]'(by have := HTL.out; omega)).1, addV (T[i]'(by have := HTL.out; omega)).2 (T[i + 1]'(by have := HTL.out; omega)).2) := by
                    rw [hpt]; simp only [hiq.out]
                  rw [← ha] at ha1 hpt2
                  rw [← hb] at hb1 hpt2
                  have hva := HT.out.2.2 _ (List.getElem_mem (show i < L.length by have := HN'.out; omega))
                  have hvb := HT.out.2.2 _ (List.getElem_mem (show i + 1 < L.length by have := HN'.out; omega))
                  obtain ⟨xa, hxa⟩ : ∃ xa, xa = L[i]'(by have := HN'.out; omega) := ⟨_, rfl⟩
                  obtain ⟨xb, hxb⟩ : ∃ xb, xb = L[i + 1]'(by have := HN'.out; omega) := ⟨_, rfl⟩
                  rw [← hxa] at a0 a1 a2 ha1 hpt2 hva
                  rw [← hxb] at b0 b1 b2 hb1 hpt2 hvb
                  have hsn : P.length = q := by
                    have := congrArg List.length hPt
                    have h2 := hiq.out
                    have h3 := HTL.out
                    have h4 := length_prT T
                    simp at this; omega
                  have HPT := Lib.hid (show P.map Th.t ++ [(xa.n + xb.n, addV xa.v xb.v)] = (prT T).take (q + 1) by
                    rw [hPt, List.take_succ_eq_append_getElem (by rw [length_prT]; have := HTL.out; have := hiq.out; omega), hpt2])
                  obtain ⟨na, hna⟩ : ∃ na, na = xa.n := ⟨_, rfl⟩
                  obtain ⟨nb, hnb⟩ : ∃ nb, nb = xb.n := ⟨_, rfl⟩
                  obtain ⟨z, hz⟩ : ∃ z, z = na + nb := ⟨_, rfl⟩
                  have hz9 : z ≤ 32768000000000 := by omega
                  have e0 := hBw.cell a0 (by simp)
                  have f0 := hBw.cell b0 (by simp)
                  rw [← hna] at e0
                  rw [← hnb] at f0
                  have A2 := Lib.hid a2
                  have B2 := Lib.hid b2
                  have VA := Lib.hid hva
                  have VB := Lib.hid hvb
                  have HO := Lib.hid hO
                  have HV := Lib.hid hV
                  have HBW := Lib.hid hBw
                  have HNA := Lib.hid hna
                  have HNB := Lib.hid hnb
                  have HZ := Lib.hid hz
                  have HA1 := Lib.hid ha1
                  have HB1' := Lib.hid hb1
                  have ez : (na : Int) + (nb : Int) = (z : Int) := by omega
                  have wz : IntKind.i64.wrap (z : Int) = (z : Int) := wrap_small _ (by omega) (by omega)
                  have i0' : (0 : Int) ≤ (i : Int) := by omega
                  have i1' : (i : Int) < (n' : Int) := by omega
                  have j0' : (0 : Int) ≤ (i : Int) + 1 := by omega
                  have j1' : (i : Int) + 1 < (n' : Int) := by omega
                  have jn : ((i : Int) + 1).toNat = i + 1 := by omega
                  clear a0 a1 a2 b0 b1 b2 eB hTi ha hb ha1 hb1 hpt hpt2 hva hvb hxa hxb hsn hO hV hPt hBw hna hnb hz
                  obtain ⟨wq, rfl⟩ : ∃ wq : World, wq = wr := ⟨_, rfl⟩
                  have hmk := run_zeros len (by omega)
                  go_upto_region 39 with (fail)
                  go_cut [18] (fun v wx => NewThing wq wx len z false v)
                  case first =>
                    have hc1 : ∀ o1, (wq.alloc o1).cell? ⟨gB, oB + i * 3, none⟩ = some (.int .i64 (na : Int)) := fun o1 => ((But.refl [] wq).alloc o1).cell e0 (by simp)
                    have hc2 : ∀ o1 o2, ((wq.alloc o1).alloc o2).cell? ⟨gB, oB + i * 3, none⟩ = some (.int .i64 (na : Int)) := fun o1 o2 => (((But.refl [] wq).alloc o1).alloc o2).cell e0 (by simp)
                    have hc3 : ∀ o1, (wq.alloc o1).cell? ⟨gB, oB + (i + 1) * 3, none⟩ = some (.int .i64 (nb : Int)) := fun o1 => ((But.refl [] wq).alloc o1).cell f0 (by simp)
                    have hc4 : ∀ o1 o2, ((wq.alloc o1).alloc o2).cell? ⟨gB, oB + (i + 1) * 3, none⟩ = some (.int .i64 (nb : Int)) := fun o1 o2 => (((But.refl [] wq).alloc o1).alloc o2).cell f0 (by simp)
                    go_region
                    all_goals
                      (try go_wp2)
                      go_meet
                      first | exact NewThing.a _ _ _ _ | exact NewThing.b _ _ _ _
                  case rest =>
                    obtain ⟨gc, gt, rfl, hc1, hc2, hc3, hIc, hIt, hBn⟩ := hcut
                    clear e0 f0 ez wz
                    rw [← midRow_zero len xa.v xb.v] at hIt
                    have HIC := Lib.hid hIc
                    have HIT := Lib.hid hIt
                    have HBN := Lib.hid hBn
                    clear hIc hIt hBn
                    obtain ⟨wp, rfl⟩ : ∃ wp : World, wp = wc := ⟨_, rfl⟩
                    go_upto_block 10 with (fail)
                    go_cut [] (fun wx => Is wx gc 130 #[.int .i64 z, .bool false, .slice (some ⟨gt, 0, none⟩) len len] ∧ Is wx gt 3 (midRow len len xa.v xb.v) ∧ But [] wq wx)
                    case first =>
                      go_wp2_with fail
                      go_loopw [19] (fun sv wr => ∃ s : Nat, s ≤ len ∧ sv = .int .i64 s ∧ Is wr gc 130 #[.int .i64 z, .bool false, .slice (some ⟨gt, 0, none⟩) len len] ∧ Is wr gt 3 (midRow len s xa.v xb.v) ∧ But [] wq wr) (fun sv _ => len - (intOf sv).toNat)
                      case atStart => exact ⟨0, Nat.zero_le _, rfl, HIC.out, HIT.out, HBN.out⟩
                      case round =>
                        obtain ⟨s, hs, rfl, hIc, hIt, hBs⟩ := hrel
                        by_cases hsl : s < len
                        · have hBo := HBW.out.trans hBs
                          obtain ⟨g1, o1, e1, _, u1⟩ := VA.out.at hsl
                          obtain ⟨g2, o2, e2, _, u2⟩ := VB.out.at hsl
                          have m1 := hBo.cell A2.out (by simp)
                          have m2 := hBo.cell B2.out (by simp)
                          rw [e1] at m1
                          rw [e2] at m2
                          have u1' := hBo.cell u1 (by simp)
                          have u2' := hBo.cell u2 (by simp)
                          have ua : xa.v.getD s 0 = xa.v[s]'(by have := VA.out.1; omega) := getD_in _
                          have ub : xb.v.getD s 0 = xb.v[s]'(by have := VB.out.1; omega) := getD_in _
                          have bu := (HA1.out.2 s)
                          have bv := (HB1'.out.2 s)
                          have hput := midRow_put (u := xa.v) (v := xb.v) hsl
                          rw [← ua] at u1'
                          rw [← ub] at u2'
                          generalize xa.v.getD s 0 = u at *
                          generalize xb.v.getD s 0 = v at *
                          obtain ⟨t, ht⟩ : ∃ t, t = u + v := ⟨_, rfl⟩
                          rw [← ht] at hput
                          have k1 : wr.cell? ⟨gc, 2, none⟩ = some (.slice (some ⟨gt, 0, none⟩) len len) := hIc.cell 2
                          have k2 := (hIt.cell s).trans (midRow_get hsl)
                          have k3 := hIt.free s
                          have et : u + v = t := ht.symm
                          have wt : IntKind.i64.wrap t = t := wrap_small _ (by omega) (by omega)
                          have HIc := Lib.hid hIc
                          have HIt := Lib.hid hIt
                          have HBs := Lib.hid hBs
                          have HPUT := Lib.hid hput
                          have s0' : (0 : Int) ≤ (s : Int) := by omega
                          have s1' : (s : Int) < (len : Int) := by omega
                          rw [if_neg (by omega)] at k2
                          clear hIc hIt hBs hput ht hBo u1 u2 e1 e2 ua ub
                          go_wp2
                          go_region
                          go_wp2
                          go_roundw
                          case rel => exact ⟨s + 1, by omega, by go_num, (HIc.out.far (p := ⟨gt, s, none⟩) hc3 _).drew, by rw [← HPUT.out]; exact (HIt.out.put s _).drew, (HBs.out.setCell (p := ⟨gt, s, none⟩) (.inr hc2) _).drew⟩
                          case measure => simp [intOf]; omega
                        · have hsl2 : s = len := by omega
                          rw [hsl2] at hIt
                          have HIc := Lib.hid hIc
                          have HIt := Lib.hid hIt
                          have HBs := Lib.hid hBs
                          clear hIc hIt hBs hsl2
                          go_wp2
                          go_meet
                          exact ⟨HIc.out, HIt.out, HBs.out⟩
                    case rest =>
                      obtain ⟨hIc, hIt, hBx⟩ := hcut
                      obtain ⟨wx, rfl⟩ : ∃ wx : World, wx = wc := ⟨_, rfl⟩
                      have z0 : wx.cell? ⟨gc, 0, none⟩ = some (.int .i64 (z : Nat)) := hIc.cell 0
                      have z1 : wx.cell? ⟨gc, 1, none⟩ = some (.bool false) := hIc.cell 1
                      have z2 : wx.cell? ⟨gc, 2, none⟩ = some (.slice (some ⟨gt, 0, none⟩) len len) := hIc.cell 2
                      have hints := midRow_full hIt VA.out.1 VB.out.1
                      have HINT := Lib.hid hints
                      have HBX := Lib.hid (HBW.out.trans hBx)
                      have HOX := Lib.hid (HO.out.but hBx)
                      have HVX := Lib.hid (HV.out.but hBx (by simp))
                      have HITX := Lib.hid hIt
                      have hszx := HBX.out.size
                      have hwq := HBW.out.size
                      clear hIc hIt hBx hints
                      go_wp2_with (at_builtin; refine wpList_append_own _ rfl _ _ 128 rfl wo.heap.size 130 i0 (.agg #[.int .i64 0, .bool false, .slice none 0 0]) 3 40 Tryz.underlying128 hi0 hz0 hz1 hz2 rfl (by decide) u16 P.length (thCells len P) rfl (World.ownsRow.alloc HOX.out _) ⟨wx.heap.size, 0, none⟩ 1 1 [.int .i64 (z : Nat), .bool false, .slice (some ⟨gt, 0, none⟩) len len] rfl rfl ?c1 ?c2 ?c3 ?c4 ?c5 ?_)
                      case c2 => simp [Value.oneCell']
                      case c3 => unfold maxLen; omega
                      case c4 => omega
                      case c5 => first | omega | (simp; omega)
                      intro v6 w6 hown1 hgrow _
                      have hp6 := OwnT.pushed (x := ⟨z, false, some ⟨gt, 0, none⟩, len, addV xa.v xb.v⟩) HBX.out HOX.out hown1 hgrow
                      have hbut : But u16.ownBlock.toList wx w6 := ((But.refl _ wx).alloc _).grown hgrow (fun g e => .inl (by simp [e]))
                      have hoff : ∀ g cs, Is wx g 3 cs → g ∉ u16.ownBlock.toList := fun g cs hi hm => by
                        have h1 := own_ne HOX.out hi (by decide)
                        exact h1 (by simpa using hm)
                      have hV6 := HVX.out.but hbut hoff
                      have hI6 := HITX.out.but hbut (hoff _ _ HITX.out)
                      have hv6 := HINT.out.but hbut (fun k hk a ea hab => by
                        injection ea with ea
                        subst ea
                        exact hoff _ _ HITX.out (by rw [show gt = k from hab]; exact hk))
                      have hPS : PairsSt wo w6 len T (q + 1) v6 := ⟨P ++ [⟨z, false, some ⟨gt, 0, none⟩, len, addV xa.v xb.v⟩], hp6.1, fun y hy => by
                        rcases List.mem_append.1 hy with h | h
                        · exact hV6 y h
                        · have : y = ⟨z, false, some ⟨gt, 0, none⟩, len, addV xa.v xb.v⟩ := by simpa using h
                          subst this
                          exact ⟨gt, _, rfl, by omega, hI6, hv6⟩, by
                        rw [← HPT.out, List.map_append, HZ.out, HNA.out, HNB.out]; rfl, hp6.2⟩
                      have HPS := Lib.hid hPS
                      clear hp6 hbut hoff hV6 hI6 hv6 hPS hown1 hgrow z0 z1 z2
                      go_wp2
                      go_roundw
                      case rel => exact ⟨q + 1, i + 2, Lib.hid (by have := hiq.out; omega), by omega, by go_num, HPS.out⟩
                      case measure => simp [intOf]; omega
                · have hq2 : q = n' / 2 := by have := hiq.out; omega
                  have hPS : PairsSt wo wr len T (n' / 2) u16 := by rw [← hq2]; exact ⟨P, hO, hV, hPt, hBw⟩
                  have HPS := Lib.hid hPS
                  have dni : decide ((i : Int) + 1 < (n' : Int)) = false := by simp; omega
                  clear hPS hO hV hPt hBw hq2
                  go_wp2
                  go_meet
                  exact HPS.out
            case rest =>
              obtain ⟨P, hO, hV, hPt, hBw⟩ := hcut
              obtain ⟨wy, rfl⟩ : ∃ wy : World, wy = wc := ⟨_, rfl⟩
              obtain ⟨AP, cP, rfl, hTP⟩ := hO.open hV.vecs
              have hB9y := HB9R.out.trans hBw
              have hPl : P.length ≤ 600 := by
                have := congrArg List.length hPt
                simp at this; omega
              have hrow := row_any (c := c9) (d := cP) (HT9.out.but hB9y) hTP (by omega) hPl
              have hPall : P.map Th.t = prT T := by rw [hPt, List.take_of_length_le (by rw [length_prT, HTL.out]; omega)]
              have hsz1 := HB.out.size
              have hszy := hBw.size
              have HROW := Lib.hid hrow
              have HPALL := Lib.hid hPall
              have HV := Lib.hid hV
              have HBW := Lib.hid hBw
              have HB9Y := Lib.hid hB9y
              clear hO hV hPt hBw hTP hB9y hPl hrow hPall
              go_wp2_with fail
              refine HROW.out.mono ?_
              rintro e w8 ⟨v8, rfl, hO8, hB8⟩
              have hV8 : Vecs w8 len (mrgG keyTh L9 P) := fun y hy => by
                rcases mem_mrgG hy with h | h
                · exact ((HT9.out.but (HB9Y.out.trans hB8)).2.2 y h)
                · exact ((HV.out.but hB8 (by simp)).vecs y h)
              obtain ⟨A8, c8, rfl, hlc8, hA8, hT8, hab8⟩ := hO8.state hV8
              have hmap : (mrgG keyTh L9 P).map Th.t = rowT csT k := by
                rw [mrgG_map (key := keyTh) (key2 := fun x : Tg => x.1) Th.t (fun _ => rfl), HLT9.out, HPALL.out, ← HTT.out]
                conv => rhs; rw [show k = (k - 1) + 1 from by omega]
                rfl
              have hRS : RowSt w1 w8 len (rowT csT (k + 1 - 1)) (.slice A8 (mrgG keyTh L9 P).length c8) := ⟨A8, _, c8, _, rfl, rfl, by rw [hmap]; congr 1, hT8, ⟨fun a e => Nat.le_trans (Nat.le_trans hsz1 hszy) (hab8 a e), fun y hy a e => by
                rcases mem_mrgG hy with h | h
                · exact HAB9.out.2 y h a e
                · obtain ⟨gt, cs, e2, hb, _, _⟩ := HV.out y h
                  rw [e2] at e; injection e with e; subst e
                  exact Nat.le_trans hsz1 hb⟩, (HB.out.trans HBW.out).trans hB8⟩
              have HRS := Lib.hid hRS
              have HB98 := Lib.hid (HB9Y.out.trans hB8)
              generalize (mrgG keyTh L9 P).length = n8 at *
              clear hV8 hlc8 hA8 hT8 hab8 hmap hRS hO8 hB8
              go_wp2
              go_roundw
              case rel => exact ⟨k + 1, by omega, by omega, by go_num, HRS.out, HB98.out⟩
              case measure => simp [intOf]; omega
          · have hkM' : k = M := by omega
            subst hkM'
            obtain ⟨T, hTT⟩ : ∃ T, T = rowT csT (k - 1) := ⟨_, rfl⟩
            have hb15 : ∀ s i, i ≤ 576 → 0 ≤ sumT T i s ∧ sumT T i s ≤ 9437184 := fun s i hi => by
              have h := sum_bnd (HBD.out (k - 1)) s i
              have h1 : 2 ^ (k - 1) ≤ 2 ^ 14 := Nat.pow_le_pow_right (by decide) (by omega)
              have h2 := Nat.mul_le_mul hi h1
              have h3 : i * 2 ^ (k - 1) ≤ 9437184 := Nat.le_trans h2 (by decide)
              rw [← hTT] at h
              unfold sumT
              generalize i * 2 ^ (k - 1) = m at h h3
              omega
            have hx15 : ∀ x ∈ T, ∀ s, 0 ≤ x.2.getD s 0 ∧ x.2.getD s 0 ≤ 16384 := fun x hx s => by
              have h := (HBD.out (k - 1) x (by rw [← hTT]; exact hx)).2 s
              have h1 : 2 ^ (k - 1) ≤ 2 ^ 14 := Nat.pow_le_pow_right (by decide) (by omega)
              have h2 : ((2 ^ (k - 1) : Nat) : Int) ≤ 16384 := by exact_mod_cast h1
              omega
            have hfin : ∀ s, s < len → sumT T (2 * n9 - 2) s = (lims k l).getD s 0 := fun s hs => by
              have h := outs_lims (M := k) (l := l) hM1 (by rw [HLEN.out]; exact HP.out) (by rw [HLEN.out, ← HN.out]; exact hn1) s
              unfold outs at h
              rw [HLEN.out, ← HCT.out, ← hTT, ← HN.out] at h
              exact h
            have hne : n9 ≠ 0 → 2 * n9 - 2 ≤ n' := fun h0 => by
              have h := row_enough (csT.map (·.1)) (k - 1) (by rw [show k - 1 + 1 = k from by omega, HCT.out, coins_keys, List.length_map]; exact HP.out) (by rw [HCT.out, coins_keys, List.length_map, ← HN.out]; omega)
              rw [← length_rowT, HTL.out, HCT.out, coins_keys, List.length_map, ← HN.out] at h
              exact h
            rw [← hTT] at HLT HTL
            have HB15 := Lib.hid hb15
            have HX15 := Lib.hid hx15
            have HFIN := Lib.hid hfin
            have HNE := Lib.hid hne
            have hB0 : w.heap.size < w1.heap.size := HW1.out
            have HISO := Lib.hid (show Is wo w.heap.size 3 (sumRow T len 0 0) by rw [sumRow_zero]; exact HO1.out.but HB.out (by simp))
            have hdl : decide ((k : Int) < (k : Int)) = false := by simp
            clear hb15 hx15 hfin hne hTT
            go_wp2
            go_loopw [20, 21] (fun iv _ wr => ∃ i : Nat, i ≤ 2 * n9 - 2 ∧ iv = .int .i64 i ∧ Is wr w.heap.size 3 (sumRow T len i 0) ∧ But [w.heap.size] wo wr) (fun iv _ _ => 2 * n9 - (intOf iv).toNat)
            case atStart => exact ⟨0, Nat.zero_le _, rfl, HISO.out, But.refl _ _⟩
            case round =>
              obtain ⟨i, hi, rfl, hI, hBi⟩ := hrel
              obtain ⟨wi, rfl⟩ : ∃ wi : World, wi = wr := ⟨_, rfl⟩
              have HI := Lib.hid hI
              have HBI := Lib.hid hBi
              clear hI hBi
              by_cases hil : i < 2 * n9 - 2
              · have hil2 : (i : Int) < 2 * (n9 : Int) - 2 := by omega
                have hin : i < n' := by have := HNE.out (by omega); omega
                obtain ⟨gA, oA, rfl, hgA, _, _, a2⟩ := HT.out.at hin
                have hTi : (L[i]'(by have := HN'.out; omega)).t = T[i]'(by have := HTL.out; omega) := by
                  have h2 := congrArg (fun x : List Tg => x[i]?) HLT.out
                  simp only [List.getElem?_map, List.getElem?_eq_getElem (show i < L.length by have := HN'.out; omega), List.getElem?_eq_getElem (show i < T.length by have := HTL.out; omega), Option.map_some, Option.some.injEq] at h2
                  exact h2
                have hva := HT.out.2.2 _ (List.getElem_mem (show i < L.length by have := HN'.out; omega))
                have hab1 := HAB.out.1 _ rfl
                have hab2 := HAB.out.2 _ (List.getElem_mem (show i < L.length by have := HN'.out; omega))
                have hxb := HX15.out _ (List.getElem_mem (show i < T.length by have := HTL.out; omega))
                have hsucc := fun s => sumT_succ (T := T) (i := i) (s := s) (by have := HTL.out; omega)
                rw [← hTi] at hxb
                simp only [← hTi] at hsucc
                generalize (L[i]'(by have := HN'.out; omega)) = x at *
                have A2 := Lib.hid a2
                have VA := Lib.hid hva
                have AB2 := Lib.hid hab2
                have HXB := Lib.hid hxb
                have HSU := Lib.hid hsucc
                have hgne : gA ≠ w.heap.size := by have : w1.heap.size ≤ gA := hab1; omega
                clear a2 hTi hva hab1 hab2 hxb hsucc
                go_wp2
                go_loopw [21] (fun sv wr => ∃ s : Nat, s ≤ len ∧ sv = .int .i64 s ∧ Is wr w.heap.size 3 (sumRow T len i s) ∧ But [w.heap.size] wo wr) (fun sv _ => len - (intOf sv).toNat)
                case atStart => exact ⟨0, Nat.zero_le _, rfl, HI.out, HBI.out⟩
                case round =>
                  obtain ⟨s, hs, rfl, hI, hBs⟩ := hrel
                  by_cases hsl : s < len
                  · obtain ⟨g1, o1, e1, _, u1⟩ := VA.out.at hsl
                    have hg1 : g1 ≠ w.heap.size := by have : w1.heap.size ≤ g1 := AB2.out _ e1; omega
                    have m1 := hBs.cell A2.out (by simpa using hgne)
                    rw [e1] at m1
                    have u1' := hBs.cell u1 (by simpa using hg1)
                    have ua : x.v.getD s 0 = x.v[s]'(by have := VA.out.1; omega) := getD_in _
                    rw [← ua] at u1'
                    have bu := HXB.out s
                    have hsu := HSU.out s
                    have bs := HB15.out s i (by omega)
                    have bs2 := HB15.out s (i + 1) (by omega)
                    have hput := sumRow_put (T := T) (i := i) hsl
                    have k2 := (hI.cell s).trans (sumRow_get hsl)
                    rw [if_neg (by omega)] at k2
                    have k3 := hI.free s
                    have hsu2 : sumT T (i + 1) s = sumT T i s + x.v.getD s 0 := hsu
                    have bu2 : 0 ≤ x.v.getD s 0 ∧ x.v.getD s 0 ≤ 16384 := bu
                    generalize x.v.getD s 0 = u at *
                    generalize sumT T i s = a at *
                    generalize sumT T (i + 1) s = t at *
                    have et : a + u = t := hsu2.symm
                    have wt : IntKind.i64.wrap t = t := wrap_small _ (by omega) (by omega)
                    have HIs := Lib.hid hI
                    have HBs := Lib.hid hBs
                    have HPUT := Lib.hid hput
                    have i0' : (0 : Int) ≤ (i : Int) := by omega
                    have i1' : (i : Int) < (n' : Int) := by omega
                    have s0' : (0 : Int) ≤ (s : Int) := by omega
                    have s1' : (s : Int) < (len : Int) := by omega
                    clear hI hBs hput hsu hsu2 bu bu2 u1 e1 ua bs
                    go_wp2
                    go_region
                    go_wp2
                    go_roundw
                    case rel => exact ⟨s + 1, by omega, by go_num, by rw [← HPUT.out]; exact (HIs.out.put s _).drew, (HBs.out.setCell (p := ⟨w.heap.size, s, none⟩) (.inl (by simp)) _).drew⟩
                    case measure => simp [intOf]; omega
                  · have hsl2 : s = len := by omega
                    rw [hsl2, sumRow_next] at hI
                    have HIs := Lib.hid hI
                    have HBs := Lib.hid hBs
                    clear hI hBs hsl2
                    go_wp2
                    go_roundw
                    case rel => exact ⟨i + 1, by omega, by go_num, HIs.out, HBs.out⟩
                    case measure => simp [intOf]; omega
              · have hil2 : ¬ (i : Int) < 2 * (n9 : Int) - 2 := by omega
                have hie : i = 2 * n9 - 2 := by omega
                have hown := own_of_is (base := w.heap.size) (n := len) (r := lims k l) HI.out (Nat.le_refl _) (by rw [length_lims, HLEN.out]) (by unfold maxLen; omega) (sumRow_list (by rw [length_lims, HLEN.out]) (fun s hs => by rw [hie]; exact HFIN.out s hs))
                have hbf := (HB1.out.trans HB.out).fresh HBI.out (fun j hj => by
                  have : j = w.heap.size := by simpa using hj
                  omega)
                have HOWN := Lib.hid hown
                have HBF := Lib.hid hbf
                clear hown hbf hie
                go_wp2
                go_ret2
                exact ⟨w.heap.size, rfl, HOWN.out, HBF.out⟩
end Go.Proofs.YtghegmbafbpnjaaGreatDoor
