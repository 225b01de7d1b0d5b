/- Several texts in one: CoinsM, EfA, RfD, ThingM, Things, LawI (what Best, Dynamic reach of them). -/
import Derived.Test.YtjeeiodpdfbgmaaDoorPm01
import Derived.Test.YtjeeiodpdfbgmaaDoorPm02
import Derived.Test.YtjeeiodpdfbgmaaDoorPm03
import Derived.Test.YtjeeiodpdfbgmaaDoorPm04
import Derived.Test.YtjeeiodpdfbgmaaDoorPm05
import Derived.Test.YtjeeiodpdfbgmaaDoorPm06
import Derived.Test.YtjeeiodpdfbgmaaDoorPm07
import Derived.Test.YtjeeiodpdfbgmaaDoorPm08
import Derived.Test.YtjeeiodpdfbgmaaDoorPm09
import Derived.Test.YtjeeiodpdfbgmaaDoorPm10
import Derived.Test.YtjeeiodpdfbgmaaDoorPm11
import Derived.Test.YtjeeiodpdfbgmaaDoorPm12
import Derived.Below
import Derived.BigQuiet
import Derived.BigRegion
import Derived.Deep.AppendLies
import Derived.Deep.CutBlock
import Derived.Deep.CutRange
import Derived.Deep.DeepCutAuto
import Derived.Deep.Draws
import Derived.Deep.LoopGhost
import Derived.Deep.QuietTactic
import Derived.Deep.RegionLaw
import Derived.Deep.RegionWith
import Derived.Deep.Slices
import Derived.Laws.BitsAllLaws
import Derived.Laws.BitsLemmas
import Derived.Laws.CopyOwn
import Derived.Laws.IdiomStrings
import Derived.Laws.OwnMore
import Derived.Laws.Rows
import Derived.Lib.AppendStr
import Derived.Lib.Hide
import Derived.Lib.Strings
import Derived.LoopIn
import Derived.LoopNIn
import Derived.OneCell
import Derived.OpenShut
import Derived.Outline
import Derived.OwnWalk
import Derived.OwnWalkIn
import Derived.ProofKit
import Derived.RangeFuncBound
import Derived.RangeFuncCalls
import Derived.RangeFuncLeaves
import Derived.RangeFuncNested
import Derived.RegionTactic
import Derived.Shelf.Abstract
import Derived.Shelf.RegionOpen
import Derived.Shelf.SlSortCmp.QuietGrown
import Derived.StillTailTactics
import Derived.TacticsInMore
import Derived.Test.YtjeeiodpdfbgmaaDoorChecked
import Derived.WalkKit
import Derived.WalkLawsBesides
import Derived.WalkSpells
set_option maxRecDepth 100000
set_option linter.unusedVariables false
namespace Go.Proofs.YtjeeiodpdfbgmaaDoor
set_option maxRecDepth 100000
theorem spot_le (c : Nat) : ∀ cs : List (Nat × Nat), spot c cs ≤ cs.length
  | [] => Nat.le_refl _
  | x :: cs => by rw [spot]; have := spot_le c cs; split <;> simp; exact this
end Go.Proofs.YtjeeiodpdfbgmaaDoor
set_option maxRecDepth 100000
set_option linter.unusedVariables false
namespace Go.Proofs.YtjeeiodpdfbgmaaDoor
set_option maxRecDepth 100000
open Go Go.RowKit
section
variable {w : World}
theorem upto_any {A : Option Addr} {n c least : Nat} {l : List Int} (hl : Ints w A n l) (hn : n ≤ 1000) (hc : n ≤ c) (hle : least ≤ n) (h1 : 1 ≤ least) :
    Calls Tryd.prog 41 #[.slice A n c, .int .i64 least] w fun e w' => e = .returned (.slice A (uptoN l least n) c) ∧ w = w' := by
  have HI := Lib.hid hl
  have HLN := Lib.hid hl.1
  obtain ⟨g, o, rfl, hgl, hcx⟩ := hl.at (show 0 < n by omega)
  clear hcx hl
  go_enter Tryd.func41, Tryd.ntmps41
  go_wp2
  go_loopw [5] (fun kv wr => ∃ k : Nat, k ≤ n ∧ least ≤ k ∧ kv = .int .i64 k ∧ Hid (uptoN l least k = uptoN l least n) ∧ w = wr) (fun kv _ => (intOf kv).toNat)
  case atStart => exact ⟨n, Nat.le_refl _, hle, rfl, Lib.hid rfl, rfl⟩
  case round =>
    obtain ⟨k, hk, hlk, rfl, HU, rfl⟩ := hrel
    obtain ⟨j, rfl⟩ : ∃ j, k = j + 1 := ⟨k - 1, by omega⟩
    by_cases hgt : least < j + 1
    · obtain ⟨g2, o2, e2, _, hcell⟩ := HI.out.at (i := j) (by omega)
      injection e2 with e2
      injection e2 with e3 e4
      subst e3 e4
      have ej : l[j]'(by have := HLN.out; omega) = l.getD j 0 := by rw [List.getD_eq_getElem?_getD, List.getElem?_eq_getElem (by have := HLN.out; omega)]; rfl
      rw [ej] at hcell
      obtain ⟨x, hx⟩ : ∃ x, x = l.getD j 0 := ⟨_, rfl⟩
      rw [← hx] at hcell
      have HX := Lib.hid hx
      have d1 : decide ((least : Int) < ((j + 1 : Nat) : Int)) = true := by simp; omega
      have d1' : decide (least < j + 1) = true := by simpa using hgt
      have ee : ((j + 1 : Nat) : Int) - 1 = (j : Int) := by omega
      have b0 : (0 : Int) ≤ (j : Int) := by omega
      have b1 : (j : Int) < (n : Int) := by omega
      clear ej hx
      obtain ⟨K, hK⟩ : ∃ K, K = j + 1 := ⟨_, rfl⟩
      rw [← hK] at d1 d1' ee ⊢
      have HK := Lib.hid hK
      clear hK
      by_cases hz : x = 0
      · have dz : (x == 0) = true := by simp [hz]
        have HN := Lib.hid (show uptoN l least j = uptoN l least n by rw [← HU.out, uptoN, if_pos ⟨hgt, by rw [← HX.out]; exact hz⟩])
        clear hz
        go_wp2
        go_roundw
        case rel => exact ⟨j, by omega, by omega, rfl, HN, by trivial⟩
        case measure => have := HK.out; simp [intOf]; omega
      · have dz : (x == 0) = false := by simpa using hz
        have HN := Lib.hid (show uptoN l least n = K by rw [← HU.out, uptoN, if_neg (fun h => hz (by rw [HX.out]; exact h.2)), HK.out])
        have hKn : K ≤ n := by have := HK.out; omega
        have hKc : K ≤ c := by omega
        clear hz
        go_wp2
        go_ret
        exact ⟨by rw [HN.out]; rfl, rfl⟩
    · have d1 : decide ((least : Int) < ((j + 1 : Nat) : Int)) = false := by simp; omega
      have d1' : decide (least < j + 1) = false := by simpa using hgt
      have HN := Lib.hid (show uptoN l least n = j + 1 by rw [← HU.out, uptoN, if_neg (fun h => hgt h.1)])
      obtain ⟨K, hK⟩ : ∃ K, K = j + 1 := ⟨_, rfl⟩
      rw [← hK] at d1 d1' HN ⊢
      have hKn : K ≤ n := by omega
      have hKc : K ≤ c := by omega
      clear hK
      go_wp2
      go_ret
      exact ⟨by rw [HN.out]; rfl, rfl⟩
end
end Go.Proofs.YtjeeiodpdfbgmaaDoor
namespace Go.Proofs.YtjeeiodpdfbgmaaDoor
set_option maxRecDepth 100000
open Go Go.RowKit
theorem order_any (w : World) :
    Calls Tryd.prog 42 #[] w fun e w' => e = .returned (.slice (some ⟨w.heap.size, 0, none⟩) 19 19) ∧ w' = w.alloc (.cells ordCells 3) := by
  go_enter Tryd.func42, Tryd.ntmps42
  go_wp2
  go_ret
  exact ⟨rfl, rfl⟩
end Go.Proofs.YtjeeiodpdfbgmaaDoor
namespace Go.Proofs.YtjeeiodpdfbgmaaDoor
set_option maxRecDepth 100000
section
variable {α β : Type}
def mrgGIn (key : α → Nat) (c : α) (f : List α → List α) : List α → List α
  | [] => c :: f []
  | p :: ps => if key p < key c then p :: mrgGIn key c f ps else c :: f (p :: ps)
/-- A merge by keys, the first list's ahead where they are equal. -/
def mrgG (key : α → Nat) : List α → List α → List α
  | [], ps => ps
  | c :: cs, ps => mrgGIn key c (mrgG key cs) ps
theorem mrgG_nil (key : α → Nat) (ps : List α) : mrgG key [] ps = ps := rfl
theorem mrgG_none (key : α → Nat) : ∀ cs : List α, mrgG key cs [] = cs
  | [] => rfl
  | c :: cs => by show c :: mrgG key cs [] = _; rw [mrgG_none key cs]
theorem mrgG_lt {key : α → Nat} {c p : α} {cs ps : List α} (h : key p < key c) : mrgG key (c :: cs) (p :: ps) = p :: mrgG key (c :: cs) ps := by
  show mrgGIn key c (mrgG key cs) (p :: ps) = _; rw [mrgGIn, if_pos h]; rfl
theorem mrgG_ge {key : α → Nat} {c p : α} {cs ps : List α} (h : ¬ key p < key c) : mrgG key (c :: cs) (p :: ps) = c :: mrgG key cs (p :: ps) := by
  show mrgGIn key c (mrgG key cs) (p :: ps) = _; rw [mrgGIn, if_neg h]
theorem mrgG_rec {key : α → Nat} {P : List α → List α → Prop} (h1 : ∀ ps, P [] ps) (h2 : ∀ cs, P cs []) (h3 : ∀ c cs p ps, key p < key c → P (c :: cs) ps → P (c :: cs) (p :: ps)) (h4 : ∀ c cs p ps, ¬ key p < key c → P cs (p :: ps) → P (c :: cs) (p :: ps)) :
    ∀ cs ps, P cs ps := by
  intro cs ps
  induction h : cs.length + ps.length generalizing cs ps with
  | zero =>
    cases cs with
    | nil => exact h1 ps
    | cons c cs => simp at h
  | succ n ih =>
    cases cs with
    | nil => exact h1 ps
    | cons c cs =>
      cases ps with
      | nil => exact h2 _
      | cons p ps =>
        by_cases hp : key p < key c
        · exact h3 _ _ _ _ hp (ih _ _ (by simp at h ⊢; omega))
        · exact h4 _ _ _ _ hp (ih _ _ (by simp at h ⊢; omega))
theorem mrgG_map {key : α → Nat} {key2 : β → Nat} (f : α → β) (hk : ∀ a, key2 (f a) = key a) (cs ps : List α) : (mrgG key cs ps).map f = mrgG key2 (cs.map f) (ps.map f) := by
  induction cs, ps using mrgG_rec (key := key) with
  | h1 ps => rfl
  | h2 cs => rw [mrgG_none, List.map_nil, mrgG_none]
  | h3 c cs p ps h ih => rw [mrgG_lt h, List.map_cons, ih, List.map_cons, List.map_cons, mrgG_lt (by rw [hk, hk]; exact h)]
  | h4 c cs p ps h ih => rw [mrgG_ge h, List.map_cons, ih, List.map_cons, List.map_cons, mrgG_ge (by rw [hk, hk]; exact h)]
theorem mem_mrgG {key : α → Nat} {cs ps : List α} {x : α} : x ∈ mrgG key cs ps → x ∈ cs ∨ x ∈ ps := by
  induction cs, ps using mrgG_rec (key := key) with
  | h1 ps => exact .inr
  | h2 cs => rw [mrgG_none]; exact .inl
  | h3 c cs p ps h ih =>
    rw [mrgG_lt h]; intro hx
    rcases List.mem_cons.1 hx with rfl | hx
    · exact .inr (by simp)
    · rcases ih hx with h | h
      · exact .inl h
      · exact .inr (by simp [h])
  | h4 c cs p ps h ih =>
    rw [mrgG_ge h]; intro hx
    rcases List.mem_cons.1 hx with rfl | hx
    · exact .inl (by simp)
    · rcases ih hx with h | h
      · exact .inl (by simp [h])
      · exact .inr h
/-- One step of a merge. -/
theorem mrgG_coin {key : α → Nat} {C P : List α} {i k : Nat} (hi : i < C.length) (h : P.length ≤ k ∨ ∃ hk : k < P.length, key C[i] ≤ key P[k]) : mrgG key (C.drop i) (P.drop k) = C[i] :: mrgG key (C.drop (i + 1)) (P.drop k) := by
  rw [List.drop_eq_getElem_cons hi]
  rcases h with h | ⟨hk, h⟩
  · rw [List.drop_of_length_le h, mrgG_none, mrgG_none]
  · rw [List.drop_eq_getElem_cons hk, mrgG_ge (by omega)]
theorem mrgG_pair {key : α → Nat} {C P : List α} {i k : Nat} (hk : k < P.length) (h : C.length ≤ i ∨ ∃ hi : i < C.length, key P[k] < key C[i]) : mrgG key (C.drop i) (P.drop k) = P[k] :: mrgG key (C.drop i) (P.drop (k + 1)) := by
  rw [List.drop_eq_getElem_cons hk]
  rcases h with h | ⟨hi, h⟩
  · rw [List.drop_of_length_le h]; rfl
  · rw [List.drop_eq_getElem_cons hi, mrgG_lt h]
end
def addV (u v : List Int) : List Int := List.zipWith (· + ·) u v
theorem addV_getD {u v : List Int} {s : Nat} (h : u.length = v.length) : (addV u v).getD s 0 = u.getD s 0 + v.getD s 0 := by
  unfold addV
  rw [List.getD_eq_getElem?_getD, List.getD_eq_getElem?_getD, List.getD_eq_getElem?_getD, List.getElem?_zipWith]
  by_cases hs : s < u.length
  · rw [List.getElem?_eq_getElem hs, List.getElem?_eq_getElem (by omega)]; rfl
  · rw [List.getElem?_eq_none (by omega), List.getElem?_eq_none (by omega)]; rfl
def prT : List Tg → List Tg
  | a :: b :: l => (a.1 + b.1, addV a.2 b.2) :: prT l
  | _ => []
def prN : List Nat → List Nat
  | a :: b :: l => (a + b) :: prN l
  | _ => []
theorem prs_prN : ∀ l : List (Nat × Bool), prs l = prN (l.map (·.1))
  | [] => rfl
  | [_] => rfl
  | a :: b :: l => by show _ :: prs l = _ :: prN (l.map (·.1)); rw [prs_prN l]
theorem prT_keys : ∀ l : List Tg, (prT l).map (·.1) = prN (l.map (·.1))
  | [] => rfl
  | [_] => rfl
  | a :: b :: l => by show _ :: (prT l).map (·.1) = _ :: prN (l.map (·.1)); rw [prT_keys l]
theorem length_prT : ∀ l : List Tg, (prT l).length = l.length / 2
  | [] => rfl
  | [_] => by simp [prT]
  | a :: b :: l => by simp [prT, length_prT l]; omega
theorem prT_at : ∀ (l : List Tg) (i : Nat) (h : 2 * i + 1 < l.length), (prT l)[i]'(by rw [length_prT]; omega) = (l[2 * i].1 + l[2 * i + 1].1, addV l[2 * i].2 l[2 * i + 1].2)
  | [], i, h => by simp at h
  | [_], i, h => by simp at h
  | a :: b :: l, 0, h => by simp [prT]
  | a :: b :: l, i + 1, h => by
    have := prT_at l i (by simp at h; omega)
    simpa [prT, show 2 * (i + 1) = 2 * i + 1 + 1 from by omega] using this
def rowT (cs : List Tg) : Nat → List Tg
  | 0 => cs
  | k + 1 => mrgG (·.1) cs (prT (rowT cs k))
theorem mrgG_keys : ∀ (cs ps : List Nat), mrgG id cs ps = (mrg cs ps).map (·.1) := by
  intro cs ps
  induction cs, ps using mrg_rec with
  | h1 ps => rw [mrg_nil, List.map_map]; simp [mrgG_nil, Function.comp_def]
  | h2 cs => rw [mrg_none, mrgG_none, List.map_map]; simp [Function.comp_def]
  | h3 c cs p ps h ih => rw [mrg_lt h, mrgG_lt (by exact h), ih]; rfl
  | h4 c cs p ps h ih => rw [mrg_ge h, mrgG_ge (by exact h), ih]; rfl
theorem rowT_keys (cs : List Tg) : ∀ k, (rowT cs k).map (·.1) = (rowN (cs.map (·.1)) k).map (·.1)
  | 0 => by
    show cs.map (·.1) = (mrg (cs.map (·.1)) []).map (·.1)
    rw [mrg_none, List.map_map]; simp [Function.comp_def]
  | k + 1 => by
    show (mrgG (·.1) cs (prT (rowT cs k))).map (·.1) = (mrg (cs.map (·.1)) (prs (rowN (cs.map (·.1)) k))).map (·.1)
    rw [← mrgG_keys, mrgG_map (key := fun x : Tg => x.1) (key2 := id) (fun x : Tg => x.1) (fun _ => rfl), prT_keys, rowT_keys cs k, prs_prN]
theorem length_rowT (cs : List Tg) (k : Nat) : (rowT cs k).length = (rowN (cs.map (·.1)) k).length := by
  have := congrArg List.length (rowT_keys cs k)
  simpa using this
/-- The first items of a merge: its first coins and its first pairs. -/
theorem mrgT_first (cs ps : List Tg) (g : Tg → Int) : ∀ a, a ≤ cs.length + ps.length → (((mrgG (·.1) cs ps).take a).map g).sum = ((cs.take (tk (mrg (cs.map (·.1)) (ps.map (·.1))) a)).map g).sum + ((ps.take (a - tk (mrg (cs.map (·.1)) (ps.map (·.1))) a)).map g).sum := by
  induction cs, ps using mrgG_rec (key := fun x : Tg => x.1) with
  | h1 ps =>
    intro a ha
    have h0 : tk (mrg [] (ps.map (·.1))) a = 0 := by
      unfold tk coinsIn; rw [mrg_nil, ← List.map_take, List.filter_map]; simp
    rw [List.map_nil, h0, mrgG_nil]; simp
  | h2 cs =>
    intro a ha
    simp only [List.length_nil, Nat.add_zero] at ha
    have h0 : tk (mrg (cs.map (·.1)) []) a = a := by
      unfold tk coinsIn; rw [mrg_none, ← List.map_take, List.filter_map, List.length_map]
      rw [List.filter_eq_self.2 (by simp), List.length_take, List.length_map]; omega
    rw [List.map_nil, h0, mrgG_none]; simp
  | h3 c cs p ps h ih =>
    intro a ha
    have hm : mrg ((c :: cs).map (·.1)) ((p :: ps).map (·.1)) = (p.1, true) :: mrg ((c :: cs).map (·.1)) (ps.map (·.1)) := mrg_lt h
    rw [mrgG_lt (key := fun x : Tg => x.1) h, hm]
    cases a with
    | zero => simp [tk_zero]
    | succ a =>
      have := ih a (by simp at ha ⊢; omega)
      rw [tk_cons]
      have hle := tk_le (mrg ((c :: cs).map (·.1)) (ps.map (·.1))) a
      generalize tk (mrg ((c :: cs).map (·.1)) (ps.map (·.1))) a = T at *
      simp only [if_true, Nat.zero_add]
      rw [show a + 1 - T = (a - T) + 1 from by omega]
      simp only [List.take_succ_cons, List.map_cons, List.sum_cons]
      rw [this]
      omega
  | h4 c cs p ps h ih =>
    intro a ha
    have hm : mrg ((c :: cs).map (·.1)) ((p :: ps).map (·.1)) = (c.1, false) :: mrg (cs.map (·.1)) ((p :: ps).map (·.1)) := mrg_ge h
    rw [mrgG_ge (key := fun x : Tg => x.1) h, hm]
    cases a with
    | zero => simp [tk_zero]
    | succ a =>
      have := ih a (by simp at ha ⊢; omega)
      rw [tk_cons]
      generalize tk (mrg (cs.map (·.1)) ((p :: ps).map (·.1))) a = T at *
      simp only [Bool.false_eq_true, if_false]
      rw [show a + 1 - (1 + T) = a - T from by omega, Nat.add_comm 1]
      simp only [List.take_succ_cons, List.map_cons, List.sum_cons]
      rw [this]
      omega
/-- All lists of numbers have so many. -/
def Wide (n : Nat) (L : List Tg) : Prop := ∀ x ∈ L, x.2.length = n
theorem prT_wide {n : Nat} : ∀ {l : List Tg}, Wide n l → Wide n (prT l)
  | [], _ => by intro x hx; simp [prT] at hx
  | [_], _ => by intro x hx; simp [prT] at hx
  | a :: b :: l, h => by
    intro x hx
    simp only [prT, List.mem_cons] at hx
    rcases hx with rfl | hx
    · have h1 := h a (by simp)
      have h2 := h b (by simp)
      simp [addV, h1, h2]
    · exact prT_wide (l := l) (fun y hy => h y (by simp [hy])) x hx
theorem rowT_wide {n : Nat} {cs : List Tg} (h : Wide n cs) : ∀ k, Wide n (rowT cs k)
  | 0 => h
  | k + 1 => fun x hx => by
    rcases mem_mrgG hx with h1 | h1
    · exact h x h1
    · exact prT_wide (rowT_wide h k) x h1
theorem prT_sum {n s : Nat} : ∀ (l : List Tg) (q : Nat), Wide n l → 2 * q ≤ l.length → (((prT l).take q).map fun x => x.2.getD s 0).sum = ((l.take (2 * q)).map fun x => x.2.getD s 0).sum
  | _, 0, _, _ => by simp
  | [], q + 1, _, h => by simp at h
  | [_], q + 1, _, h => by simp at h; omega
  | a :: b :: l, q + 1, hw, h => by
    have := prT_sum (s := s) l q (fun y hy => hw y (by simp [hy])) (by simp at h; omega)
    rw [show 2 * (q + 1) = 2 * q + 1 + 1 from by omega]
    simp only [prT, List.take_succ_cons, List.sum_cons, List.map_cons, this]
    rw [addV_getD ((hw a (by simp)).trans (hw b (by simp)).symm)]
    omega
theorem rowT_sum {n s : Nat} {cs : List Tg} (hw : Wide n cs) : ∀ k a, a ≤ (rowN (cs.map (·.1)) k).length → (((rowT cs k).take a).map fun x => x.2.getD s 0).sum = ((cc (cs.map (·.1)) k a).map fun t => ((cs.take t).map fun x => x.2.getD s 0).sum).sum
  | 0, a, h => by
    have hl : (rowN (cs.map (·.1)) 0).length = cs.length := by simp [rowN, length_mrg]
    have h0 : tk (rowN (cs.map (·.1)) 0) a = a := by
      unfold tk coinsIn; rw [rowN, mrg_none, ← List.map_take, List.filter_map, List.length_map]
      rw [List.filter_eq_self.2 (by simp), List.length_take, List.length_map]; omega
    simp [cc, h0, rowT]
  | k + 1, a, h => by
    have hp := pairs_enough (cs.map (·.1)) k a h
    have e : rowN (cs.map (·.1)) (k + 1) = mrg (cs.map (·.1)) ((prT (rowT cs k)).map (·.1)) := by
      rw [prT_keys, rowT_keys, ← prs_prN]; rfl
    have hl : a ≤ cs.length + (prT (rowT cs k)).length := by
      rw [e, length_mrg] at h; simpa using h
    have h1 := mrgT_first cs (prT (rowT cs k)) (fun x => x.2.getD s 0) a hl
    rw [← e] at h1
    have h2 := prT_sum (n := n) (s := s) (rowT cs k) (a - tk (rowN (cs.map (·.1)) (k + 1)) a) (rowT_wide hw k) (by rw [length_rowT]; exact hp)
    rw [h2, rowT_sum hw k _ hp] at h1
    simp only [cc, List.map_cons, List.sum_cons]
    exact h1

def unitV (n s : Nat) : List Int := (List.replicate n (0 : Int)).set s 1
def coinT (n : Nat) (c : Nat × Nat) : Tg := (c.2, unitV n c.1)
theorem unitV_getD (n s t : Nat) : (unitV n s).getD t 0 = if s = t ∧ t < n then 1 else 0 := by
  unfold unitV; rw [getD_set, zeros_getD, List.length_replicate]
theorem coinT_wide (n : Nat) (cs : List (Nat × Nat)) : Wide n (cs.map (coinT n)) := by
  intro x hx
  obtain ⟨c, _, rfl⟩ := List.mem_map.1 hx
  simp [coinT, unitV]
theorem coins_keys (n : Nat) (cs : List (Nat × Nat)) : (cs.map (coinT n)).map (·.1) = cs.map (·.2) := by rw [List.map_map]; rfl
theorem units_at {n : Nat} {cs : List (Nat × Nat)} (hd : (cs.map (·.1)).Nodup) (hlt : ∀ c ∈ cs, c.1 < n) {r : Nat} (hr : r < cs.length) : ∀ t, (((cs.map (coinT n)).take t).map fun x => x.2.getD cs[r].1 0).sum = if r < t then 1 else 0
  | 0 => by simp
  | t + 1 => by
    have ih := units_at hd hlt hr t
    by_cases ht : t < cs.length
    · rw [List.take_succ_eq_append_getElem (by simpa using ht), List.map_append, List.sum_append, ih]
      simp only [List.getElem_map, List.map_cons, List.map_nil, List.sum_cons, List.sum_nil, coinT, unitV_getD]
      by_cases e : t = r
      · subst e
        rw [if_neg (by omega), if_pos ⟨rfl, hlt _ (List.getElem_mem hr)⟩, if_pos (by omega)]; rfl
      · rw [if_neg (c := _ ∧ _) (fun h => e (nodup_at hd ht hr h.1))]
        by_cases h1 : r < t
        · rw [if_pos h1, if_pos (by omega)]; rfl
        · rw [if_neg h1, if_neg (by omega)]; rfl
    · rw [List.take_of_length_le (by simp; omega)] at ih ⊢
      rw [ih, if_pos (by omega), if_pos (by omega)]
theorem units_off {n s : Nat} {cs : List (Nat × Nat)} (hs : s ∉ cs.map (·.1)) (t : Nat) : (((cs.map (coinT n)).take t).map fun x => x.2.getD s 0).sum = 0 := by
  have : ∀ L : List (Nat × Nat), s ∉ L.map (·.1) → ((L.map (coinT n)).map fun x => x.2.getD s 0).sum = 0 := by
    intro L
    induction L with
    | nil => intro _; rfl
    | cons c L ih =>
      intro h
      simp only [List.map_cons, List.mem_cons, not_or] at h
      simp only [List.map_cons, List.sum_cons, coinT, unitV_getD]
      rw [if_neg (fun e => h.1 e.1.symm)]
      have := ih h.2
      rw [Int.zero_add]; exact this
  rw [← List.map_take]
  refine this _ fun h => hs ?_
  rw [List.map_take] at h
  exact List.mem_of_mem_take h
theorem sum_rl (r : Nat) : ∀ ts : List Nat, (ts.map fun t => if r < t then (1 : Int) else 0).sum = (rl ts r : Nat)
  | [] => rfl
  | t :: ts => by
    rw [List.map_cons, List.sum_cons, sum_rl r ts, rl]
    split <;> simp
/-- What the document sums up. -/
def outs (M : Nat) (l : List Int) (i : Nat) (s : Nat) : Int := (((rowT ((csOf l l.length).map (coinT l.length)) (M - 1)).take i).map fun x => x.2.getD s 0).sum
theorem outs_lims {M : Nat} {l : List Int} (hM1 : 1 ≤ M) (hp : (csOf l l.length).length ≤ 2 ^ M) (h1 : (csOf l l.length).length ≠ 1) (s : Nat) : outs M l (2 * (csOf l l.length).length - 2) s = (lims M l).getD s 0 := by
  by_cases h0 : (csOf l l.length).length = 0
  · rw [lims_zero rfl rfl h0, zeros_getD, h0]; unfold outs; simp
  · have hn : 2 ≤ (csOf l l.length).length := by omega
    unfold outs
    have he := row_enough ((csOf l l.length).map (·.2)) (M - 1) (by rw [show M - 1 + 1 = M from by omega, List.length_map]; exact hp) (by rw [List.length_map]; exact hn)
    rw [List.length_map] at he
    rw [rowT_sum (coinT_wide l.length (csOf l l.length)) (M - 1) _ (by rw [coins_keys]; exact he), coins_keys]
    by_cases hs : s ∈ (csOf l l.length).map (·.1)
    · obtain ⟨r, hr, e⟩ := List.getElem_of_mem hs
      have hr' : r < (csOf l l.length).length := by simpa using hr
      have e' : (csOf l l.length)[r].1 = s := by simpa using e
      rw [← e', lims_rank hr']
      have : (fun t => (((csOf l l.length).map (coinT l.length)).take t |>.map fun x => x.2.getD (csOf l l.length)[r].1 0).sum) = fun t => if r < t then (1 : Int) else 0 :=
        funext fun t => units_at (csOf_nodup l _) (fun c hc => (mem_csOf.1 hc).1) hr' t
      rw [this, sum_rl]
      unfold rk lensOf
      rw [if_neg h1, List.length_map]
    · rw [lims_off hs]
      have : (fun t => (((csOf l l.length).map (coinT l.length)).take t |>.map fun x => x.2.getD s 0).sum) = fun _ => (0 : Int) :=
        funext fun t => units_off hs t
      rw [this]
      generalize cc _ _ _ = ts
      induction ts with
      | nil => rfl
      | cons t ts ih => rw [List.map_cons, List.sum_cons, ih]; rfl

theorem prT_bnd {n B W : Nat} : ∀ {l : List Tg}, Wide n l → Bnd B W l → Bnd (2 * B) (2 * W) (prT l)
  | [], _, _ => by intro x hx; simp [prT] at hx
  | [_], _, _ => by intro x hx; simp [prT] at hx
  | a :: b :: l, hw, h => by
    intro x hx
    simp only [prT, List.mem_cons] at hx
    rcases hx with rfl | hx
    · have h1 := h a (by simp)
      have h2 := h b (by simp)
      refine ⟨by dsimp only; omega, fun s => ?_⟩
      dsimp only
      rw [addV_getD ((hw a (by simp)).trans (hw b (by simp)).symm)]
      have := h1.2 s
      have := h2.2 s
      omega
    · exact prT_bnd (l := l) (fun y hy => hw y (by simp [hy])) (fun y hy => h y (by simp [hy])) x hx
theorem rowT_bnd {n W : Nat} {cs : List Tg} (hw : Wide n cs) (h : Bnd 1 W cs) : ∀ k, Bnd (2 ^ k) (2 ^ k * W) (rowT cs k)
  | 0 => h.more (Nat.le_refl _) (by simp)
  | k + 1 => fun x hx => by
    have hp := Nat.two_pow_pos k
    rcases mem_mrgG hx with h1 | h1
    · refine h.more ?_ ?_ x h1
      · rw [Nat.pow_succ]; omega
      · exact Nat.le_trans (by simp) (Nat.mul_le_mul_right W (show 1 ≤ 2 ^ (k + 1) by rw [Nat.pow_succ]; omega))
    · refine (prT_bnd (rowT_wide hw k) (rowT_bnd hw h k)).more ?_ ?_ x h1
      · rw [Nat.pow_succ]; omega
      · rw [Nat.pow_succ, Nat.mul_comm (2 ^ k) 2, Nat.mul_assoc]; exact Nat.le_refl _
theorem coins_bnd {l : List Int} (hok : okCounts l = true) (k : Nat) : Bnd 1 1000000000 ((csOf l k).map (coinT l.length)) := by
  intro x hx
  obtain ⟨c, hc, rfl⟩ := List.mem_map.1 hx
  refine ⟨coins_le hok _ (List.mem_map_of_mem hc), fun s => ?_⟩
  simp only [coinT, unitV_getD]
  split <;> omega
theorem sum_bnd {B W : Nat} {L : List Tg} (h : Bnd B W L) (s : Nat) : ∀ i, 0 ≤ ((L.take i).map fun x => x.2.getD s 0).sum ∧ ((L.take i).map fun x => x.2.getD s 0).sum ≤ ((i * B : Nat) : Int)
  | 0 => by simp
  | i + 1 => by
    have ih := sum_bnd h s i
    by_cases hi : i < L.length
    · rw [List.take_succ_eq_append_getElem hi, List.map_append, List.sum_append]
      have := (h _ (List.getElem_mem hi)).2 s
      simp only [List.map_cons, List.map_nil, List.sum_cons, List.sum_nil]
      rw [Nat.add_mul, Nat.one_mul]; omega
    · rw [List.take_of_length_le (by omega)] at ih ⊢
      rw [Nat.add_mul]; omega
end Go.Proofs.YtjeeiodpdfbgmaaDoor
namespace Go.Proofs.YtjeeiodpdfbgmaaDoor
set_option maxRecDepth 100000
open Go Go.RowKit
def Th.t (x : Th) : Tg := (x.n, x.v)
theorem thCells_append (len : Nat) (L M : List Th) : thCells len (L ++ M) = thCells len L ++ thCells len M := by simp [thCells]
theorem info_thing : (Tryd.prog.info? 98).map (fun i => (i.zero, i.size, i.bytes)) = some (some (.agg #[.int .i64 0, .bool false, .slice none 0 0]), 3, 40) := by kernel_rfl
theorem OwnT.pushed {w wr w' : World} {len : Nat} {v v' : Value} {L : List Th} {x : Th} {cs : Array Value} {t : TypeId} (hB : But [] w wr) (hO : OwnT wr w.heap.size len v L)
    (h1 : w'.ownsRow w.heap.size 98 3 v' (L.length + 1) (thCells len L ++ [.int .i64 x.n, .bool x.b, .slice x.a len x.c])) (hg : (wr.alloc (.cells cs t)).grownBy w' v.ownBlock) :
    OwnT w' w.heap.size len v' (L ++ [x]) ∧ But [] w w' := by
  refine ⟨?_, (hB.alloc _).grown hg (fun g e => .inr (hO.lt g e).1)⟩
  unfold OwnT
  rw [List.length_append, thCells_append]
  simpa [thCells] using h1

def keyTh (x : Th) : Nat := x.n
/-- A merge of things, in a slice of the call's own. -/
def GotThings (w : World) (len : Nat) (L : List Th) (e : Ending) (w' : World) : Prop := ∃ v, e = .returned v ∧ OwnT w' w.heap.size len v L ∧ But [] w w'
set_option maxRecDepth 100000 in
set_option maxHeartbeats 2000000 in
theorem row_any {w : World} {A B : Option Addr} {n m c d len : Nat} {C P : List Th} (hC : Things w A n len C) (hP : Things w B m len P) (hn : n ≤ 600) (hm : m ≤ 600) :
    Calls Tryd.prog 61 #[.slice A n c, .slice B m d] w (GotThings w len (mrgG keyTh C P)) := by
  obtain ⟨i0, hi0, hz0, hz1, hz2⟩ := info_parts info_thing
  have hCl := hC.1
  have hPl := hP.1
  have HC := Lib.hid hC
  have HP := Lib.hid hP
  have HCL := Lib.hid hCl
  have HPL := Lib.hid hPl
  clear hC hP hCl hPl
  go_enter Tryd.func61, Tryd.ntmps61
  go_wp2
  go_loopw [5, 6, 7] (fun ov iv kv wr => ∃ (i k : Nat) (L : List Th), i ≤ n ∧ k ≤ m ∧ iv = .int .i64 i ∧ kv = .int .i64 k ∧ L.length = i + k ∧ L ++ mrgG keyTh (C.drop i) (P.drop k) = mrgG keyTh C P ∧ OwnT wr w.heap.size len ov L ∧ But [] w wr) (fun _ iv kv _ => 2000 - (intOf iv).toNat - (intOf kv).toNat)
  case atStart => exact ⟨0, 0, [], Nat.zero_le _, Nat.zero_le _, rfl, rfl, rfl, rfl, OwnT.nil _ _ _, But.refl _ _⟩
  case round =>
    obtain ⟨i, k, L, hi, hk, rfl, rfl, hL, hm2, hO, hB⟩ := hrel
    have hsz := hB.size
    have HO := Lib.hid hO
    have HB := Lib.hid hB
    have HM := Lib.hid hm2
    have HLL := Lib.hid hL
    have hLb : L.length ≤ 1200 := by omega
    clear hO hB hm2 hL
    by_cases hend : i = n ∧ k = m
    · obtain ⟨rfl, rfl⟩ := hend
      go_wp2
      go_ret
      refine ⟨_, rfl, ?_, HB.out⟩
      have h := HM.out
      rw [List.drop_of_length_le (by have := HCL.out; omega), List.drop_of_length_le (by have := HPL.out; omega), mrgG_none, List.append_nil] at h
      rw [← h]; exact HO.out
    · by_cases hcoin : i < n ∧ (k = m ∨ ∃ (h1 : i < C.length) (h2 : k < P.length), C[i].n ≤ P[k].n)
      · obtain ⟨hin, hcc⟩ := hcoin
        obtain ⟨g, o, rfl, hg, c0, c1, c2⟩ := HC.out.at hin
        have hnext := mrgG_coin (key := keyTh) (C := C) (P := P) (i := i) (k := k) (by have := HCL.out; omega) (by
          rcases hcc with h | ⟨h1, h2, h3⟩
          · left; have := HPL.out; omega
          · right; exact ⟨h2, h3⟩)
        have hN : (L ++ [C[i]'(by have := HCL.out; omega)]) ++ mrgG keyTh (C.drop (i + 1)) (P.drop k) = mrgG keyTh C P := by
          rw [← HM.out, hnext]; simp
        have HNX := Lib.hid hN
        have i0' : (0 : Int) ≤ (i : Int) := by omega
        have i1' : (i : Int) < (n : Int) := by omega
        have din : decide (i < n) = true := by simpa using hin
        have e0 := HB.out.cell c0 (by simp)
        have e1 := HB.out.cell c1 (by simp)
        have e2 := HB.out.cell c2 (by simp)
        go_upto_region 5 with (fail)
        go_cut [40] (fun v wx => v = .bool true ∧ But [] w wx ∧ OwnT wx w.heap.size len u5 L)
        case first =>
          rcases hcc with h | ⟨h1, h2, h3⟩
          · have dk : ((k : Int) == (m : Int)) = true := by simp; omega
            clear hnext hN h
            go_quiet (fail)
            go_wp2
            go_meet
            exact ⟨rfl, HB.out.drewN _, HO.out.but ((But.refl [] wr).drewN _)⟩
          · have hkm : k < m := by have := HPL.out; omega
            have dk : ((k : Int) == (m : Int)) = false := by simp; omega
            obtain ⟨g2, o2, rfl, hg2, p0, _, _⟩ := HP.out.at hkm
            have q0 := HB.out.cell p0 (by simp)
            generalize C[i].n = X at *
            generalize P[k].n = Y at *
            have k0' : (0 : Int) ≤ (k : Int) := by omega
            have k1' : (k : Int) < (m : Int) := by omega
            have dxy : decide (X ≤ Y) = true := by simpa using h3
            clear hnext hN c0 c1 c2 p0
            go_quiet (fail)
            go_wp2
            go_meet
            exact ⟨rfl, HB.out.drewN _, HO.out.but ((But.refl [] wr).drewN _)⟩
        case rest =>
          obtain ⟨rfl, hB2, hO2⟩ := hcut
          clear e0 e1 e2 hnext hN hcc
          have e0 := hB2.cell c0 (by simp)
          have e1 := hB2.cell c1 (by simp)
          have e2 := hB2.cell c2 (by simp)
          obtain ⟨x, hx⟩ : ∃ x, x = C[i]'(by have := HCL.out; omega) := ⟨_, rfl⟩
          rw [← hx] at e0 e1 e2
          have HX := Lib.hid hx
          have HO2 := Lib.hid hO2
          have HB2 := Lib.hid hB2
          have hsz2 := hB2.size
          clear hx hO2 hB2 c0 c1 c2
          go_wp2_with (at_builtin; refine wpList_append_own _ rfl _ _ 96 rfl w.heap.size 98 i0 (.agg #[.int .i64 0, .bool false, .slice none 0 0]) 3 40 Tryd.underlying96 hi0 hz0 hz1 hz2 rfl (by decide) _ L.length (thCells len L) rfl (World.ownsRow.alloc HO2.out _) ⟨wc.heap.size, 0, none⟩ 1 1 [.int .i64 x.n, .bool x.b, .slice x.a len x.c] rfl rfl ?c1 ?c2 ?c3 ?c4 ?c5 ?_)
          case c1 => exact World.news_of_block (cs := #[.int .i64 x.n, .bool x.b, .slice x.a len x.c]) (t := 98) (fr := (0, 0)) (heap_alloc_new wc _)
          case c2 => simp [Value.oneCell']
          case c3 => unfold maxLen; omega
          case c4 => omega
          case c5 => simp; omega
          intro v' w1 hown1 hgrow _
          have HN := Lib.hid (OwnT.pushed HB2.out HO2.out hown1 hgrow)
          clear hown1 hgrow e0 e1 e2
          go_wp2
          go_roundw
          case rel => exact ⟨i + 1, k, L ++ [x], by omega, hk, by go_num, rfl, by have := HLL.out; simp; omega, by rw [HX.out]; exact HNX.out, HN.out.1, HN.out.2⟩
          case measure => simp [intOf]; omega
      · have hkm : k < m := by
          apply Classical.byContradiction; intro h
          have hkm : k = m := by omega
          exact hcoin ⟨by omega, .inl hkm⟩
        have hpk : n ≤ i ∨ ∃ (h1 : i < C.length) (h2 : k < P.length), P[k].n < C[i].n := by
          by_cases hin : i < n
          · right
            have h1 : i < C.length := by have := HCL.out; omega
            have h2 : k < P.length := by have := HPL.out; omega
            refine ⟨h1, h2, ?_⟩
            apply Classical.byContradiction; intro h
            exact hcoin ⟨hin, .inr ⟨h1, h2, by omega⟩⟩
          · left; omega
        obtain ⟨g, o, rfl, hg, c0, c1, c2⟩ := HP.out.at hkm
        have hnext := mrgG_pair (key := keyTh) (C := C) (P := P) (i := i) (k := k) (by have := HPL.out; omega) (by
          rcases hpk with h | ⟨h1, h2, h3⟩
          · left; have := HCL.out; omega
          · right; exact ⟨h1, h3⟩)
        have hN : (L ++ [P[k]'(by have := HPL.out; omega)]) ++ mrgG keyTh (C.drop i) (P.drop (k + 1)) = mrgG keyTh C P := by
          rw [← HM.out, hnext]; simp
        have HNX := Lib.hid hN
        have k0' : (0 : Int) ≤ (k : Int) := by omega
        have k1' : (k : Int) < (m : Int) := by omega
        have dkm : decide (k < m) = true := by simpa using hkm
        have dk : ((k : Int) == (m : Int)) = false := by simp; omega
        have e0 := HB.out.cell c0 (by simp)
        have e1 := HB.out.cell c1 (by simp)
        have e2 := HB.out.cell c2 (by simp)
        clear hcoin hend
        rcases hpk with h | ⟨h1, h2, h3⟩
        · have din : decide (i < n) = false := by simp; omega
          clear h
          go_upto_region 5 with (fail)
          go_cut [40] (fun v wx => v = .bool false ∧ But [] w wx ∧ OwnT wx w.heap.size len u5 L)
          case first =>
            clear hnext hN
            go_quiet (fail)
            go_wp2
            go_meet
            exact ⟨rfl, HB.out.drewN _, HO.out.but ((But.refl [] wr).drewN _)⟩
          case rest =>
            obtain ⟨rfl, hB2, hO2⟩ := hcut
            clear e0 e1 e2 hnext hN
            have e0 := hB2.cell c0 (by simp)
            have e1 := hB2.cell c1 (by simp)
            have e2 := hB2.cell c2 (by simp)
            obtain ⟨x, hx⟩ : ∃ x, x = P[k]'(by have := HPL.out; omega) := ⟨_, rfl⟩
            rw [← hx] at e0 e1 e2
            have HX := Lib.hid hx
            have HO2 := Lib.hid hO2
            have HB2 := Lib.hid hB2
            have hsz2 := hB2.size
            clear hx hO2 hB2 c0 c1 c2
            go_wp2_with (at_builtin; refine wpList_append_own _ rfl _ _ 96 rfl w.heap.size 98 i0 (.agg #[.int .i64 0, .bool false, .slice none 0 0]) 3 40 Tryd.underlying96 hi0 hz0 hz1 hz2 rfl (by decide) _ L.length (thCells len L) rfl (World.ownsRow.alloc HO2.out _) ⟨wc.heap.size, 0, none⟩ 1 1 [.int .i64 x.n, .bool x.b, .slice x.a len x.c] rfl rfl ?c1 ?c2 ?c3 ?c4 ?c5 ?_)
            case c1 => exact World.news_of_block (cs := #[.int .i64 x.n, .bool x.b, .slice x.a len x.c]) (t := 98) (fr := (0, 0)) (heap_alloc_new wc _)
            case c2 => simp [Value.oneCell']
            case c3 => unfold maxLen; omega
            case c4 => omega
            case c5 => simp; omega
            intro v' w1 hown1 hgrow _
            have HN := Lib.hid (OwnT.pushed HB2.out HO2.out hown1 hgrow)
            clear hown1 hgrow e0 e1 e2
            go_wp2
            go_roundw
            case rel => exact ⟨i, k + 1, L ++ [x], hi, by omega, rfl, by go_num, by have := HLL.out; simp; omega, by rw [HX.out]; exact HNX.out, HN.out.1, HN.out.2⟩
            case measure => simp [intOf]; omega
        · have hin : i < n := by have := HCL.out; omega
          have din : decide (i < n) = true := by simpa using hin
          go_upto_region 5 with (fail)
          go_cut [40] (fun v wx => v = .bool false ∧ But [] w wx ∧ OwnT wx w.heap.size len u5 L)
          case first =>
            obtain ⟨g2, o2, rfl, hg2, p0, _, _⟩ := HC.out.at hin
            have q0 := HB.out.cell p0 (by simp)
            generalize C[i].n = X at *
            generalize P[k].n = Y at *
            have i0' : (0 : Int) ≤ (i : Int) := by omega
            have i1' : (i : Int) < (n : Int) := by omega
            have dxy : decide (X ≤ Y) = false := by simpa using h3
            clear hnext hN c0 c1 c2 p0
            go_quiet (fail)
            go_wp2
            go_meet
            exact ⟨rfl, HB.out.drewN _, HO.out.but ((But.refl [] wr).drewN _)⟩
          case rest =>
            obtain ⟨rfl, hB2, hO2⟩ := hcut
            clear e0 e1 e2 hnext hN
            have e0 := hB2.cell c0 (by simp)
            have e1 := hB2.cell c1 (by simp)
            have e2 := hB2.cell c2 (by simp)
            obtain ⟨x, hx⟩ : ∃ x, x = P[k]'(by have := HPL.out; omega) := ⟨_, rfl⟩
            rw [← hx] at e0 e1 e2
            have HX := Lib.hid hx
            have HO2 := Lib.hid hO2
            have HB2 := Lib.hid hB2
            have hsz2 := hB2.size
            clear hx hO2 hB2 c0 c1 c2
            go_wp2_with (at_builtin; refine wpList_append_own _ rfl _ _ 96 rfl w.heap.size 98 i0 (.agg #[.int .i64 0, .bool false, .slice none 0 0]) 3 40 Tryd.underlying96 hi0 hz0 hz1 hz2 rfl (by decide) _ L.length (thCells len L) rfl (World.ownsRow.alloc HO2.out _) ⟨wc.heap.size, 0, none⟩ 1 1 [.int .i64 x.n, .bool x.b, .slice x.a len x.c] rfl rfl ?c1 ?c2 ?c3 ?c4 ?c5 ?_)
            case c1 => exact World.news_of_block (cs := #[.int .i64 x.n, .bool x.b, .slice x.a len x.c]) (t := 98) (fr := (0, 0)) (heap_alloc_new wc _)
            case c2 => simp [Value.oneCell']
            case c3 => unfold maxLen; omega
            case c4 => omega
            case c5 => simp; omega
            intro v' w1 hown1 hgrow _
            have HN := Lib.hid (OwnT.pushed HB2.out HO2.out hown1 hgrow)
            clear hown1 hgrow e0 e1 e2
            go_wp2
            go_roundw
            case rel => exact ⟨i, k + 1, L ++ [x], hi, by omega, rfl, by go_num, by have := HLL.out; simp; omega, by rw [HX.out]; exact HNX.out, HN.out.1, HN.out.2⟩
            case measure => simp [intOf]; omega
end Go.Proofs.YtjeeiodpdfbgmaaDoor
namespace Go.Proofs.YtjeeiodpdfbgmaaDoor
set_option maxRecDepth 100000
open Go Go.RowKit
theorem count_range {l : List Int} (h : okCounts l = true) (i : Nat) : 0 ≤ l.getD i 0 ∧ l.getD i 0 ≤ 1000000000 := by
  rw [List.getD_eq_getElem?_getD]
  by_cases hi : i < l.length
  · rw [List.getElem?_eq_getElem hi]
    have := List.all_eq_true.1 h _ (List.getElem_mem hi)
    simpa [okCount] using this
  · rw [List.getElem?_eq_none (by omega)]; simp
theorem getD_in {l : List Int} {n : Nat} (h : n < l.length) : l.getD n 0 = l[n] := by rw [List.getD_eq_getElem?_getD, List.getElem?_eq_getElem h]; rfl
theorem wrap_small (x : Int) (h0 : 0 ≤ x) (h1 : x ≤ 100000000000000) : IntKind.i64.wrap x = x := IntWalk.i64_in _ (by omega)

end Go.Proofs.YtjeeiodpdfbgmaaDoor
