/- Several texts in one: InfM, InfS, InfV, ZlM, ZlC (what Back reach of them). -/
import Derived.Test.YtghegmbafbpnjaaDoorPm01
import Derived.Test.YtghegmbafbpnjaaDoorPm02
import Derived.Test.YtghegmbafbpnjaaDoorPm03
import Derived.Test.YtghegmbafbpnjaaDoorPm04
import Derived.Test.YtghegmbafbpnjaaDoorPm05
import Derived.Test.YtghegmbafbpnjaaDoorPm06
import Derived.Test.YtghegmbafbpnjaaDoorPm07
import Derived.Test.YtghegmbafbpnjaaDoorPm08
import Derived.Test.YtghegmbafbpnjaaDoorPm09
import Derived.Test.YtghegmbafbpnjaaDoorPm10
import Derived.Test.YtghegmbafbpnjaaDoorPm11
import Derived.Test.YtghegmbafbpnjaaDoorPm12
import Derived.Test.YtghegmbafbpnjaaDoorPm13
import Derived.Test.YtghegmbafbpnjaaDoorPm14
import Derived.Test.YtghegmbafbpnjaaDoorPm15
import Derived.Test.YtghegmbafbpnjaaDoorPm16
import Derived.Test.YtghegmbafbpnjaaDoorPm19
import Derived.Test.YtghegmbafbpnjaaDoorPm20
import Derived.Test.YtghegmbafbpnjaaDoorPm21
import Derived.Below
import Derived.BigQuiet
import Derived.BigRegion
import Derived.Deep.AppendLies
import Derived.Deep.CutBlock
import Derived.Deep.CutRange
import Derived.Deep.DeepCutAuto
import Derived.Deep.Draws
import Derived.Deep.LoopGhost
import Derived.Deep.QuietTactic
import Derived.Deep.RegionLaw
import Derived.Deep.RegionWith
import Derived.Deep.Slices
import Derived.Handy
import Derived.Laws.BitsAllLaws
import Derived.Laws.BitsLemmas
import Derived.Laws.CopyOwn
import Derived.Laws.IdiomStrings
import Derived.Laws.OwnMore
import Derived.Laws.Rows
import Derived.Laws.Strings2
import Derived.Laws.Strings3
import Derived.Laws.StructEq
import Derived.Lib.AppendStr
import Derived.Lib.AppendZeros
import Derived.Lib.Hide
import Derived.Lib.Strings
import Derived.LoopIn
import Derived.LoopNIn
import Derived.OneCell
import Derived.OpenShut
import Derived.Outline
import Derived.OwnWalk
import Derived.OwnWalkIn
import Derived.ProofKit
import Derived.RangeFuncBound
import Derived.RangeFuncCalls
import Derived.RangeFuncLeaves
import Derived.RangeFuncNested
import Derived.RegionTactic
import Derived.ScopeJumps
import Derived.Shelf.Abstract
import Derived.Shelf.RegionOpen
import Derived.Shelf.SlSortCmp.QuietGrown
import Derived.StillTailTactics
import Derived.TacticsInMore
import Derived.Test.YtghegmbafbpnjaaDoorChecked
import Derived.WalkKit
import Derived.WalkLawsBesides
import Derived.WalkMore
import Derived.WalkSpells
set_option maxRecDepth 100000
set_option linter.unusedVariables false
namespace Go.Proofs.YtghegmbafbpnjaaDoor
set_option maxRecDepth 100000
section
variable {α β : Type}
end
theorem rBits_stable (n : Nat) : Stable (rBits n) := by
  intro s s' p r hp h hr
  unfold rBits at h ⊢
  by_cases he : bitsErr s p n = 3
  · rw [if_pos (by rw [he]; decide), he] at h; exact absurd h.symm hr
  · obtain ⟨h1, h2, h3⟩ := bits_pre hp he
    rw [h1, h2, h3]; exact h
theorem rBytes_stable (n : Nat) : Stable (rBytes n) := by
  intro s s' p r hp h hr
  unfold rBytes at h ⊢
  by_cases he : bytesErr s p n = 3
  · rw [if_pos (by rw [he]; decide), he] at h; exact absurd h.symm hr
  · obtain ⟨h1, h2, h3⟩ := bytes_pre hp he
    rw [h1, h2, h3]; exact h
theorem nextG_pre {s s' : ByteArray} (hp : Pre s s') (l : List Int) : ∀ f n c p, (nextG l s f n c p).2.1 ≠ 3 → nextG l s' f n c p = nextG l s f n c p
  | 0, _, _, _, _ => rfl
  | f + 1, n, c, p, h => by
    rw [nextG_succ] at h ⊢
    rw [nextG_succ]
    by_cases he : bitsErr s p 1 = 3
    · rw [if_pos (by rw [he]; decide), he] at h; exact absurd rfl h
    · obtain ⟨h1, h2, h3⟩ := bits_pre hp he
      rw [h1, h2, h3]
      by_cases h0 : bitsErr s p 1 ≠ 0
      · rw [if_pos h0, if_pos h0]
      · rw [if_neg h0] at h ⊢
        rw [if_neg h0]
        cases e : findS l n (2 * c + bitsVal s p 1) with
        | some i => rfl
        | none =>
          rw [e] at h
          exact nextG_pre hp l f (n + 1) _ _ h
theorem rNext_stable (l : List Int) : Stable (rNext l) := by
  intro s s' p r hp h hr
  unfold rNext at h ⊢
  by_cases he : (nextS l s p).2.1 = 3
  · rw [if_pos (by rw [he]; decide), he] at h; exact absurd h.symm hr
  · have e : nextS l s' p = nextS l s p := nextG_pre hp l _ _ _ _ he
    rw [e]; exact h
end Go.Proofs.YtghegmbafbpnjaaDoor
set_option linter.unusedVariables false
namespace Go.Proofs.YtghegmbafbpnjaaDoor
set_option maxRecDepth 100000
section
variable {α β : Type}
theorem Stable.under {m : Rd α} (h : Stable m) : Under m m := h
end
theorem symG_under (l d : List Int) (most : Int) : ∀ f f' out, f ≤ f' → Under (symG l d most f out) (symG l d most f' out)
  | 0, _, _, _ => Under.none _
  | f + 1, f' + 1, out, h => by
    refine Under.bind (rNext_stable l).under fun t => Under.ite (Stable.pure _) (Under.ite (Under.when (symG_under l d most f f' _ (by omega))) (Under.when ?_))
    exact Under.bind (rBits_stable _).under fun x => Under.bind (rNext_stable d).under fun u => Under.when (Under.bind (rBits_stable _).under fun y => Under.when (Under.when (symG_under l d most f f' _ (by omega))))
theorem lenG_under (small : List Int) (total : Nat) : ∀ f f' acc, f ≤ f' → Under (lenG small total f acc) (lenG small total f' acc)
  | 0, _, _, _ => Under.none _
  | f + 1, f' + 1, acc, h => by
    refine Under.ite (Stable.pure _) (Under.bind (rNext_stable small).under fun t => Under.ite (lenG_under small total f f' _ (by omega)) (Under.ite (Under.when ?_) (Under.ite ?_ ?_)))
    all_goals exact Under.bind (rBits_stable _).under fun x => Under.when (lenG_under small total f f' _ (by omega))
theorem smallG_stable : ∀ (ks : List Nat) (a : List Int), Stable (smallG ks a)
  | [], a => Stable.pure a
  | k :: ks, a => Stable.bind (rBits_stable 3) fun v => smallG_stable ks _
theorem storedR_stable (most : Int) (out : List UInt8) : Stable (storedR most out) :=
  Stable.bind (rBytes_stable 2) fun a => Stable.bind (rBytes_stable 2) fun b => Stable.when (Stable.bind (rBytes_stable _) fun x => Stable.when (Stable.pure _))
theorem blockR_under (most : Int) {F F' : Nat} (h : F ≤ F') (kind : Nat) (out : List UInt8) : Under (blockR most F kind out) (blockR most F' kind out) := by
  unfold blockR
  refine Under.ite (storedR_stable most out).under (Under.ite (Under.when (Under.when (symG_under _ _ _ _ _ _ h))) (Under.ite ?_ (Stable.fail 13)))
  exact Under.bind (rBits_stable 5).under fun a => Under.bind (rBits_stable 5).under fun b => Under.bind (rBits_stable 4).under fun c => Under.bind (smallG_stable _ _).under fun small =>
    Under.when (Under.bind (lenG_under _ _ _ _ _ h) fun ls => Under.when (Under.when (symG_under _ _ _ _ _ _ h)))
theorem blkG_under (most : Int) {F F' : Nat} (hF : F ≤ F') : ∀ f f' out, f ≤ f' → Under (blkG most F f out) (blkG most F' f' out)
  | 0, _, _, _ => Under.none _
  | f + 1, f' + 1, out, h =>
    Under.bind (rBits_stable 1).under fun last => Under.bind (rBits_stable 2).under fun kind => Under.bind (blockR_under most hF kind out) fun out' => Under.ite (Stable.pure _) (blkG_under most hF f f' out' (by omega))
/-- What stands behind a stream makes no difference. -/
theorem infl_front {s s' : ByteArray} (h : Pre s s') (most : Int) (he : inflS s most ≠ .error 3) : inflS s' most = inflS s most :=
  blkG_under most (by have := h.size; omega) _ _ _ (by have := h.size; omega) s s' 0 _ h rfl he

/-- A stream that is cut off is told to end too early. -/
theorem infl_cut {s s1 : ByteArray} {most : Int} {a : List UInt8} {q : Nat} (h : inflS s most = .ok (a, q)) (hp : Pre s1 s) (hk : s1.size < (q + 7) / 8) : inflS s1 most = .error 3 := by
  apply Classical.byContradiction; intro hc
  have := infl_front hp most hc
  rw [h] at this
  have := infl_within this.symm
  omega

section
variable {α : Type} {most : Int} {out : List UInt8}
end
end Go.Proofs.YtghegmbafbpnjaaDoor
set_option linter.unusedVariables false
namespace Go.Proofs.YtghegmbafbpnjaaDoor
set_option maxRecDepth 100000
section
variable {α β : Type}
end
section
variable {s s' s1 : ByteArray} {most M : Int}
theorem inflT_cut (h : (inflT s most).2.2 = 0) (hp : Pre s1 s) (hk : s1.size < (inflT s most).2.1) : (inflT s1 most).2.2 = 3 := by
  rcases infl_open s most with ⟨a, q, h1, e⟩ | ⟨x, hx, _, e⟩
  · rw [e] at hk
    rw [inflT_err (infl_cut h1 hp hk)]
  · rw [e] at h; exact absurd h hx
end
end Go.Proofs.YtghegmbafbpnjaaDoor
set_option linter.unusedVariables false
namespace Go.Proofs.YtghegmbafbpnjaaDoor
set_option maxRecDepth 100000
/-- A stream that is cut off ends too early. -/
theorem unz_cut {l : List UInt8} (h : l.length ≤ 65535) {F : List UInt8} (hF : F.length ≤ 4) {n : Nat} (hn : n < (zipL l F).size) : unzT (strL ((zipL l F).data.toList.take n)) (l.length : Nat) = ([], 3) := by
  have hs := zipL_size l F
  have hl : (zipL l F).data.toList = 120 :: 1 :: ((bestX l).data.toList ++ F) := by unfold zipL; rw [strL_list]
  have hbl : (bestX l).data.toList.length = (bestX l).size := by rw [Array.length_toList]; rfl
  rw [hl]
  by_cases h2 : n < 2
  · unfold unzT
    rw [if_pos (by rw [strL_size, List.length_take]; omega)]
  · obtain ⟨m, rfl⟩ : ∃ m, n = m + 2 := ⟨n - 2, by omega⟩
    have ht : (120 :: 1 :: ((bestX l).data.toList ++ F)).take (m + 2) = 120 :: 1 :: (((bestX l).data.toList ++ F).take m) := rfl
    rw [ht]
    by_cases hm : m < (bestX l).size
    · have hb := best_behind h F
      have hcut := inflT_cut (s := strL ((bestX l).data.toList ++ F)) (s1 := strL (((bestX l).data.toList ++ F).take m)) (most := (l.length : Nat)) (by rw [hb])
        (by unfold Pre; rw [strL_list, strL_list]; exact List.take_prefix _ _) (by rw [hb, strL_size, List.length_take]; dsimp only; omega)
      unfold unzT
      rw [strL_list, strL_size]
      have hd2 : (120 :: 1 :: (((bestX l).data.toList ++ F).take m)).drop 2 = ((bestX l).data.toList ++ F).take m := rfl
      rw [hd2, hcut]
      rw [if_neg (by simp), if_neg (head_ok _), if_pos (by decide)]
    · have he : ((bestX l).data.toList ++ F).take m = (bestX l).data.toList ++ F.take (m - (bestX l).size) := by
        rw [List.take_append, List.take_of_length_le (by omega), hbl]
      have hz := unz_zip h (F.take (m - (bestX l).size))
      unfold zipL at hz
      rw [he, hz, if_pos (by rw [List.length_take]; omega)]
theorem unz_back {l : List UInt8} (h : l.length ≤ 65535) : unzT (wrapT l) (l.length : Nat) = (l, 0) := by
  unfold wrapT
  rw [unz_zip h, if_neg (by rw [fourL_length]; omega), List.take_of_length_le (by rw [fourL_length]; exact Nat.le_refl _), if_neg (by rw [ofL_four (adSum_lt l)]; simp), if_neg (by rw [fourL_length]; omega)]
/-- Bytes behind a stream. -/
theorem unz_more {l : List UInt8} (h : l.length ≤ 65535) (x : UInt8) : unzT (zipL l (fourL (adSum l) ++ [x])) (l.length : Nat) = ([], 4) := by
  rw [unz_zip h, if_neg (by rw [List.length_append, fourL_length]; simp), List.take_append_of_le_length (by rw [fourL_length]; exact Nat.le_refl _),
    List.take_of_length_le (by rw [fourL_length]; exact Nat.le_refl _), if_neg (by rw [ofL_four (adSum_lt l)]; simp), if_pos (by rw [List.length_append, fourL_length]; simp)]
end Go.Proofs.YtghegmbafbpnjaaDoor
set_option maxRecDepth 100000
set_option linter.unusedVariables false
namespace Go.Proofs.YtghegmbafbpnjaaDoor
set_option maxRecDepth 100000
open Go Go.RowKit
attribute [local irreducible] bestX wrapT unzT strL fourL adSum textX storX fixedX dynL
theorem mod_placeZ (c : Int) {n : Nat} (hn : 0 < n) (hn2 : n ≤ 20000) : ∃ k : Nat, k < n ∧ (wrap64 (c.tmod (n : Int) + (n : Int))).tmod (n : Int) = (k : Int) := by
  have h1 := Int.tmod_lt_of_pos c (show (0 : Int) < (n : Int) by omega)
  have h2 := Int.tmod_lt_of_pos (-c) (show (0 : Int) < (n : Int) by omega)
  rw [Int.neg_tmod] at h2
  have e : wrap64 (c.tmod (n : Int) + (n : Int)) = c.tmod (n : Int) + (n : Int) := IntWalk.wrap64_in _ ⟨by omega, by omega⟩
  rw [e]
  have h3 := Int.tmod_lt_of_pos (c.tmod (n : Int) + (n : Int)) (show (0 : Int) < (n : Int) by omega)
  have h4 := Int.tmod_nonneg (n : Int) (show 0 ≤ c.tmod (n : Int) + (n : Int) by omega)
  exact ⟨((c.tmod (n : Int) + (n : Int)).tmod (n : Int)).toNat, by omega, by omega⟩
theorem conv_oneZ (W : World) (a : UInt8) :
    (convert 27 9 (.slice (some ⟨W.heap.size, 0, none⟩) 1 1)).run Tryd.prog (W.alloc (.cells #[.int .u8 a.toNat] 5)) = .ok (.string (strL [a])) (W.alloc (.cells #[.int .u8 a.toNat] 5)) := by
  refine conv_atZ (L := [a]) (cap := 1) fun j hj => ?_
  rw [World.cell?_alloc_mark]
  match j, hj with
  | 0, _ => rfl
theorem tellU_ok (l : List UInt8) : tellU (l, 0) = .returned (.tuple #[.string (strL l), .int .i64 0]) := rfl
set_option maxHeartbeats 1000000 in
theorem zlibBack_walk {s : ByteArray} {c x : Int} {w : World} (hs : s.size ≤ 140737488351232) (_hc : (Lit.int .i64 c).wf = true) (hx : (Lit.int .u8 x).wf = true) (hG : GL w ∧ GD w) :
    Calls Tryd.prog 3 #[.string s, .int .i64 c, .int .u8 x] w fun e w' => e = .returned (.bool true) ∧ Below w.heap.size w w' := by
  obtain ⟨hL, hD⟩ := hG
  have HA := Lib.hid (fun v hl hd => awake6_any v hl hd)
  by_cases h1 : 10000 < s.size
  · have d : decide ((10000 : Int) < (s.size : Int)) = true := by simp; omega
    have HL := Lib.hid hL
    have HD := Lib.hid hD
    clear hL hD h1
    go_enter Tryd.func3, Tryd.ntmps3
    go_wp2_with fail
    refine (HA.out _ HL.out HD.out).mono ?_
    rintro e w1 ⟨rfl, hB⟩
    have HB1 := Lib.hid hB
    clear hB
    go_wp2
    go_ret
    exact ⟨rfl, HB1.out.belowZ⟩
  · have d : decide ((10000 : Int) < (s.size : Int)) = false := by simp; omega
    obtain ⟨a, rfl⟩ := u8_of hx
    have hlen := len_data s
    have H1 := Lib.hid (fun v h => pwrap_any v h (s := s) (by omega))
    have hsz := wrapT_size s.data.toList
    have hb1 := best_least (l := s.data.toList) (by omega)
    have hb2 := bestZ_size (l := s.data.toList) (by omega)
    have hbk := unz_back (l := s.data.toList) (by omega)
    have hmr := unz_more (l := s.data.toList) (by omega) a
    have hct := fun n (hn : n < (wrapT s.data.toList).size) => unz_cut (l := s.data.toList) (by omega) (F := fourL (adSum s.data.toList)) (by rw [fourL_length]; omega) (n := n) (by rw [show zipL s.data.toList (fourL (adSum s.data.toList)) = wrapT s.data.toList by unfold wrapT; rfl]; exact hn)
    rw [show zipL s.data.toList (fourL (adSum s.data.toList)) = wrapT s.data.toList by unfold wrapT; rfl] at hct
    have hap : zipL s.data.toList (fourL (adSum s.data.toList) ++ [a]) = wrapT s.data.toList ++ strL [a] := by
      unfold wrapT zipL
      rw [← strL_append]
      simp
    rw [hap] at hmr
    rw [hlen] at hbk hmr
    simp only [hlen] at hct
    obtain ⟨T, hT⟩ : ∃ T, T = wrapT s.data.toList := ⟨_, rfl⟩
    rw [← hT] at hsz hbk hmr
    simp only [← hT] at hct H1
    have h8 : 8 ≤ T.size := by omega
    have h2 : T.size ≤ 20000 := by omega
    obtain ⟨k, hk, hke⟩ := mod_placeZ c (show 0 < T.size by omega) h2
    have hct := hct k hk
    have ho : (strL [a]).size = 1 := by rw [strL_size]; rfl
    have hu1 := fun v h => punwrap_any v h (s := T) (M := (s.size : Nat)) (by omega) (by omega)
    have hu2 := fun v h => punwrap_any v h (s := T ++ strL [a]) (M := (s.size : Nat)) (by rw [ByteArray.size_append, ho]; omega) (by omega)
    have hex : T.extract 0 k = strL (T.data.toList.take k) := by rw [ext_list, List.drop_zero]
    have hu3 := fun v h => punwrap_any v h (s := strL (T.data.toList.take k)) (M := (s.size : Nat)) (by rw [strL_size, List.length_take]; omega) (by omega)
    rw [hbk, tellU_ok, strL_of] at hu1
    rw [hmr, tellU_bad] at hu2
    rw [hct, tellU_bad] at hu3
    rw [← hex] at hu3
    have HU1 := Lib.hid hu1
    have HU2 := Lib.hid hu2
    have HU3 := Lib.hid hu3
    have kc := fun W : World => conv_oneZ W a
    have kd : (9223372036854775807 < T.size + 1) = False := by simp; omega
    have d8 : decide ((T.size : Int) < 8) = false := by simp; omega
    have HL := Lib.hid hL
    have HD := Lib.hid hD
    clear hL hD hx hlen hsz hb1 hb2 hbk hmr hct hap hT hu1 hu2 hu3 hex h1
    go_enter Tryd.func3, Tryd.ntmps3
    go_wp2_with fail
    refine (H1.out _ HD.out).mono ?_
    rintro e w1 ⟨rfl, hB⟩
    have HB1 := Lib.hid hB
    clear hB
    go_wp2_with fail
    refine (HU1.out _ (HL.out.but HB1.out)).mono ?_
    rintro e w2 ⟨rfl, hB⟩
    have HB2 := Lib.hid ((HB1.out.trans hB).alloc (.cells #[.int .u8 a.toNat] 5))
    clear hB HB1
    go_wp2_with fail
    refine (HU2.out _ (HL.out.but HB2.out)).mono ?_
    rintro e w3 ⟨rfl, hB⟩
    have HB3 := Lib.hid (HB2.out.trans hB)
    clear hB HB2
    go_wp2_with fail
    refine (HU3.out _ (HL.out.but HB3.out)).mono ?_
    rintro e w4 ⟨rfl, hB⟩
    have HB4 := Lib.hid (HB3.out.trans hB)
    clear hB HB3
    go_wp2_with (go_at_call 6; refine (HA.out _ (HL.out.but HB4.out) (HD.out.but HB4.out)).mono ?_; rintro e w5 ⟨rfl, hB⟩; have HB5 := Lib.hid (HB4.out.trans hB); clear hB)
    go_ret
    exact ⟨rfl, HB5.out.belowZ⟩
end Go.Proofs.YtghegmbafbpnjaaDoor
