/- Several texts in one: CodesW, Pm, Kraft (what Unwraps, Wraps reach of them). -/
import Derived.Test.YtghegmbafbpnjaaGreatDoorPm01
import Derived.Test.YtghegmbafbpnjaaGreatDoorPm02
import Derived.Test.YtghegmbafbpnjaaGreatDoorPm03
import Derived.Below
import Derived.BigQuiet
import Derived.BigRegion
import Derived.Deep.AppendLies
import Derived.Deep.CutRange
import Derived.Deep.DeepCutAuto
import Derived.Deep.Draws
import Derived.Deep.QuietTactic
import Derived.Deep.RegionLaw
import Derived.Deep.Slices
import Derived.Laws.BitsAllLaws
import Derived.Laws.BitsLemmas
import Derived.Laws.IdiomStrings
import Derived.Laws.OwnMore
import Derived.Laws.Rows
import Derived.Lib.AppendStr
import Derived.Lib.Hide
import Derived.Lib.Strings
import Derived.OneCell
import Derived.OpenShut
import Derived.Outline
import Derived.OwnWalk
import Derived.ProofKit
import Derived.RegionTactic
import Derived.StillTailTactics
import Derived.Test.YtghegmbafbpnjaaGreatDoorChecked
import Derived.WalkKit
import Derived.WalkLawsBesides
import Derived.WalkSpells
set_option maxRecDepth 100000
set_option linter.unusedVariables false
namespace Go.Proofs.YtghegmbafbpnjaaGreatDoor
set_option maxRecDepth 100000
open Go Go.RowKit
theorem made_ints (n : Nat) : (madeCells (Value.int .i64 0).cells (n * 1)).toList = (List.replicate n (0 : Int)).map (.int .i64) := by
  have e : (Value.int .i64 0).cells = #[.int .i64 0] := rfl
  rw [e, toList_madeCells_one, Nat.mul_one, List.map_replicate]
theorem OwnI.made {w1 : World} {base n : Nat} {v : Value} (h : w1.ownsRow base 3 1 v n (madeCells (Value.int .i64 0).cells (n * 1)).toList) : OwnI w1 base v (List.replicate n 0) := by
  rw [made_ints] at h; unfold OwnI; rw [List.length_replicate]; exact h
theorem OwnI.len {w : World} {base n c : Nat} {a : Addr} {l : List Int} (h : OwnI w base (.slice (some a) n c) l) : n = l.length := by
  unfold OwnI at h
  rcases h.2 with ⟨e, _⟩ | ⟨g, cap, cur, e, _⟩
  · cases e
  · injection e
theorem OwnI.set {w : World} {base g n c : Nat} {l : List Int} (h : OwnI w base (.slice (some ⟨g, 0, none⟩) n c) l) (j : Nat) (x : Int) :
    OwnI (w.setCell ⟨g, j, none⟩ (.int .i64 x)) base (.slice (some ⟨g, 0, none⟩) n c) (l.set j x) := by
  obtain rfl := h.len
  unfold OwnI at h ⊢
  have hs := (h.stored j (.int .i64 x)).1
  rw [List.length_set, List.map_set]; exact hs
theorem OwnI.cell {w : World} {base g n c : Nat} {l : List Int} (h : OwnI w base (.slice (some ⟨g, 0, none⟩) n c) l) {j : Nat} (hj : j < l.length) :
    w.cell? ⟨g, j, none⟩ = some (.int .i64 l[j]) := by
  have hc := World.ownsRow.cells h (g := g) rfl j (.int .i64 l[j]) (by simp [hj])
  rw [Go.WideShapes.add_plain, Nat.zero_add] at hc
  exact hc
theorem OwnI.free {w : World} {base g n c : Nat} {l : List Int} (h : OwnI w base (.slice (some ⟨g, 0, none⟩) n c) l) (j : Nat) : w.frozen? ⟨g, j, none⟩ = false := by
  obtain rfl := h.len
  exact World.ownsRow.frozenAt h _

theorem OwnI.ints {w : World} {base g c n : Nat} {l : List Int} (h : OwnI w base (.slice (some ⟨g, 0, none⟩) n c) l) : Ints w (some ⟨g, 0, none⟩) n l := by
  obtain rfl := h.len
  exact ⟨rfl, fun _ => ⟨g, 0, rfl, (World.ownsRow.lt h g rfl).2, fun i hi => by rw [Nat.zero_add]; exact h.cell hi⟩⟩

theorem cds_zero (l : List Int) : cds l [] = List.replicate l.length 0 := rfl

set_option maxRecDepth 100000 in
set_option maxHeartbeats 200000 in
theorem codesOf_any {w : World} {A B : Option Addr} {len cap m cap2 : Nat} {l : List Int} (hl : Ints w A len l) (ho : Ints w B m ((ord l).map fun s : Nat => (s : Int))) (h288 : len ≤ 288) (hk : ksum l ≤ 32768) :
    Calls Tryz.prog 101 #[.slice A len cap, .slice B m cap2] w fun e w' => e = .returned (.slice (some ⟨w.heap.size, 0, none⟩) len len) ∧ OwnI w' w.heap.size (.slice (some ⟨w.heap.size, 0, none⟩) len len) (codes l) ∧ But [] w w' := by
  obtain ⟨i0, hi0, hz0, hz1, hz2⟩ := info_parts info_int
  have hlen := hl.1
  have hom := ho.1
  rw [List.length_map] at hom
  have hm288 : m ≤ 288 := by
    have := sum_le_of_nodup (fun _ => 1) len (ord l) (nodup_ordTo l 15) (fun s hs => by have := (ord_len hs).1; omega)
    simp only [List.map_const', List.sum_replicate_nat, List.length_range, Nat.mul_one] at this
    omega
  go_enter Tryz.func101, Tryz.ntmps101
  go_wp2_with (at_make; refine wpList_make_full _ rfl _ _ 58 rfl w.heap.size 3 i0 _ 1 Tryz.underlying58 hi0 hz0 hz1 _ _ _ _ len rfl rfl (by omega) (by omega) (by rw [hz2]; omega) (by unfold maxLen; omega) (by simp) ?_; intro w1 hown hgrow)
  have hO1 := OwnI.made hown
  have hB1 : But [] w w1 := (But.refl [] w).grown hgrow (by simp)
  clear hown hgrow
  go_loopw [6, 7, 15] (fun nx la i wr => ∃ j : Nat, j ≤ m ∧ i = .int .i64 j ∧ nx = .int .i64 (kp l ((ord l).take j) / 2 ^ (15 - was l ((ord l).take j)) : Nat) ∧ la = .int .i64 (was l ((ord l).take j)) ∧
    OwnI wr w.heap.size (.slice (some ⟨w.heap.size, 0, none⟩) len len) (cds l ((ord l).take j)) ∧ But [] w wr) (fun _ _ i _ => m - (intOf i).toNat)
  case atStart => exact ⟨0, Nat.zero_le _, rfl, by simp [kp, cst], rfl, by rw [List.take_zero, cds_zero, hlen]; exact hO1, hB1⟩
  case round =>
    obtain ⟨j, hj, rfl, rfl, rfl, hO, hB⟩ := hrel
    clear hO1 hB1
    by_cases hlt : j < m
    · have hsp : ord l = (ord l).take j ++ (ord l)[j]'(by omega) :: (ord l).drop (j + 1) := by
        rw [List.getElem_cons_drop, List.take_append_drop]
      have hts : (ord l).take (j + 1) = (ord l).take j ++ [(ord l)[j]'(by omega)] := List.take_succ_eq_append_getElem (by omega)
      obtain ⟨g, o, rfl, hg, hc⟩ := ho.at hlt
      replace hc := hB.cell hc (by simp)
      rw [List.getElem_map] at hc
      have hsl := ord_len (List.getElem_mem (show j < (ord l).length by omega))
      generalize (ord l)[j]'(by omega) = s at *
      obtain ⟨g2, o2, rfl, hg2, hc2⟩ := hl.at (show s < len by omega)
      replace hc2 := hB.cell hc2 (by simp)
      have hgd : l.getD s 0 = l[s]'(by omega) := by rw [List.getD_eq_getElem?_getD, List.getElem?_eq_getElem (by omega)]; rfl
      have h1 := next_len hsp
      have h2 := next_code hsp
      have h3 := next_more hsp
      have h4 := code_lt hsp hk
      have h5 := cds_snoc l ((ord l).take j) s
      have h6 := was_snoc l ((ord l).take j) s
      have hlc := length_cds l ((ord l).take j)
      rw [← hts] at h3 h5 h6
      clear hsp hts
      obtain ⟨n, hn⟩ : ∃ n, n = (l.getD s 0).toNat := ⟨_, rfl⟩
      have hln : l[s]'(by omega) = (n : Int) := by rw [← hgd]; omega
      rw [hln] at hc2
      rw [← hn] at h1 h2 h3 h4 h5 h6
      have hn15 : n ≤ 15 := by omega
      clear hln hgd
      have H3 := Lib.hid h3
      have H5 := Lib.hid h5
      have H6 := Lib.hid h6
      clear h3 h5 h6 hn
      generalize hW : was l ((ord l).take j) = W at *
      generalize hK : kp l ((ord l).take j) = K at *
      clear hW hK
      have hce := hO.cell (show s < (cds l ((ord l).take j)).length by omega)
      have hcf := hO.free s
      generalize (cds l ((ord l).take j))[s]'_ = cv at hce
      have hp15 : 2 ^ n ≤ 2 ^ 15 := Nat.pow_le_pow_right (by decide) hn15
      have hc15 : K / 2 ^ (15 - n) < 32768 := Nat.lt_of_lt_of_le h4 hp15
      obtain ⟨d, hd⟩ : ∃ d, d = n - W := ⟨_, rfl⟩
      have hd15 : d ≤ 15 := by omega
      have esub : IntKind.i64.wrap ((n : Int) - (W : Int)) = (d : Int) := by rw [IntKind.wrap_i64]; omega
      have esub2 : (n : Int) - (W : Int) = (d : Int) := by omega
      have d0 : 0 ≤ (n : Int) - (W : Int) := by omega
      rw [← hd] at h2
      generalize K / 2 ^ (15 - n) = c at *
      generalize K / 2 ^ (15 - W) = a at *
      have hsh : (a : Int) * 2 ^ d = (c : Int) := by rw [← h2]; simp
      have s0 : 0 ≤ (s : Int) := by omega
      have sl : (s : Int) < (len : Int) := by omega
      clear h2 hp15 h4 hd h1 hsl hk
      have HO := Lib.hid hO
      have HB := Lib.hid hB
      clear hO hB
      have hlen' : l.length ≤ 288 := by omega
      clear hlc hlen hom
      go_wp2
      go_roundw
      case rel =>
        refine ⟨j + 1, by omega, by go_num, by rw [H3.out]; go_num, by rw [H6.out], ?_, HB.out.setCell (.inr (Nat.le_refl _)) _⟩
        rw [H5.out]
        exact HO.out.set s _
      case measure => simp [intOf]; omega
    · obtain rfl : j = m := by omega
      rw [List.take_of_length_le (by omega)] at hO
      go_wp2
      go_ret
      exact ⟨rfl, hO, hB⟩

/-- The order lies in memory of its own. -/
theorem ordered_new {w : World} {A : Option Addr} {len cap : Nat} {l : List Int} (hl : Ints w A len l) (h288 : len ≤ 288) :
    Calls Tryz.prog 100 #[.slice A len cap] w fun e w' => ∃ B c, e = .returned (.slice B (ord l).length c) ∧ Ints w' B (ord l).length ((ord l).map fun s : Nat => (s : Int)) ∧ But [] w w' ∧ (∀ a, B = some a → w.heap.size ≤ a.block) := by
  refine (ordered_any hl h288).mono ?_
  rintro e w1 ⟨v, rfl, hO, hB⟩
  obtain ⟨B, c, rfl, hI, hb⟩ := hO.open
  rw [List.length_map] at hI ⊢
  exact ⟨B, c, rfl, hI, hB, fun a e => (World.ownsRow.lt hO _ (hb a e)).1⟩
def lastCode (l : List Int) (p : List Nat) : Nat := kp l p / 2 ^ (15 - was l p) - 1
theorem was_zero {l : List Int} {p r : List Nat} (h : ord l = p ++ r) (hw : was l p = 0) : p = [] := by
  unfold was at hw
  cases e : p.getLast? with
  | none => exact List.getLast?_eq_none_iff.1 e
  | some t =>
    rw [e] at hw
    have := ord_len (l := l) (s := t) (h ▸ List.mem_append_left r (List.mem_of_getLast? e))
    have hw : (l.getD t 0).toNat = 0 := hw
    omega
theorem lastCode_pos {l : List Int} {p r : List Nat} (h : ord l = p ++ r) (hw : was l p ≠ 0) : lastCode l p + 1 = kp l p / 2 ^ (15 - was l p) := by
  rcases List.eq_nil_or_concat p with e | ⟨q, s, e⟩
  · subst e; exact absurd rfl hw
  · rw [List.concat_eq_append] at e
    subst e
    rw [List.append_assoc, List.singleton_append] at h
    unfold lastCode
    rw [next_more h, Nat.add_sub_cancel]
theorem lastCode_snoc {l : List Int} {p r : List Nat} {s : Nat} (h : ord l = p ++ s :: r) : lastCode l (p ++ [s]) = kp l p / 2 ^ (15 - (l.getD s 0).toNat) := by
  unfold lastCode; rw [next_more h, Nat.add_sub_cancel]
theorem lastCode_lt {l : List Int} {p r : List Nat} (h : ord l = p ++ r) (hk : ksum l ≤ 32768) : lastCode l p < 32768 := by
  have h1 := kp_le h
  have h2 : kp l p / 2 ^ (15 - was l p) ≤ kp l p := Nat.div_le_self _ _
  unfold lastCode
  omega

set_option maxRecDepth 100000 in
set_option maxHeartbeats 1000000 in
theorem ref_codes {w : World} {A : Option Addr} {len cap : Nat} {l : List Int} (hl : Ints w A len l) (hm : len ≤ maxLen) (hc : chk l = 0) :
    Calls Tryz.prog 85 #[.slice A len cap] w fun e w' => e = .returned (.tuple #[.slice (some ⟨w.heap.size, 0, none⟩) len len, .int .i64 0]) ∧ OwnI w' w.heap.size (.slice (some ⟨w.heap.size, 0, none⟩) len len) (codes l) ∧ But [] w w' := by
  obtain ⟨i0, hi0, hz0, hz1, hz2⟩ := info_parts info_int
  obtain ⟨h1, h2, hk, h4⟩ := chk_zero hc
  have hlen := hl.1
  have h288 : len ≤ 288 := by omega
  have hck := ref_check (cap := cap) hl hm
  rw [hc] at hck
  have HC := Lib.hid hck
  clear hck h2 h4 h1 hc hm
  go_enter Tryz.func85, Tryz.ntmps85
  go_wp2_with fail
  refine HC.out.mono ?_
  rintro e w' ⟨rfl, rfl⟩
  go_wp2_with (at_make; refine wpList_make_full _ rfl _ _ 58 rfl w.heap.size 3 i0 _ 1 Tryz.underlying58 hi0 hz0 hz1 _ _ _ _ len rfl rfl (by omega) (by omega) (by rw [hz2]; omega) (by unfold maxLen; omega) (by simp) ?_; intro w1 hown hgrow)
  have hO1 := OwnI.made hown
  have hB1 : But [] w w1 := (But.refl [] w).grown hgrow (by simp)
  clear hown hgrow HC
  go_loopw [6, 7, 8] (fun cd la n wr => ∃ m : Nat, m ≤ 15 ∧ n = .int .i64 ((m : Int) + 1) ∧ cd = .int .i64 (lastCode l (ordTo l m)) ∧ la = .int .i64 (was l (ordTo l m)) ∧
    OwnI wr w.heap.size (.slice (some ⟨w.heap.size, 0, none⟩) len len) (cds l (ordTo l m)) ∧ But [] w wr) (fun _ _ n _ => 16 - (intOf n).toNat)
  case atStart => exact ⟨0, by omega, rfl, by simp [lastCode, kp, cst, ordTo], rfl, by rw [ordTo, cds_zero, hlen]; exact hO1, hB1⟩
  case round =>
    obtain ⟨m, hm, rfl, rfl, rfl, hO, hB⟩ := hrel
    clear hO1 hB1
    by_cases hlt : m < 15
    · obtain ⟨wo, rfl⟩ : ∃ wo : World, wo = wr := ⟨_, rfl⟩
      have t15 : decide ((m : Int) + 1 ≤ 15) = true := by simp; omega
      have HS := Lib.hid (show lastCode l (ordTo l m) = lastCode l (pre l m 0) ∧ was l (ordTo l m) = was l (pre l m 0) by rw [pre_zero]; exact ⟨rfl, rfl⟩)
      rw [← pre_zero] at hO
      go_wp2
      go_loopw [6, 7, 9] (fun cd la i wr => ∃ k : Nat, k ≤ len ∧ i = .int .i64 k ∧ cd = .int .i64 (lastCode l (pre l m k)) ∧ la = .int .i64 (was l (pre l m k)) ∧
        OwnI wr w.heap.size (.slice (some ⟨w.heap.size, 0, none⟩) len len) (cds l (pre l m k)) ∧ But [] w wr) (fun _ _ i _ => len - (intOf i).toNat)
      case atStart => exact ⟨0, Nat.zero_le _, rfl, by rw [HS.out.1], by rw [HS.out.2], hO, hB⟩
      case round =>
        clear hO hB HS
        obtain ⟨k, hk2, rfl, rfl, rfl, hO, hB⟩ := hrel
        by_cases hlt2 : k < len
        · obtain ⟨g, o, rfl, hg, hc⟩ := hl.at hlt2
          replace hc := hB.cell hc (by simp)
          have hgd : l.getD k 0 = l[k]'(by omega) := by rw [List.getD_eq_getElem?_getD, List.getElem?_eq_getElem (by omega)]; rfl
          have hps := pre_succ l m k
          obtain ⟨r, hr⟩ := pre_ord l m (k + 1) (by omega) hlt
          have hlc := length_cds l (pre l m k)
          rw [← hgd] at hc
          by_cases he : l.getD k 0 = ((m + 1 : Nat) : Int)
          · rw [if_pos he] at hps
            rw [hps, List.append_assoc, List.singleton_append] at hr
            have hce := hO.cell (show k < (cds l (pre l m k)).length by omega)
            have hcf := hO.free k
            generalize (cds l (pre l m k))[k]'_ = cv at hce
            have h1 := next_len hr
            have h2 := next_code hr
            have h5 := cds_snoc l (pre l m k) k
            have h6 := was_snoc l (pre l m k) k
            have h7 := lastCode_snoc hr
            have h8 := code_lt hr hk
            have h9 := lastCode_lt hr hk
            have h10 := lastCode_pos hr
            have h11 := was_zero hr
            have en : (l.getD k 0).toNat = m + 1 := by omega
            rw [← hps] at h5 h6 h7
            rw [en] at h1 h2 h5 h6 h7 h8
            rw [he] at hc
            have H5 := Lib.hid h5
            have H6 := Lib.hid h6
            have H7 := Lib.hid h7
            have HO := Lib.hid hO
            have HB := Lib.hid hB
            have hp15 : 2 ^ (m + 1) ≤ 2 ^ 15 := Nat.pow_le_pow_right (by decide) (by omega)
            have hc15 : kp l (pre l m k) / 2 ^ (15 - (m + 1)) < 32768 := Nat.lt_of_lt_of_le h8 hp15
            have h12 : was l (pre l m k) = 0 → lastCode l (pre l m k) = 0 ∧ kp l (pre l m k) / 2 ^ (15 - (m + 1)) = 0 := fun h => by
              have := h11 h
              rw [this]; simp [lastCode, kp, cst]
            clear h5 h6 h7 hO hB hps hr hgd he h8 h11 hp15 hlc hlen en
            generalize kp l (pre l m k) / 2 ^ (15 - (m + 1)) = c at *
            generalize lastCode l (pre l m k) = lc at *
            generalize was l (pre l m k) = W at *
            by_cases hW : W = 0
            · obtain ⟨rfl, rfl⟩ := h12 hW
              subst hW
              clear h10 h2 h12
              go_wp2
              go_roundw
              case rel => exact ⟨k + 1, by omega, by go_num, by rw [H7.out], by rw [H6.out]; go_num, by rw [H5.out]; exact HO.out.set k _, HB.out.setCell (.inr (Nat.le_refl _)) _⟩
              case measure => simp [intOf]; omega
            · have h13 := h10 hW
              rw [← h13] at h2
              obtain ⟨d, hd⟩ : ∃ d, d = m + 1 - W := ⟨_, rfl⟩
              rw [← hd] at h2
              have hsh : ((lc : Int) + 1) * 2 ^ d = (c : Int) := by rw [← h2]; simp
              have esub2 : (m : Int) + 1 - (W : Int) = (d : Int) := by omega
              have hd15 : d ≤ 15 := by omega
              have d0 : 0 < (W : Int) := by omega
              clear h10 h12 h13 h2 hd
              go_wp2
              go_roundw
              case rel => exact ⟨k + 1, by omega, by go_num, by rw [H7.out], by rw [H6.out]; go_num, by rw [H5.out]; exact HO.out.set k _, HB.out.setCell (.inr (Nat.le_refl _)) _⟩
              case measure => simp [intOf]; omega
          · rw [if_neg he] at hps
            have HPS := Lib.hid hps
            generalize l.getD k 0 = x at *
            have he2 : (x == (m : Int) + 1) = false := by simp; omega
            have he3 : (x != (m : Int) + 1) = true := by simp; omega
            clear hps he hgd hlc hr hlen
            generalize hlc2 : lastCode l (pre l m k) = lc at *
            generalize hW2 : was l (pre l m k) = W at *
            have HX := Lib.hid hlc2
            have HY := Lib.hid hW2
            clear hlc2 hW2
            go_wp2
            go_roundw
            case rel => exact ⟨k + 1, by omega, by go_num, by rw [HPS.out, HX.out], by rw [HPS.out, HY.out], by rw [HPS.out]; exact hO, hB⟩
            case measure => simp [intOf]; omega
        · obtain rfl : k = len := by omega
          have HE := Lib.hid (show pre l m k = ordTo l (m + 1) by rw [← hlen, pre_full])
          go_wp2
          go_roundw
          case rel => exact ⟨m + 1, by omega, by go_num, by rw [HE.out], by rw [HE.out], by rw [← HE.out]; exact hO, hB⟩
          case measure => simp [intOf]; omega
    · obtain rfl : m = 15 := by omega
      go_wp2
      go_ret2
      exact ⟨rfl, hO, hB⟩
end Go.Proofs.YtghegmbafbpnjaaGreatDoor
namespace Go.Proofs.YtghegmbafbpnjaaGreatDoor
set_option maxRecDepth 100000
/-- A coin laid among pairs, and what f makes of the pairs behind it. -/
def mrgIn (c : Nat) (f : List Nat → List (Nat × Bool)) : List Nat → List (Nat × Bool)
  | [] => (c, false) :: f []
  | p :: ps => if p < c then (p, true) :: mrgIn c f ps else (c, false) :: f (p :: ps)
/-- A row of coins and of pairs: weight, and whether it is a pair. Coins are ahead where the weights are equal. -/
def mrg : List Nat → List Nat → List (Nat × Bool)
  | [], ps => ps.map fun p => (p, true)
  | c :: cs, ps => mrgIn c (mrg cs) ps
/-- The weights of the pairs of a row. -/
def prs : List (Nat × Bool) → List Nat
  | a :: b :: l => (a.1 + b.1) :: prs l
  | _ => []
/-- Row number k, counted from 0. -/
def rowN (ws : List Nat) : Nat → List (Nat × Bool)
  | 0 => mrg ws []
  | k + 1 => mrg ws (prs (rowN ws k))
/-- How many coins are among items. -/
def coinsIn (l : List (Nat × Bool)) : Nat := (l.filter fun x => !x.2).length
/-- How many coins are among the first a items. -/
def tk (row : List (Nat × Bool)) (a : Nat) : Nat := coinsIn (row.take a)

theorem mrg_nil (ps : List Nat) : mrg [] ps = ps.map fun p => (p, true) := rfl
theorem mrg_none : ∀ cs : List Nat, mrg cs [] = cs.map fun p => (p, false)
  | [] => rfl
  | c :: cs => by show (c, false) :: mrg cs [] = _; rw [mrg_none cs]; rfl
theorem mrg_lt {c p : Nat} {cs ps : List Nat} (h : p < c) : mrg (c :: cs) (p :: ps) = (p, true) :: mrg (c :: cs) ps := by
  show mrgIn c (mrg cs) (p :: ps) = _; rw [mrgIn, if_pos h]; rfl
theorem mrg_ge {c p : Nat} {cs ps : List Nat} (h : ¬ p < c) : mrg (c :: cs) (p :: ps) = (c, false) :: mrg cs (p :: ps) := by
  show mrgIn c (mrg cs) (p :: ps) = _; rw [mrgIn, if_neg h]
theorem mrg_coin {c : Nat} {cs ps : List Nat} (h : ∀ p, ps.head? = some p → ¬ p < c) : mrg (c :: cs) ps = (c, false) :: mrg cs ps := by
  cases ps with
  | nil => simp [mrg_none]
  | cons p ps => exact mrg_ge (h p rfl)

/-- What a merge is, as a recursion to lean on. -/
theorem mrg_rec {P : List Nat → List Nat → Prop} (h1 : ∀ ps, P [] ps) (h2 : ∀ cs, P cs []) (h3 : ∀ c cs p ps, p < c → P (c :: cs) ps → P (c :: cs) (p :: ps)) (h4 : ∀ c cs p ps, ¬ p < c → P cs (p :: ps) → P (c :: cs) (p :: ps)) :
    ∀ cs ps, P cs ps := by
  intro cs ps
  induction h : cs.length + ps.length generalizing cs ps with
  | zero =>
    cases cs with
    | nil => exact h1 ps
    | cons c cs => simp at h
  | succ n ih =>
    cases cs with
    | nil => exact h1 ps
    | cons c cs =>
      cases ps with
      | nil => exact h2 _
      | cons p ps =>
        by_cases hp : p < c
        · exact h3 _ _ _ _ hp (ih _ _ (by simp at h ⊢; omega))
        · exact h4 _ _ _ _ hp (ih _ _ (by simp at h ⊢; omega))

theorem length_mrg (cs ps : List Nat) : (mrg cs ps).length = cs.length + ps.length := by
  induction cs, ps using mrg_rec with
  | h1 ps => simp [mrg_nil]
  | h2 cs => simp [mrg_none]
  | h3 c cs p ps h ih => rw [mrg_lt h]; simp at ih ⊢; omega
  | h4 c cs p ps h ih => rw [mrg_ge h]; simp at ih ⊢; omega
theorem length_prs : ∀ l : List (Nat × Bool), (prs l).length = l.length / 2
  | [] => rfl
  | [_] => by simp [prs]
  | a :: b :: l => by simp [prs, length_prs l]; omega
theorem tk_zero (row : List (Nat × Bool)) : tk row 0 = 0 := rfl
theorem tk_cons (x : Nat × Bool) (row : List (Nat × Bool)) (a : Nat) : tk (x :: row) (a + 1) = (if x.2 then 0 else 1) + tk row a := by
  unfold tk coinsIn; cases h : x.2 <;> simp [h]; omega
theorem tk_le (row : List (Nat × Bool)) (a : Nat) : tk row a ≤ a := by
  unfold tk coinsIn
  have := List.length_filter_le (fun x : Nat × Bool => !x.2) (row.take a)
  rw [List.length_take] at this; omega

/-- The first items of a merge: its first coins and its first pairs. -/
theorem mrg_first (cs ps : List Nat) : ∀ a, a ≤ cs.length + ps.length →
    tk (mrg cs ps) a ≤ cs.length ∧ a - tk (mrg cs ps) a ≤ ps.length ∧
    (∀ f : Nat → Nat, (((mrg cs ps).take a).map fun x => f x.1).sum = ((cs.take (tk (mrg cs ps) a)).map f).sum + ((ps.take (a - tk (mrg cs ps) a)).map f).sum) := by
  induction cs, ps using mrg_rec with
  | h1 ps =>
    intro a ha
    have h0 : tk (mrg [] ps) a = 0 := by
      unfold tk coinsIn; rw [mrg_nil, ← List.map_take, List.filter_map]; simp
    rw [h0, mrg_nil]
    refine ⟨Nat.zero_le _, by simp at ha ⊢; omega, fun f => ?_⟩
    rw [← List.map_take, List.map_map]; simp [Function.comp_def]
  | h2 cs =>
    intro a ha
    simp only [List.length_nil, Nat.add_zero] at ha
    have h0 : tk (mrg cs []) a = a := by
      unfold tk coinsIn; rw [mrg_none, ← List.map_take, List.filter_map, List.length_map]
      rw [List.filter_eq_self.2 (by simp), List.length_take]; omega
    rw [h0, mrg_none]
    refine ⟨ha, by omega, fun f => ?_⟩
    rw [← List.map_take, List.map_map]; simp [Function.comp_def]
  | h3 c cs p ps h ih =>
    intro a ha
    rw [mrg_lt h]
    cases a with
    | zero => simp [tk_zero]
    | succ a =>
      obtain ⟨i1, i2, i3⟩ := ih a (by simp at ha ⊢; omega)
      rw [tk_cons]
      simp only [if_true, Nat.zero_add]
      have hle := tk_le (mrg (c :: cs) ps) a
      have e : a + 1 - tk (mrg (c :: cs) ps) a = (a - tk (mrg (c :: cs) ps) a) + 1 := by omega
      rw [e]
      refine ⟨i1, by simp; omega, fun f => ?_⟩
      have := i3 f
      simp only [List.take_succ_cons, List.map_cons, List.sum_cons]
      omega
  | h4 c cs p ps h ih =>
    intro a ha
    rw [mrg_ge h]
    cases a with
    | zero => simp [tk_zero]
    | succ a =>
      obtain ⟨i1, i2, i3⟩ := ih a (by simp at ha ⊢; omega)
      rw [tk_cons]
      simp only [Bool.false_eq_true, if_false]
      have e : a + 1 - (1 + tk (mrg cs (p :: ps)) a) = a - tk (mrg cs (p :: ps)) a := by omega
      rw [e, Nat.add_comm 1]
      refine ⟨by simp; omega, i2, fun f => ?_⟩
      have := i3 f
      simp only [List.take_succ_cons, List.map_cons, List.sum_cons]
      omega

/-- The last pair among the first items is less than the first coin behind them. -/
theorem mrg_edge (cs ps : List Nat) : cs.Pairwise (· ≤ ·) → ∀ a, a ≤ cs.length + ps.length → tk (mrg cs ps) a < a → tk (mrg cs ps) a < cs.length →
    ps.getD (a - tk (mrg cs ps) a - 1) 0 < cs.getD (tk (mrg cs ps) a) 0 := by
  induction cs, ps using mrg_rec with
  | h1 ps => intro _ a ha hq ht; simp at ht
  | h2 cs =>
    intro _ a ha hq ht
    exfalso
    simp only [List.length_nil, Nat.add_zero] at ha
    have h0 : tk (mrg cs []) a = a := by
      unfold tk coinsIn; rw [mrg_none, ← List.map_take, List.filter_map, List.length_map]
      rw [List.filter_eq_self.2 (by simp), List.length_take]; omega
    omega
  | h3 c cs p ps h ih =>
    intro hs a ha hq ht
    rw [mrg_lt h] at hq ht ⊢
    cases a with
    | zero => omega
    | succ a =>
      rw [tk_cons] at hq ht ⊢
      simp only [if_true, Nat.zero_add] at hq ht ⊢
      by_cases e : tk (mrg (c :: cs) ps) a < a
      · have := ih hs a (by simp at ha ⊢; omega) e ht
        have e2 : a + 1 - tk (mrg (c :: cs) ps) a - 1 = (a - tk (mrg (c :: cs) ps) a - 1) + 1 := by omega
        rw [e2, List.getD_cons_succ]; exact this
      · have hle := tk_le (mrg (c :: cs) ps) a
        have e2 : a + 1 - tk (mrg (c :: cs) ps) a - 1 = 0 := by omega
        rw [e2, List.getD_cons_zero]
        -- all of the first a are coins: the coin behind them is no less than c
        generalize tk (mrg (c :: cs) ps) a = t at ht ⊢
        cases t with
        | zero => exact h
        | succ t =>
          rw [List.getD_cons_succ]
          have ht' : t < cs.length := by simpa using ht
          have := (List.pairwise_cons.1 hs).1 cs[t] (List.getElem_mem ht')
          rw [List.getD_eq_getElem?_getD, List.getElem?_eq_getElem ht']
          exact Nat.lt_of_lt_of_le h this
  | h4 c cs p ps h ih =>
    intro hs a ha hq ht
    rw [mrg_ge h] at hq ht ⊢
    cases a with
    | zero => omega
    | succ a =>
      rw [tk_cons] at hq ht ⊢
      simp only [Bool.false_eq_true, if_false] at hq ht ⊢
      have := ih (List.pairwise_cons.1 hs).2 a (by simp at ha ⊢; omega) (by omega) (by simp at ht; omega)
      have e2 : a + 1 - (1 + tk (mrg cs (p :: ps)) a) - 1 = a - tk (mrg cs (p :: ps)) a - 1 := by omega
      rw [e2, Nat.add_comm 1, List.getD_cons_succ]; exact this

/-- How many coins are taken of each row, the last one first: row number k, so many items of it. -/
def cc (ws : List Nat) : Nat → Nat → List Nat
  | 0, a => [tk (rowN ws 0) a]
  | k + 1, a => tk (rowN ws (k + 1)) a :: cc ws k (2 * (a - tk (rowN ws (k + 1)) a))
theorem length_cc (ws : List Nat) : ∀ k a, (cc ws k a).length = k + 1
  | 0, a => rfl
  | k + 1, a => by simp [cc, length_cc ws k]
/-- A row has items enough: so many fewer than twice the coins. -/
theorem length_row (ws : List Nat) : ∀ k, ws.length ≤ 2 ^ k * (2 * ws.length - (rowN ws k).length) ∧ (rowN ws k).length ≤ 2 * ws.length ∧ ws.length ≤ (rowN ws k).length ∧ (2 * ws.length - (rowN ws k).length - 1) * 2 ^ k < ws.length + (if ws.length = 0 then 1 else 0)
  | 0 => by
    have := length_mrg ws []
    simp only [rowN, this, List.length_nil, Nat.add_zero, Nat.pow_zero, Nat.mul_one, Nat.one_mul]
    split <;> omega
  | k + 1 => by
    obtain ⟨h1, h2, h3, h4⟩ := length_row ws k
    have e : (rowN ws (k + 1)).length = ws.length + (rowN ws k).length / 2 := by simp [rowN, length_mrg, length_prs]
    rw [e]
    have hp := Nat.two_pow_pos k
    refine ⟨?_, by omega, by omega, ?_⟩
    · refine Nat.le_trans h1 ?_
      rw [Nat.pow_succ, Nat.mul_assoc]
      exact Nat.mul_le_mul_left _ (by omega)
    · rw [Nat.pow_succ, Nat.mul_comm (2 ^ k) 2, ← Nat.mul_assoc]
      refine Nat.lt_of_le_of_lt (Nat.mul_le_mul_right _ ?_) h4
      omega
/-- Enough items to make up all lengths. -/
theorem row_enough (ws : List Nat) (k : Nat) (h : ws.length ≤ 2 ^ (k + 1)) (h2 : 2 ≤ ws.length) : 2 * ws.length - 2 ≤ (rowN ws k).length := by
  obtain ⟨_, h3, _, h4⟩ := length_row ws k
  rw [if_neg (by omega), Nat.add_zero] at h4
  rw [Nat.pow_succ, Nat.mul_comm] at h
  apply Classical.byContradiction
  intro hc
  have hx : 2 ≤ 2 * ws.length - (rowN ws k).length - 1 := by omega
  have := Nat.mul_le_mul_right (2 ^ k) hx
  omega

theorem pairs_enough (ws : List Nat) (k a : Nat) (h : a ≤ (rowN ws (k + 1)).length) : 2 * (a - tk (rowN ws (k + 1)) a) ≤ (rowN ws k).length := by
  have e : rowN ws (k + 1) = mrg ws (prs (rowN ws k)) := rfl
  have hm := length_mrg ws (prs (rowN ws k))
  rw [e] at h ⊢
  have := (mrg_first ws (prs (rowN ws k)) a (by omega)).2.1
  rw [length_prs] at this
  omega
theorem tk_first (ws : List Nat) (k a : Nat) (h : a ≤ (rowN ws k).length) : tk (rowN ws k) a ≤ ws.length := by
  cases k with
  | zero =>
    have hm := length_mrg ws []
    exact (mrg_first ws [] a (by simp only [rowN] at h; omega)).1
  | succ k =>
    have hm := length_mrg ws (prs (rowN ws k))
    exact (mrg_first ws _ a (by simp only [rowN] at h; omega)).1

def Asc (l : List Nat) : Prop := l.Pairwise (· ≤ ·)
theorem mrg_mem {cs ps : List Nat} {x : Nat × Bool} : x ∈ mrg cs ps → (x.1 ∈ cs ∧ x.2 = false) ∨ (x.1 ∈ ps ∧ x.2 = true) := by
  induction cs, ps using mrg_rec with
  | h1 ps => rw [mrg_nil]; simp only [List.mem_map]; rintro ⟨p, hp, rfl⟩; exact .inr ⟨hp, rfl⟩
  | h2 cs => rw [mrg_none]; simp only [List.mem_map]; rintro ⟨p, hp, rfl⟩; exact .inl ⟨hp, rfl⟩
  | h3 c cs p ps h ih =>
    rw [mrg_lt h]; intro hx
    rcases List.mem_cons.1 hx with rfl | hx
    · exact .inr ⟨by simp, rfl⟩
    · rcases ih hx with h | h
      · exact .inl h
      · exact .inr ⟨List.mem_cons_of_mem _ h.1, h.2⟩
  | h4 c cs p ps h ih =>
    rw [mrg_ge h]; intro hx
    rcases List.mem_cons.1 hx with rfl | hx
    · exact .inl ⟨by simp, rfl⟩
    · rcases ih hx with h | h
      · exact .inl ⟨List.mem_cons_of_mem _ h.1, h.2⟩
      · exact .inr h
theorem mrg_asc (cs ps : List Nat) : Asc cs → Asc ps → Asc ((mrg cs ps).map (·.1)) := by
  unfold Asc
  induction cs, ps using mrg_rec with
  | h1 ps => intro _ h; rw [mrg_nil, List.map_map]; simpa [Function.comp_def] using h
  | h2 cs => intro h _; rw [mrg_none, List.map_map]; simpa [Function.comp_def] using h
  | h3 c cs p ps h ih =>
    intro h1 h2
    rw [mrg_lt h, List.map_cons, List.pairwise_cons]
    refine ⟨fun y hy => ?_, ih h1 (List.pairwise_cons.1 h2).2⟩
    obtain ⟨x, hx, rfl⟩ := List.mem_map.1 hy
    rcases mrg_mem hx with ⟨h3, _⟩ | ⟨h3, _⟩
    · rcases List.mem_cons.1 h3 with h4 | h4
      · show p ≤ x.1; omega
      · have := (List.pairwise_cons.1 h1).1 _ h4; show p ≤ x.1; omega
    · exact (List.pairwise_cons.1 h2).1 _ h3
  | h4 c cs p ps h ih =>
    intro h1 h2
    rw [mrg_ge h, List.map_cons, List.pairwise_cons]
    refine ⟨fun y hy => ?_, ih (List.pairwise_cons.1 h1).2 h2⟩
    obtain ⟨x, hx, rfl⟩ := List.mem_map.1 hy
    rcases mrg_mem hx with ⟨h3, _⟩ | ⟨h3, _⟩
    · exact (List.pairwise_cons.1 h1).1 _ h3
    · rcases List.mem_cons.1 h3 with h4 | h4
      · show c ≤ x.1; omega
      · have := (List.pairwise_cons.1 h2).1 _ h4; show c ≤ x.1; omega
theorem prs_mem : ∀ {l : List (Nat × Bool)} {y : Nat}, y ∈ prs l → ∃ a ∈ l, ∃ b ∈ l, y = a.1 + b.1
  | [], y, h => by simp [prs] at h
  | [_], y, h => by simp [prs] at h
  | a :: b :: l, y, h => by
    simp only [prs, List.mem_cons] at h
    rcases h with rfl | h
    · exact ⟨a, by simp, b, by simp, rfl⟩
    · obtain ⟨a', ha, b', hb, e⟩ := prs_mem h
      exact ⟨a', by simp [ha], b', by simp [hb], e⟩
theorem prs_asc : ∀ l : List (Nat × Bool), Asc (l.map (·.1)) → Asc (prs l)
  | [], _ => List.Pairwise.nil
  | [_], _ => by simp [prs, Asc]
  | a :: b :: l, h => by
    unfold Asc at h ⊢
    simp only [List.map_cons, List.pairwise_cons] at h
    simp only [prs, List.pairwise_cons]
    refine ⟨fun y hy => ?_, prs_asc l h.2.2⟩
    obtain ⟨u, hu, v, hv, rfl⟩ := prs_mem hy
    have h1 := h.1 u.1 (List.mem_cons_of_mem _ (List.mem_map_of_mem hu))
    have h2 := h.2.1 v.1 (List.mem_map_of_mem hv)
    omega
theorem row_asc (ws : List Nat) (h : Asc ws) : ∀ k, Asc ((rowN ws k).map (·.1))
  | 0 => mrg_asc _ _ h List.Pairwise.nil
  | k + 1 => mrg_asc _ _ h (prs_asc _ (row_asc ws h k))
/-- A pair is no less than each of its items. -/
theorem prs_at : ∀ (l : List (Nat × Bool)) (i : Nat), i / 2 < l.length / 2 → (l.map (·.1)).getD i 0 ≤ (prs l).getD (i / 2) 0
  | [], i, h => by simp at h
  | [_], i, h => by simp at h
  | a :: b :: l, 0, h => by simp [prs]
  | a :: b :: l, 1, h => by simp [prs]
  | a :: b :: l, i + 2, h => by
    have := prs_at l i (by simp at h; omega)
    have e : (i + 2) / 2 = i / 2 + 1 := by omega
    rw [e]
    simpa [prs] using this
/-- The coins among the first items of a merge are its first coins. -/
theorem mrg_coins (cs ps : List Nat) : ∀ a, a ≤ cs.length + ps.length → (((mrg cs ps).take a).filter fun x => !x.2).map (·.1) = cs.take (tk (mrg cs ps) a) := by
  induction cs, ps using mrg_rec with
  | h1 ps =>
    intro a ha
    rw [mrg_nil, ← List.map_take, List.filter_map]; simp
  | h2 cs =>
    intro a ha
    simp only [List.length_nil, Nat.add_zero] at ha
    have h0 : tk (mrg cs []) a = a := by
      unfold tk coinsIn; rw [mrg_none, ← List.map_take, List.filter_map, List.length_map]
      rw [List.filter_eq_self.2 (by simp), List.length_take]; omega
    rw [h0, mrg_none, ← List.map_take, List.filter_map, List.map_map, List.filter_eq_self.2 (by simp)]; simp [Function.comp_def]
  | h3 c cs p ps h ih =>
    intro a ha
    rw [mrg_lt h]
    cases a with
    | zero => simp [tk_zero]
    | succ a =>
      have := ih a (by simp at ha ⊢; omega)
      rw [tk_cons]; simpa using this
  | h4 c cs p ps h ih =>
    intro a ha
    rw [mrg_ge h]
    cases a with
    | zero => simp [tk_zero]
    | succ a =>
      have := ih a (by simp at ha ⊢; omega)
      rw [tk_cons]
      simp only [Bool.false_eq_true, if_false]
      rw [Nat.add_comm 1]
      simp [this]

/-- The coins that are taken of a row are taken of the next one, too. -/
theorem nested (ws : List Nat) (h : Asc ws) (k a : Nat) (ha : a ≤ (rowN ws (k + 1)).length) :
    tk (rowN ws k) (2 * (a - tk (rowN ws (k + 1)) a)) ≤ tk (rowN ws (k + 1)) a := by
  have hpe := pairs_enough ws k a ha
  have e : rowN ws (k + 1) = mrg ws (prs (rowN ws k)) := rfl
  have hlen : a ≤ ws.length + (prs (rowN ws k)).length := by rw [← length_mrg, ← e]; exact ha
  generalize ht : tk (rowN ws (k + 1)) a = t at *
  apply Classical.byContradiction
  intro hc
  have hle2 := tk_first ws k _ hpe
  have htw : t < ws.length := by omega
  have hqpos : t < a := by
    apply Classical.byContradiction
    intro h2
    have : a - t = 0 := by omega
    rw [this] at hc
    simp [tk_zero] at hc
  -- the pair ahead of the coin t is less than it
  have hedge := mrg_edge ws (prs (rowN ws k)) h a hlen (by rw [← e, ht]; exact hqpos) (by rw [← e, ht]; exact htw)
  rw [← e, ht] at hedge
  -- the coin t is among the items of the first pairs
  have hco : ((((rowN ws k).take (2 * (a - t))).filter fun x => !x.2).map (·.1)) = ws.take (tk (rowN ws k) (2 * (a - t))) := by
    cases k with
    | zero => exact mrg_coins ws [] _ (by rw [← length_mrg]; exact hpe)
    | succ k => exact mrg_coins ws _ _ (by rw [← length_mrg]; exact hpe)
  have hmem : ws.getD t 0 ∈ ((((rowN ws k).take (2 * (a - t))).filter fun x => !x.2).map (·.1)) := by
    rw [hco, List.getD_eq_getElem?_getD, List.getElem?_eq_getElem htw]
    exact List.mem_take_iff_getElem.2 ⟨t, by omega, rfl⟩
  obtain ⟨x, hx, hxe⟩ := List.mem_map.1 hmem
  have hx2 := (List.mem_filter.1 hx).1
  obtain ⟨i, hi, hie⟩ := List.mem_take_iff_getElem.1 hx2
  have hi2 : i / 2 < (rowN ws k).length / 2 := by omega
  have h1 := prs_at (rowN ws k) i hi2
  have h2 : ((rowN ws k).map (·.1)).getD i 0 = ws.getD t 0 := by
    rw [← hxe, ← hie, List.getD_eq_getElem?_getD, List.getElem?_eq_getElem (by rw [List.length_map]; omega)]
    simp
  -- pairs are sorted
  have hasc := prs_asc _ (row_asc ws h k)
  have hl : (prs (rowN ws k)).length = (rowN ws k).length / 2 := length_prs _
  have h3 : (prs (rowN ws k)).getD (i / 2) 0 ≤ (prs (rowN ws k)).getD (a - t - 1) 0 := by
    rw [List.getD_eq_getElem?_getD, List.getD_eq_getElem?_getD, List.getElem?_eq_getElem (by omega), List.getElem?_eq_getElem (by omega)]
    simp only [Option.getD_some]
    rcases Nat.lt_or_ge (i / 2) (a - t - 1) with h4 | h4
    · exact List.pairwise_iff_getElem.1 hasc _ _ (by omega) (by omega) h4
    · have : i / 2 = a - t - 1 := by omega
      simp [this]
  omega
end Go.Proofs.YtghegmbafbpnjaaGreatDoor
namespace Go.Proofs.YtghegmbafbpnjaaGreatDoor
set_option maxRecDepth 100000
/-- The sum of a function over the numbers below n. -/
def upTo : Nat → (Nat → Nat) → Nat
  | 0, _ => 0
  | n + 1, f => upTo n f + f n
theorem upTo_add (n : Nat) (f g : Nat → Nat) : upTo n (fun r => f r + g r) = upTo n f + upTo n g := by
  induction n with
  | zero => rfl
  | succ n ih => simp only [upTo, ih]; omega
theorem upTo_congr {n : Nat} {f g : Nat → Nat} (h : ∀ r, r < n → f r = g r) : upTo n f = upTo n g := by
  induction n with
  | zero => rfl
  | succ n ih => simp only [upTo]; rw [ih (fun r hr => h r (by omega)), h n (by omega)]
theorem upTo_const (n c : Nat) : upTo n (fun _ => c) = n * c := by
  induction n with
  | zero => simp [upTo]
  | succ n ih => simp only [upTo, ih, Nat.succ_mul]
theorem upTo_ind (n t c : Nat) (h : t ≤ n) : upTo n (fun r => if r < t then c else 0) = t * c := by
  induction n with
  | zero => have : t = 0 := by omega
            subst this; simp [upTo]
  | succ n ih =>
    rcases Nat.lt_or_ge n t with h1 | h1
    · have e : t = n + 1 := by omega
      subst e
      rw [upTo_congr (g := fun _ => c) (fun r hr => if_pos hr), upTo_const]
    · simp only [upTo]; rw [ih h1, if_neg (by omega)]; rfl
theorem upTo_one_le {n i : Nat} (f : Nat → Nat) (h : i < n) : f i ≤ upTo n f := by
  induction n with
  | zero => omega
  | succ n ih =>
    simp only [upTo]
    rcases Nat.lt_or_ge i n with h1 | h1
    · have := ih h1; omega
    · have : i = n := by omega
      subst this; omega
theorem upTo_two_le {n i j : Nat} (f : Nat → Nat) (h : i < n) (h2 : j < n) (hij : i ≠ j) : f i + f j ≤ upTo n f := by
  induction n with
  | zero => omega
  | succ n ih =>
    simp only [upTo]
    by_cases h1 : i = n
    · subst h1; have := upTo_one_le (n := i) (i := j) f (by omega); omega
    · by_cases h3 : j = n
      · subst h3; have := upTo_one_le (n := j) (i := i) f (by omega); omega
      · have := ih (by omega) (by omega); omega
theorem sum_take (l : List Nat) (t : Nat) (h : t ≤ l.length) : (l.take t).sum = upTo t fun r => l.getD r 0 := by
  induction t with
  | zero => simp [upTo]
  | succ t ih =>
    rw [List.take_succ_eq_append_getElem (by omega), List.sum_append, ih (by omega)]
    simp only [upTo, List.sum_cons, List.sum_nil, Nat.add_zero]
    rw [List.getD_eq_getElem?_getD, List.getElem?_eq_getElem (by omega)]; rfl

/-- How many of the numbers are greater than r: the length of the coin number r. -/
def rl : List Nat → Nat → Nat
  | [], _ => 0
  | t :: ts, r => (if r < t then 1 else 0) + rl ts r
theorem rl_le : ∀ (ts : List Nat) (r : Nat), rl ts r ≤ ts.length
  | [], _ => Nat.le_refl _
  | t :: ts, r => by have := rl_le ts r; simp only [rl, List.length_cons]; split <;> omega
theorem rl_zero : ∀ (ts : List Nat) (r : Nat), (∀ t ∈ ts, t ≤ r) → rl ts r = 0
  | [], _, _ => rfl
  | t :: ts, r, h => by simp only [rl]; rw [if_neg (by have := h t (by simp); omega), rl_zero ts r (fun x hx => h x (by simp [hx]))]
/-- The widths of the coins that are taken. -/
def wid : List Nat → Nat
  | [] => 0
  | t :: ts => t * 2 ^ ts.length + wid ts
def Desc (l : List Nat) : Prop := l.Pairwise (fun a b => b ≤ a)
theorem kraft (n : Nat) : ∀ ts : List Nat, Desc ts → (∀ t ∈ ts, t ≤ n) → wid ts + upTo n (fun r => 2 ^ (ts.length - rl ts r)) = n * 2 ^ ts.length
  | [], _, _ => by simp [wid, rl, upTo_const]
  | t :: ts, hd, hn => by
    have ih := kraft n ts (List.pairwise_cons.1 hd).2 (fun x hx => hn x (by simp [hx]))
    have hmax := (List.pairwise_cons.1 hd).1
    have e : ∀ r, r < n → 2 ^ ((t :: ts).length - rl (t :: ts) r) + (if r < t then 2 ^ ts.length else 0) = 2 ^ (ts.length - rl ts r) + 2 ^ ts.length := by
      intro r _
      simp only [rl, List.length_cons]
      by_cases h : r < t
      · rw [if_pos h, if_pos h]
        have := rl_le ts r
        congr 2; omega
      · rw [if_neg h, if_neg h, rl_zero ts r (fun x hx => by have := hmax x hx; omega)]
        simp only [Nat.sub_zero, Nat.add_zero, Nat.pow_succ]; omega
    have e2 := upTo_congr e
    rw [upTo_add, upTo_add, upTo_ind n t _ (hn t (by simp)), upTo_const] at e2
    simp only [wid, List.length_cons, Nat.pow_succ]
    simp only [List.length_cons] at e2
    have e3 : n * (2 ^ ts.length * 2) = n * 2 ^ ts.length + n * 2 ^ ts.length := by rw [← Nat.mul_assoc]; omega
    rw [e3]
    omega
theorem wid_cc (ws : List Nat) : ∀ k a, a ≤ (rowN ws k).length → wid (cc ws k a) = a * 2 ^ k
  | 0, a, h => by
    have hl : (rowN ws 0).length = ws.length := by simp [rowN, length_mrg]
    have h0 : tk (rowN ws 0) a = a := by
      unfold tk coinsIn; rw [rowN, mrg_none, ← List.map_take, List.filter_map, List.length_map]
      rw [List.filter_eq_self.2 (by simp), List.length_take]; omega
    simp [cc, wid, h0]
  | k + 1, a, h => by
    have hp := pairs_enough ws k a h
    have hle := tk_le (rowN ws (k + 1)) a
    simp only [cc, wid, length_cc]
    rw [wid_cc ws k _ hp]
    generalize tk (rowN ws (k + 1)) a = t at *
    obtain ⟨q, rfl⟩ : ∃ q, a = t + q := ⟨a - t, by omega⟩
    rw [Nat.add_sub_cancel_left, Nat.pow_succ, Nat.add_mul, Nat.mul_comm (2 ^ k) 2, ← Nat.mul_assoc q, Nat.mul_comm q 2]
theorem cc_le (ws : List Nat) : ∀ k a, a ≤ (rowN ws k).length → ∀ t ∈ cc ws k a, t ≤ ws.length
  | 0, a, h, t, ht => by simp [cc] at ht; subst ht; exact tk_first ws 0 a h
  | k + 1, a, h, t, ht => by
    simp only [cc, List.mem_cons] at ht
    rcases ht with rfl | ht
    · exact tk_first ws (k + 1) a h
    · exact cc_le ws k _ (pairs_enough ws k a h) t ht
theorem cc_desc (ws : List Nat) (hs : Asc ws) : ∀ k a, a ≤ (rowN ws k).length → Desc (cc ws k a) ∧ ∀ t ∈ cc ws k a, t ≤ tk (rowN ws k) a
  | 0, a, h => by simp [cc, Desc]
  | k + 1, a, h => by
    obtain ⟨i1, i2⟩ := cc_desc ws hs k _ (pairs_enough ws k a h)
    have hn := nested ws hs k a h
    refine ⟨List.pairwise_cons.2 ⟨fun t ht => Nat.le_trans (i2 t ht) hn, i1⟩, fun t ht => ?_⟩
    simp only [cc, List.mem_cons] at ht
    rcases ht with rfl | ht
    · exact Nat.le_refl _
    · exact Nat.le_trans (i2 t ht) hn

/-- The lengths of coins. -/
def lensOf (ws : List Nat) (k : Nat) : List Nat := cc ws k (2 * ws.length - 2)
section
variable (ws : List Nat) (hs : Asc ws) (k : Nat) (h : ws.length ≤ 2 ^ (k + 1)) (h2 : 2 ≤ ws.length)
include hs h h2
theorem full_sum : upTo ws.length (fun r => 2 ^ (k + 1 - rl (lensOf ws k) r)) = 2 ^ (k + 1) := by
  have he := row_enough ws k h h2
  have h1 := kraft ws.length (lensOf ws k) (cc_desc ws hs k _ he).1 (cc_le ws k _ he)
  have h3 : wid (lensOf ws k) = _ := wid_cc ws k _ he
  have h4 : (lensOf ws k).length = k + 1 := length_cc ws k _
  rw [h3, h4] at h1
  have e : (2 * ws.length - 2) * 2 ^ k = (ws.length - 1) * 2 ^ (k + 1) := by
    rw [show 2 * ws.length - 2 = (ws.length - 1) * 2 from by omega, Nat.pow_succ, Nat.mul_assoc, Nat.mul_comm 2]
  have e2 : ws.length * 2 ^ (k + 1) = (ws.length - 1) * 2 ^ (k + 1) + 2 ^ (k + 1) := by
    conv => lhs; rw [show ws.length = (ws.length - 1) + 1 from by omega, Nat.add_mul, Nat.one_mul]
  omega
theorem rl_pos (r : Nat) (hr : r < ws.length) : 0 < rl (lensOf ws k) r := by
  apply Classical.byContradiction
  intro hc
  have h0 : rl (lensOf ws k) r = 0 := by omega
  have hf := full_sum ws hs k h h2
  have hq : ∃ q, q < ws.length ∧ r ≠ q := by
    rcases Nat.eq_zero_or_pos r with e | e
    · exact ⟨1, by omega, by omega⟩
    · exact ⟨0, by omega, by omega⟩
  obtain ⟨q, hq, hne⟩ := hq
  have := upTo_two_le (fun r => 2 ^ (k + 1 - rl (lensOf ws k) r)) hr hq hne
  simp only [h0, Nat.sub_zero] at this
  have := Nat.two_pow_pos (k + 1 - rl (lensOf ws k) q)
  omega
omit hs h h2 in
theorem rl_most (r : Nat) : rl (lensOf ws k) r ≤ k + 1 := by
  have := rl_le (lensOf ws k) r
  have h4 : (lensOf ws k).length = k + 1 := length_cc ws k _
  omega
theorem full_15 (hk : k + 1 ≤ 15) : upTo ws.length (fun r => 2 ^ (15 - rl (lensOf ws k) r)) = 2 ^ 15 := by
  have hf := full_sum ws hs k h h2
  have e : ∀ r, 2 ^ (15 - rl (lensOf ws k) r) = 2 ^ (15 - (k + 1)) * 2 ^ (k + 1 - rl (lensOf ws k) r) := by
    intro r
    have := rl_most ws k r
    rw [← Nat.pow_add]; congr 1; omega
  have e2 : ∀ (n c : Nat) (f : Nat → Nat), upTo n (fun r => c * f r) = c * upTo n f := by
    intro n c f
    induction n with
    | zero => rfl
    | succ n ih => simp only [upTo, ih, Nat.mul_add]
  rw [upTo_congr (fun r _ => e r), e2, hf, ← Nat.pow_add]
  congr 1; omega
end
theorem prs_getD : ∀ (l : List (Nat × Bool)) (i : Nat), i < l.length / 2 → (prs l).getD i 0 = (l.map (·.1)).getD (2 * i) 0 + (l.map (·.1)).getD (2 * i + 1) 0
  | [], i, h => by simp at h
  | [_], i, h => by simp at h
  | a :: b :: l, 0, h => by simp [prs]
  | a :: b :: l, i + 1, h => by
    have := prs_getD l i (by simp at h; omega)
    rw [show 2 * (i + 1) = 2 * i + 1 + 1 from by omega]
    simpa [prs] using this
end Go.Proofs.YtghegmbafbpnjaaGreatDoor
