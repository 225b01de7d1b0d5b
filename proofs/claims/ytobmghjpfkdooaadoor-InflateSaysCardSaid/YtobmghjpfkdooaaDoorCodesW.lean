/- The contracts of the codes of lengths: the program's and the document's answer. -/
import Derived.Test.YtobmghjpfkdooaaDoorOrdW
namespace Go.Proofs.YtobmghjpfkdooaaDoor
set_option maxRecDepth 100000
open Go Go.RowKit

theorem made_ints (n : Nat) : (madeCells (Value.int .i64 0).cells (n * 1)).toList = (List.replicate n (0 : Int)).map (.int .i64) := by
  have e : (Value.int .i64 0).cells = #[.int .i64 0] := rfl
  rw [e, toList_madeCells_one, Nat.mul_one, List.map_replicate]
theorem OwnI.made {w1 : World} {base n : Nat} {v : Value} (h : w1.ownsRow base 3 1 v n (madeCells (Value.int .i64 0).cells (n * 1)).toList) : OwnI w1 base v (List.replicate n 0) := by
  rw [made_ints] at h; unfold OwnI; rw [List.length_replicate]; exact h
theorem OwnI.len {w : World} {base n c : Nat} {a : Addr} {l : List Int} (h : OwnI w base (.slice (some a) n c) l) : n = l.length := by
  unfold OwnI at h
  rcases h.2 with ⟨e, _⟩ | ⟨g, cap, cur, e, _⟩
  · cases e
  · injection e
theorem OwnI.set {w : World} {base g n c : Nat} {l : List Int} (h : OwnI w base (.slice (some ⟨g, 0, none⟩) n c) l) (j : Nat) (x : Int) :
    OwnI (w.setCell ⟨g, j, none⟩ (.int .i64 x)) base (.slice (some ⟨g, 0, none⟩) n c) (l.set j x) := by
  obtain rfl := h.len
  unfold OwnI at h ⊢
  have hs := (h.stored j (.int .i64 x)).1
  rw [List.length_set, List.map_set]; exact hs
theorem OwnI.cell {w : World} {base g n c : Nat} {l : List Int} (h : OwnI w base (.slice (some ⟨g, 0, none⟩) n c) l) {j : Nat} (hj : j < l.length) :
    w.cell? ⟨g, j, none⟩ = some (.int .i64 l[j]) := by
  have hc := World.ownsRow.cells h (g := g) rfl j (.int .i64 l[j]) (by simp [hj])
  rw [Go.WideShapes.add_plain, Nat.zero_add] at hc
  exact hc
theorem OwnI.free {w : World} {base g n c : Nat} {l : List Int} (h : OwnI w base (.slice (some ⟨g, 0, none⟩) n c) l) (j : Nat) : w.frozen? ⟨g, j, none⟩ = false := by
  obtain rfl := h.len
  exact World.ownsRow.frozenAt h _

theorem OwnI.ints {w : World} {base g c n : Nat} {l : List Int} (h : OwnI w base (.slice (some ⟨g, 0, none⟩) n c) l) : Ints w (some ⟨g, 0, none⟩) n l := by
  obtain rfl := h.len
  exact ⟨rfl, fun _ => ⟨g, 0, rfl, (World.ownsRow.lt h g rfl).2, fun i hi => by rw [Nat.zero_add]; exact h.cell hi⟩⟩

theorem cds_zero (l : List Int) : cds l [] = List.replicate l.length 0 := rfl

set_option maxRecDepth 100000 in
set_option maxHeartbeats 200000 in
theorem codesOf_any {w : World} {A B : Option Addr} {len cap m cap2 : Nat} {l : List Int} (hl : Ints w A len l) (ho : Ints w B m ((ord l).map fun s : Nat => (s : Int))) (h288 : len ≤ 288) (hk : ksum l ≤ 32768) :
    Calls Tryd.prog 58 #[.slice A len cap, .slice B m cap2] w fun e w' => e = .returned (.slice (some ⟨w.heap.size, 0, none⟩) len len) ∧ OwnI w' w.heap.size (.slice (some ⟨w.heap.size, 0, none⟩) len len) (codes l) ∧ But [] w w' := by
  obtain ⟨i0, hi0, hz0, hz1, hz2⟩ := info_parts info_int
  have hlen := hl.1
  have hom := ho.1
  rw [List.length_map] at hom
  have hm288 : m ≤ 288 := by
    have := sum_le_of_nodup (fun _ => 1) len (ord l) (nodup_ordTo l 15) (fun s hs => by have := (ord_len hs).1; omega)
    simp only [List.map_const', List.sum_replicate_nat, List.length_range, Nat.mul_one] at this
    omega
  go_enter Tryd.func58, Tryd.ntmps58
  go_wp2_with (at_make; refine wpList_make_full _ rfl _ _ 48 rfl w.heap.size 3 i0 _ 1 Tryd.underlying48 hi0 hz0 hz1 _ _ _ _ len rfl rfl (by omega) (by omega) (by rw [hz2]; omega) (by unfold maxLen; omega) (by simp) ?_; intro w1 hown hgrow)
  have hO1 := OwnI.made hown
  have hB1 : But [] w w1 := (But.refl [] w).grown hgrow (by simp)
  clear hown hgrow
  go_loopw [6, 7, 15] (fun nx la i wr => ∃ j : Nat, j ≤ m ∧ i = .int .i64 j ∧ nx = .int .i64 (kp l ((ord l).take j) / 2 ^ (15 - was l ((ord l).take j)) : Nat) ∧ la = .int .i64 (was l ((ord l).take j)) ∧
    OwnI wr w.heap.size (.slice (some ⟨w.heap.size, 0, none⟩) len len) (cds l ((ord l).take j)) ∧ But [] w wr) (fun _ _ i _ => m - (intOf i).toNat)
  case atStart => exact ⟨0, Nat.zero_le _, rfl, by simp [kp, cst], rfl, by rw [List.take_zero, cds_zero, hlen]; exact hO1, hB1⟩
  case round =>
    obtain ⟨j, hj, rfl, rfl, rfl, hO, hB⟩ := hrel
    clear hO1 hB1
    by_cases hlt : j < m
    · have hsp : ord l = (ord l).take j ++ (ord l)[j]'(by omega) :: (ord l).drop (j + 1) := by
        rw [List.getElem_cons_drop, List.take_append_drop]
      have hts : (ord l).take (j + 1) = (ord l).take j ++ [(ord l)[j]'(by omega)] := List.take_succ_eq_append_getElem (by omega)
      obtain ⟨g, o, rfl, hg, hc⟩ := ho.at hlt
      replace hc := hB.cell hc (by simp)
      rw [List.getElem_map] at hc
      have hsl := ord_len (List.getElem_mem (show j < (ord l).length by omega))
      generalize (ord l)[j]'(by omega) = s at *
      obtain ⟨g2, o2, rfl, hg2, hc2⟩ := hl.at (show s < len by omega)
      replace hc2 := hB.cell hc2 (by simp)
      have hgd : l.getD s 0 = l[s]'(by omega) := by rw [List.getD_eq_getElem?_getD, List.getElem?_eq_getElem (by omega)]; rfl
      have h1 := next_len hsp
      have h2 := next_code hsp
      have h3 := next_more hsp
      have h4 := code_lt hsp hk
      have h5 := cds_snoc l ((ord l).take j) s
      have h6 := was_snoc l ((ord l).take j) s
      have hlc := length_cds l ((ord l).take j)
      rw [← hts] at h3 h5 h6
      clear hsp hts
      obtain ⟨n, hn⟩ : ∃ n, n = (l.getD s 0).toNat := ⟨_, rfl⟩
      have hln : l[s]'(by omega) = (n : Int) := by rw [← hgd]; omega
      rw [hln] at hc2
      rw [← hn] at h1 h2 h3 h4 h5 h6
      have hn15 : n ≤ 15 := by omega
      clear hln hgd
      have H3 := Lib.hid h3
      have H5 := Lib.hid h5
      have H6 := Lib.hid h6
      clear h3 h5 h6 hn
      generalize hW : was l ((ord l).take j) = W at *
      generalize hK : kp l ((ord l).take j) = K at *
      clear hW hK
      have hce := hO.cell (show s < (cds l ((ord l).take j)).length by omega)
      have hcf := hO.free s
      generalize (cds l ((ord l).take j))[s]'_ = cv at hce
      have hp15 : 2 ^ n ≤ 2 ^ 15 := Nat.pow_le_pow_right (by decide) hn15
      have hc15 : K / 2 ^ (15 - n) < 32768 := Nat.lt_of_lt_of_le h4 hp15
      obtain ⟨d, hd⟩ : ∃ d, d = n - W := ⟨_, rfl⟩
      have hd15 : d ≤ 15 := by omega
      have esub : IntKind.i64.wrap ((n : Int) - (W : Int)) = (d : Int) := by rw [IntKind.wrap_i64]; omega
      have esub2 : (n : Int) - (W : Int) = (d : Int) := by omega
      have d0 : 0 ≤ (n : Int) - (W : Int) := by omega
      rw [← hd] at h2
      generalize K / 2 ^ (15 - n) = c at *
      generalize K / 2 ^ (15 - W) = a at *
      have hsh : (a : Int) * 2 ^ d = (c : Int) := by rw [← h2]; simp
      have s0 : 0 ≤ (s : Int) := by omega
      have sl : (s : Int) < (len : Int) := by omega
      clear h2 hp15 h4 hd h1 hsl hk
      have HO := Lib.hid hO
      have HB := Lib.hid hB
      clear hO hB
      have hlen' : l.length ≤ 288 := by omega
      clear hlc hlen hom
      go_wp2
      go_roundw
      case rel =>
        refine ⟨j + 1, by omega, by go_num, by rw [H3.out]; go_num, by rw [H6.out], ?_, HB.out.setCell (.inr (Nat.le_refl _)) _⟩
        rw [H5.out]
        exact HO.out.set s _
      case measure => simp [intOf]; omega
    · obtain rfl : j = m := by omega
      rw [List.take_of_length_le (by omega)] at hO
      go_wp2
      go_ret
      exact ⟨rfl, hO, hB⟩

/-- The codes, in a slice of the call's own. -/
def GotCodes (w : World) (len : Nat) (l : List Int) (e : Ending) (w' : World) : Prop :=
  ∃ g, e = .returned (.tuple #[.slice (some ⟨g, 0, none⟩) len len, .int .i64 0]) ∧ OwnI w' w.heap.size (.slice (some ⟨g, 0, none⟩) len len) (codes l) ∧ But [] w w'
theorem ordered_at {w : World} {A : Option Addr} {len cap : Nat} {l : List Int} (hl : Ints w A len l) (h288 : len ≤ 288) :
    Calls Tryd.prog 57 #[.slice A len cap] w fun e w' => ∃ B c, e = .returned (.slice B (ord l).length c) ∧ Ints w' B (ord l).length ((ord l).map fun s : Nat => (s : Int)) ∧ But [] w w' := by
  refine (ordered_any hl h288).mono ?_
  rintro e w1 ⟨v, rfl, hO, hB⟩
  obtain ⟨B, c, rfl, hI, _⟩ := hO.open
  rw [List.length_map] at hI ⊢
  exact ⟨B, c, rfl, hI, hB⟩
/-- The order lies in memory of its own. -/
theorem ordered_new {w : World} {A : Option Addr} {len cap : Nat} {l : List Int} (hl : Ints w A len l) (h288 : len ≤ 288) :
    Calls Tryd.prog 57 #[.slice A len cap] w fun e w' => ∃ B c, e = .returned (.slice B (ord l).length c) ∧ Ints w' B (ord l).length ((ord l).map fun s : Nat => (s : Int)) ∧ But [] w w' ∧ (∀ a, B = some a → w.heap.size ≤ a.block) := by
  refine (ordered_any hl h288).mono ?_
  rintro e w1 ⟨v, rfl, hO, hB⟩
  obtain ⟨B, c, rfl, hI, hb⟩ := hO.open
  rw [List.length_map] at hI ⊢
  exact ⟨B, c, rfl, hI, hB, fun a e => (World.ownsRow.lt hO _ (hb a e)).1⟩
def lastCode (l : List Int) (p : List Nat) : Nat := kp l p / 2 ^ (15 - was l p) - 1
theorem was_zero {l : List Int} {p r : List Nat} (h : ord l = p ++ r) (hw : was l p = 0) : p = [] := by
  unfold was at hw
  cases e : p.getLast? with
  | none => exact List.getLast?_eq_none_iff.1 e
  | some t =>
    rw [e] at hw
    have := ord_len (l := l) (s := t) (h ▸ List.mem_append_left r (List.mem_of_getLast? e))
    have hw : (l.getD t 0).toNat = 0 := hw
    omega
theorem lastCode_pos {l : List Int} {p r : List Nat} (h : ord l = p ++ r) (hw : was l p ≠ 0) : lastCode l p + 1 = kp l p / 2 ^ (15 - was l p) := by
  rcases List.eq_nil_or_concat p with e | ⟨q, s, e⟩
  · subst e; exact absurd rfl hw
  · rw [List.concat_eq_append] at e
    subst e
    rw [List.append_assoc, List.singleton_append] at h
    unfold lastCode
    rw [next_more h, Nat.add_sub_cancel]
theorem lastCode_snoc {l : List Int} {p r : List Nat} {s : Nat} (h : ord l = p ++ s :: r) : lastCode l (p ++ [s]) = kp l p / 2 ^ (15 - (l.getD s 0).toNat) := by
  unfold lastCode; rw [next_more h, Nat.add_sub_cancel]
theorem lastCode_lt {l : List Int} {p r : List Nat} (h : ord l = p ++ r) (hk : ksum l ≤ 32768) : lastCode l p < 32768 := by
  have h1 := kp_le h
  have h2 : kp l p / 2 ^ (15 - was l p) ≤ kp l p := Nat.div_le_self _ _
  unfold lastCode
  omega

set_option maxRecDepth 100000 in
set_option maxHeartbeats 1000000 in
theorem ref_codes {w : World} {A : Option Addr} {len cap : Nat} {l : List Int} (hl : Ints w A len l) (hm : len ≤ maxLen) (hc : chk l = 0) :
    Calls Tryd.prog 47 #[.slice A len cap] w fun e w' => e = .returned (.tuple #[.slice (some ⟨w.heap.size, 0, none⟩) len len, .int .i64 0]) ∧ OwnI w' w.heap.size (.slice (some ⟨w.heap.size, 0, none⟩) len len) (codes l) ∧ But [] w w' := by
  obtain ⟨i0, hi0, hz0, hz1, hz2⟩ := info_parts info_int
  obtain ⟨h1, h2, hk, h4⟩ := chk_zero hc
  have hlen := hl.1
  have h288 : len ≤ 288 := by omega
  have hck := ref_check (cap := cap) hl hm
  rw [hc] at hck
  have HC := Lib.hid hck
  clear hck h2 h4 h1 hc hm
  go_enter Tryd.func47, Tryd.ntmps47
  go_wp2_with fail
  refine HC.out.mono ?_
  rintro e w' ⟨rfl, rfl⟩
  go_wp2_with (at_make; refine wpList_make_full _ rfl _ _ 48 rfl w.heap.size 3 i0 _ 1 Tryd.underlying48 hi0 hz0 hz1 _ _ _ _ len rfl rfl (by omega) (by omega) (by rw [hz2]; omega) (by unfold maxLen; omega) (by simp) ?_; intro w1 hown hgrow)
  have hO1 := OwnI.made hown
  have hB1 : But [] w w1 := (But.refl [] w).grown hgrow (by simp)
  clear hown hgrow HC
  go_loopw [6, 7, 8] (fun cd la n wr => ∃ m : Nat, m ≤ 15 ∧ n = .int .i64 ((m : Int) + 1) ∧ cd = .int .i64 (lastCode l (ordTo l m)) ∧ la = .int .i64 (was l (ordTo l m)) ∧
    OwnI wr w.heap.size (.slice (some ⟨w.heap.size, 0, none⟩) len len) (cds l (ordTo l m)) ∧ But [] w wr) (fun _ _ n _ => 16 - (intOf n).toNat)
  case atStart => exact ⟨0, by omega, rfl, by simp [lastCode, kp, cst, ordTo], rfl, by rw [ordTo, cds_zero, hlen]; exact hO1, hB1⟩
  case round =>
    obtain ⟨m, hm, rfl, rfl, rfl, hO, hB⟩ := hrel
    clear hO1 hB1
    by_cases hlt : m < 15
    · obtain ⟨wo, rfl⟩ : ∃ wo : World, wo = wr := ⟨_, rfl⟩
      have t15 : decide ((m : Int) + 1 ≤ 15) = true := by simp; omega
      have HS := Lib.hid (show lastCode l (ordTo l m) = lastCode l (pre l m 0) ∧ was l (ordTo l m) = was l (pre l m 0) by rw [pre_zero]; exact ⟨rfl, rfl⟩)
      rw [← pre_zero] at hO
      go_wp2
      go_loopw [6, 7, 9] (fun cd la i wr => ∃ k : Nat, k ≤ len ∧ i = .int .i64 k ∧ cd = .int .i64 (lastCode l (pre l m k)) ∧ la = .int .i64 (was l (pre l m k)) ∧
        OwnI wr w.heap.size (.slice (some ⟨w.heap.size, 0, none⟩) len len) (cds l (pre l m k)) ∧ But [] w wr) (fun _ _ i _ => len - (intOf i).toNat)
      case atStart => exact ⟨0, Nat.zero_le _, rfl, by rw [HS.out.1], by rw [HS.out.2], hO, hB⟩
      case round =>
        clear hO hB HS
        obtain ⟨k, hk2, rfl, rfl, rfl, hO, hB⟩ := hrel
        by_cases hlt2 : k < len
        · obtain ⟨g, o, rfl, hg, hc⟩ := hl.at hlt2
          replace hc := hB.cell hc (by simp)
          have hgd : l.getD k 0 = l[k]'(by omega) := by rw [List.getD_eq_getElem?_getD, List.getElem?_eq_getElem (by omega)]; rfl
          have hps := pre_succ l m k
          obtain ⟨r, hr⟩ := pre_ord l m (k + 1) (by omega) hlt
          have hlc := length_cds l (pre l m k)
          rw [← hgd] at hc
          by_cases he : l.getD k 0 = ((m + 1 : Nat) : Int)
          · rw [if_pos he] at hps
            rw [hps, List.append_assoc, List.singleton_append] at hr
            have hce := hO.cell (show k < (cds l (pre l m k)).length by omega)
            have hcf := hO.free k
            generalize (cds l (pre l m k))[k]'_ = cv at hce
            have h1 := next_len hr
            have h2 := next_code hr
            have h5 := cds_snoc l (pre l m k) k
            have h6 := was_snoc l (pre l m k) k
            have h7 := lastCode_snoc hr
            have h8 := code_lt hr hk
            have h9 := lastCode_lt hr hk
            have h10 := lastCode_pos hr
            have h11 := was_zero hr
            have en : (l.getD k 0).toNat = m + 1 := by omega
            rw [← hps] at h5 h6 h7
            rw [en] at h1 h2 h5 h6 h7 h8
            rw [he] at hc
            have H5 := Lib.hid h5
            have H6 := Lib.hid h6
            have H7 := Lib.hid h7
            have HO := Lib.hid hO
            have HB := Lib.hid hB
            have hp15 : 2 ^ (m + 1) ≤ 2 ^ 15 := Nat.pow_le_pow_right (by decide) (by omega)
            have hc15 : kp l (pre l m k) / 2 ^ (15 - (m + 1)) < 32768 := Nat.lt_of_lt_of_le h8 hp15
            have h12 : was l (pre l m k) = 0 → lastCode l (pre l m k) = 0 ∧ kp l (pre l m k) / 2 ^ (15 - (m + 1)) = 0 := fun h => by
              have := h11 h
              rw [this]; simp [lastCode, kp, cst]
            clear h5 h6 h7 hO hB hps hr hgd he h8 h11 hp15 hlc hlen en
            generalize kp l (pre l m k) / 2 ^ (15 - (m + 1)) = c at *
            generalize lastCode l (pre l m k) = lc at *
            generalize was l (pre l m k) = W at *
            by_cases hW : W = 0
            · obtain ⟨rfl, rfl⟩ := h12 hW
              subst hW
              clear h10 h2 h12
              go_wp2
              go_roundw
              case rel => exact ⟨k + 1, by omega, by go_num, by rw [H7.out], by rw [H6.out]; go_num, by rw [H5.out]; exact HO.out.set k _, HB.out.setCell (.inr (Nat.le_refl _)) _⟩
              case measure => simp [intOf]; omega
            · have h13 := h10 hW
              rw [← h13] at h2
              obtain ⟨d, hd⟩ : ∃ d, d = m + 1 - W := ⟨_, rfl⟩
              rw [← hd] at h2
              have hsh : ((lc : Int) + 1) * 2 ^ d = (c : Int) := by rw [← h2]; simp
              have esub2 : (m : Int) + 1 - (W : Int) = (d : Int) := by omega
              have hd15 : d ≤ 15 := by omega
              have d0 : 0 < (W : Int) := by omega
              clear h10 h12 h13 h2 hd
              go_wp2
              go_roundw
              case rel => exact ⟨k + 1, by omega, by go_num, by rw [H7.out], by rw [H6.out]; go_num, by rw [H5.out]; exact HO.out.set k _, HB.out.setCell (.inr (Nat.le_refl _)) _⟩
              case measure => simp [intOf]; omega
          · rw [if_neg he] at hps
            have HPS := Lib.hid hps
            generalize l.getD k 0 = x at *
            have he2 : (x == (m : Int) + 1) = false := by simp; omega
            have he3 : (x != (m : Int) + 1) = true := by simp; omega
            clear hps he hgd hlc hr hlen
            generalize hlc2 : lastCode l (pre l m k) = lc at *
            generalize hW2 : was l (pre l m k) = W at *
            have HX := Lib.hid hlc2
            have HY := Lib.hid hW2
            clear hlc2 hW2
            go_wp2
            go_roundw
            case rel => exact ⟨k + 1, by omega, by go_num, by rw [HPS.out, HX.out], by rw [HPS.out, HY.out], by rw [HPS.out]; exact hO, hB⟩
            case measure => simp [intOf]; omega
        · obtain rfl : k = len := by omega
          have HE := Lib.hid (show pre l m k = ordTo l (m + 1) by rw [← hlen, pre_full])
          go_wp2
          go_roundw
          case rel => exact ⟨m + 1, by omega, by go_num, by rw [HE.out], by rw [HE.out], by rw [← HE.out]; exact hO, hB⟩
          case measure => simp [intOf]; omega
    · obtain rfl : m = 15 := by omega
      go_wp2
      go_ret2
      exact ⟨rfl, hO, hB⟩
theorem ref_codes_err {w : World} {A : Option Addr} {len cap : Nat} {l : List Int} (hl : Ints w A len l) (hm : len ≤ maxLen) (hc : chk l ≠ 0) :
    Calls Tryd.prog 47 #[.slice A len cap] w fun e w' => e = .returned (.tuple #[.slice none 0 0, .int .i64 (chk l)]) ∧ w = w' := by
  have hck := ref_check (cap := cap) hl hm
  generalize chk l = x at *
  have HC := Lib.hid hck
  have hx : (x != 0) = true := by simpa using hc
  clear hck hm hc
  go_enter Tryd.func47, Tryd.ntmps47
  go_wp2_with fail
  refine HC.out.mono ?_
  rintro e w' ⟨rfl, rfl⟩
  go_wp2_with fail
  go_ret2
  exact ⟨rfl, rfl⟩
end Go.Proofs.YtobmghjpfkdooaaDoor
