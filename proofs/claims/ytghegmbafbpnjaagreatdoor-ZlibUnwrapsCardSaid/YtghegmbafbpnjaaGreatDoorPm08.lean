/- Several texts in one: Table, Pair, LayW, NextM, NextW, InfM (what Unwraps, Wraps reach of them). -/
import Derived.Test.YtghegmbafbpnjaaGreatDoorPm01
import Derived.Test.YtghegmbafbpnjaaGreatDoorPm02
import Derived.Test.YtghegmbafbpnjaaGreatDoorPm03
import Derived.Test.YtghegmbafbpnjaaGreatDoorPm04
import Derived.Test.YtghegmbafbpnjaaGreatDoorPm05
import Derived.Test.YtghegmbafbpnjaaGreatDoorPm06
import Derived.Test.YtghegmbafbpnjaaGreatDoorPm07
import Derived.Below
import Derived.BigQuiet
import Derived.BigRegion
import Derived.Deep.AppendLies
import Derived.Deep.CutRange
import Derived.Deep.DeepCutAuto
import Derived.Deep.Draws
import Derived.Deep.QuietTactic
import Derived.Deep.RegionLaw
import Derived.Deep.RegionWith
import Derived.Deep.Slices
import Derived.Laws.BitsAllLaws
import Derived.Laws.BitsLemmas
import Derived.Laws.IdiomStrings
import Derived.Laws.OwnMore
import Derived.Laws.Rows
import Derived.Lib.AppendStr
import Derived.Lib.Hide
import Derived.Lib.Strings
import Derived.LoopIn
import Derived.LoopNIn
import Derived.OneCell
import Derived.OpenShut
import Derived.Outline
import Derived.OwnWalk
import Derived.OwnWalkIn
import Derived.ProofKit
import Derived.RangeFuncBound
import Derived.RangeFuncCalls
import Derived.RangeFuncLeaves
import Derived.RangeFuncNested
import Derived.RegionTactic
import Derived.Shelf.Abstract
import Derived.Shelf.RegionOpen
import Derived.Shelf.SlSortCmp.QuietGrown
import Derived.StillTailTactics
import Derived.TacticsInMore
import Derived.Test.YtghegmbafbpnjaaGreatDoorChecked
import Derived.WalkKit
import Derived.WalkLawsBesides
import Derived.WalkSpells
set_option maxRecDepth 100000
set_option linter.unusedVariables false
namespace Go.Proofs.YtghegmbafbpnjaaGreatDoor
set_option maxRecDepth 100000
open Go Go.RowKit
/-- How many of these symbols have this length. -/
def cntW (l : List Int) (p : List Nat) (n : Nat) : Nat := (p.filter fun s => decide ((l.getD s 0).toNat = n)).length
theorem cntW_snoc (l : List Int) (p : List Nat) (s n : Nat) : cntW l (p ++ [s]) n = cntW l p n + (if (l.getD s 0).toNat = n then 1 else 0) := by
  unfold cntW; rw [List.filter_append, List.length_append]; congr 1
  by_cases h : (l.getD s 0).toNat = n
  · rw [if_pos h, List.filter_cons, if_pos (by simpa using h)]; rfl
  · rw [if_neg h, List.filter_cons, if_neg (by simpa using h)]; rfl
theorem cntW_le (l : List Int) (p : List Nat) (n : Nat) : cntW l p n ≤ p.length := List.length_filter_le _ _
/-- The cells of a table. -/
def tabCells (vo vl vc : Value) (W : Nat → Nat) (last : Nat) : Array Value := (vo :: ((List.range 16).map fun n => Value.int .i64 (W n : Nat)) ++ [.int .i64 (last : Nat), vl, vc]).toArray
theorem tab_word (vo vl vc : Value) (W : Nat → Nat) (last n : Nat) (h : n < 16) : (tabCells vo vl vc W last)[1 + n]? = some (.int .i64 (W n : Nat)) := by
  unfold tabCells
  simp only [List.cons_append, List.getElem?_toArray, Nat.add_comm 1, List.getElem?_cons_succ]
  rw [List.getElem?_append_left (by simp; exact h)]
  simp [h]
theorem tab_put (vo vl vc : Value) (W : Nat → Nat) (last n : Nat) (h : n < 16) (x : Nat) : (tabCells vo vl vc W last).setIfInBounds (1 + n) (.int .i64 x) = tabCells vo vl vc (fun k => if k = n then x else W k) last := by
  unfold tabCells
  apply Array.ext'
  simp only [List.cons_append, List.setIfInBounds_toArray, Nat.add_comm 1, List.set_cons_succ]
  congr 1
  rw [List.set_append_left _ _ (by simp; exact h)]
  congr 1
  apply List.ext_getElem
  · simp
  · intro i h1 h2
    simp only [List.getElem_set, List.getElem_map, List.getElem_range]
    by_cases e : n = i
    · subst e; simp
    · rw [if_neg e, if_neg (Ne.symm e)]
theorem tab_last (vo vl vc : Value) (W : Nat → Nat) (last x : Nat) : (tabCells vo vl vc W last).setIfInBounds 17 (.int .i64 x) = tabCells vo vl vc W x := rfl
theorem tab_codes (vo vl vc v : Value) (W : Nat → Nat) (last : Nat) : (tabCells vo vl vc W last).setIfInBounds 19 v = tabCells vo vl v W last := rfl
/-- The table of lengths lies in block b. -/
def TT (w : World) (b : Nat) (l : List Int) : Prop :=
  ∃ Ao co Al cl Ac cc, Is w b 136 (tabCells (.slice Ao (ord l).length co) (.slice Al l.length cl) (.slice Ac l.length cc) (cntW l (ord l)) (was l (ord l))) ∧
    Ints w Ao (ord l).length ((ord l).map fun s : Nat => (s : Int)) ∧ Ints w Al l.length l ∧ Ints w Ac l.length (codes l)
theorem TT.but {w w' : World} {b : Nat} {l : List Int} (h : TT w b l) (hw : But [] w w') : TT w' b l := by
  obtain ⟨Ao, co, Al, cl, Ac, cc, h1, h2, h3, h4⟩ := h
  exact ⟨Ao, co, Al, cl, Ac, cc, h1.but hw (by simp), h2.but hw (by simp), h3.but hw (by simp), h4.but hw (by simp)⟩
/-- The table of lengths lies in block b, and all its memory from block lo on. -/
def NewT (lo : Nat) (w : World) (b : Nat) (l : List Int) : Prop :=
  ∃ Ao co Al cl Ac cc, Is w b 136 (tabCells (.slice Ao (ord l).length co) (.slice Al l.length cl) (.slice Ac l.length cc) (cntW l (ord l)) (was l (ord l))) ∧
    Ints w Ao (ord l).length ((ord l).map fun s : Nat => (s : Int)) ∧ Ints w Al l.length l ∧ Ints w Ac l.length (codes l) ∧ lo ≤ b ∧
    (∀ a, Ao = some a → lo ≤ a.block) ∧ (∀ a, Al = some a → lo ≤ a.block) ∧ (∀ a, Ac = some a → lo ≤ a.block)
theorem NewT.tt {lo b : Nat} {w : World} {l : List Int} (h : NewT lo w b l) : TT w b l := by
  obtain ⟨Ao, co, Al, cl, Ac, cc, h1, h2, h3, h4, _⟩ := h
  exact ⟨Ao, co, Al, cl, Ac, cc, h1, h2, h3, h4⟩
theorem NewT.but {lo b : Nat} {w w' : World} {l : List Int} {S : List Nat} (h : NewT lo w b l) (hw : But S w w') (hS : ∀ k ∈ S, k < lo) : NewT lo w' b l := by
  obtain ⟨Ao, co, Al, cl, Ac, cc, h1, h2, h3, h4, h5, h6, h7, h8⟩ := h
  have off : ∀ A : Option Addr, (∀ a, A = some a → lo ≤ a.block) → ∀ k ∈ S, Off A k := fun A hA k hk a e => by
    have := hA a e; have := hS k hk; omega
  exact ⟨Ao, co, Al, cl, Ac, cc, h1.but hw (fun hb => by have := hS b hb; omega), h2.but hw (off _ h6), h3.but hw (off _ h7), h4.but hw (off _ h8), h5, h6, h7, h8⟩
def GotNew (w : World) (l : List Int) (e : Ending) (w' : World) : Prop :=
  ∃ b, e = .returned (.tuple #[.pointer (some ⟨b, 0, none⟩), .int .i64 0]) ∧ NewT w.heap.size w' b l ∧ But [] w w'
theorem was_le {l : List Int} {p r : List Nat} (h : ord l = p ++ r) : was l p ≤ 15 := by
  unfold was
  cases e : p.getLast? with
  | none => exact Nat.zero_le _
  | some t =>
    have := ord_len (l := l) (s := t) (h ▸ List.mem_append_left r (List.mem_of_getLast? e))
    show (l.getD t 0).toNat ≤ 15
    omega
theorem length_ord (l : List Int) : (ord l).length ≤ l.length := by
  have hnd : (ord l).Nodup := nodup_ordTo l 15
  have hm : ∀ s ∈ ord l, s < l.length := fun s hs => (ord_len hs).1
  generalize ord l = p at *
  have := sum_le_of_nodup (fun _ => 1) l.length p hnd hm
  simp only [List.map_const', List.sum_replicate_nat, List.length_range, Nat.mul_one] at this
  exact this

theorem Ints.but' {w w' : World} {A : Option Addr} {n : Nat} {l : List Int} {S : List Nat} (h : Ints w A n l) (hw : But S w w') (hA : 0 < n → ∀ k ∈ S, Off A k) : Ints w' A n l :=
  ⟨h.1, fun hn => (h.but hw (hA hn)).2 hn⟩
theorem Ints.off {w : World} {A : Option Addr} {n b : Nat} {l : List Int} (h : Ints w A n l) (hb : w.heap.size ≤ b) : 0 < n → Off A b := fun hn a e => by
  obtain ⟨g, o, e', hg, _⟩ := h.2 hn
  rw [e] at e'; injection e' with e'; subst e'; show g ≠ b; omega
set_option maxHeartbeats 1000000 in
theorem make_err {w : World} {A : Option Addr} {len cap : Nat} {l : List Int} (hl : Ints w A len l) (hm : len ≤ maxLen) (hc : chk l ≠ 0) :
    Calls Tryz.prog 75 #[.slice A len cap] w fun e w' => e = .returned (.tuple #[.pointer none, .int .i64 (chk l)]) ∧ w = w' := by
  have hck := check_any (cap := cap) hl hm
  generalize chk l = x at *
  have HC := Lib.hid hck
  have hx : (x != 0) = true := by simpa using hc
  clear hck hm hc
  go_enter Tryz.func75, Tryz.ntmps75
  go_wp2_with fail
  refine HC.out.mono ?_
  rintro e w' ⟨rfl, rfl⟩
  go_wp2_with fail
  go_ret2
  exact ⟨rfl, rfl⟩

set_option maxRecDepth 100000 in
set_option maxHeartbeats 2000000 in
theorem make_new {w : World} {A : Option Addr} {len cap : Nat} {l : List Int} (hl : Ints w A len l) (hb8 : len * 8 ≤ 140737488351232) (hnil : A = none → cap = 0) (hc : chk l = 0) :
    Calls Tryz.prog 75 #[.slice A len cap] w (GotNew w l) := by
  obtain ⟨h1, h2, hks, h4⟩ := chk_zero hc
  have hm : len ≤ maxLen := by unfold maxLen; omega
  obtain ⟨i0, hi0, hz0, hz1, hz2⟩ := info_parts info_int
  have hlen := hl.1
  have h288 : len ≤ 288 := by omega
  have hck := check_any (cap := cap) hl hm
  rw [hc] at hck
  have HC := Lib.hid hck
  have HLEN := Lib.hid hlen
  have hord := length_ord l
  rw [hlen] at hord
  clear hck h2 h4 h1 hlen hc
  go_enter Tryz.func75, Tryz.ntmps75
  go_wp2_with fail
  refine HC.out.mono ?_
  rintro e w' ⟨rfl, rfl⟩
  go_upto_region 4 with (fail)
  go_cut [5] (fun pv w1 => ∃ (b : Nat) (Ao : Option Addr) (co : Nat) (Al : Option Addr) (cl : Nat), pv = .pointer (some ⟨b, 0, none⟩) ∧ Is w1 b 136 (tabCells (.slice Ao (ord l).length co) (.slice Al len cl) (.slice none 0 0) (fun _ => 0) 0) ∧
    Ints w1 Ao (ord l).length ((ord l).map fun s : Nat => (s : Int)) ∧ Ints w1 Al len l ∧ w.heap.size ≤ b ∧ (0 < (ord l).length → Off Ao b) ∧ (0 < len → Off Al b) ∧ But [] w w1 ∧ (∀ a, Ao = some a → w.heap.size ≤ a.block) ∧ (∀ a, Al = some a → w.heap.size ≤ a.block))
  case first =>
    go_wp2_with fail
    refine (ordered_new hl h288).mono ?_
    rintro e w1 ⟨Ao, co, rfl, hIo, hB1, hlow⟩
    have HLOW := Lib.hid hlow
    clear hlow
    have hl1 := hl.but hB1 (by simp)
    have HIO := Lib.hid hIo
    have HB1 := Lib.hid hB1
    have hsz1 := hB1.size
    clear hIo hB1 HC hl
    rcases A with _ | ad
    · obtain rfl := hnil rfl
      have h0 : len = 0 := by
        apply Classical.byContradiction; intro h
        obtain ⟨g, o, e, _⟩ := hl1.2 (by omega)
        cases e
      subst h0
      have HL1 := Lib.hid hl1
      clear hl1
      go_wp2
      go_meet
      exact ⟨w1.heap.size, Ao, co, none, 0, rfl, Is.fresh w1 _ _, HIO.out.but ((But.refl [] w1).alloc _) (by simp), HL1.out.but ((But.refl [] w1).alloc _) (by simp), hsz1, HIO.out.off (Nat.le_refl _), HL1.out.off (Nat.le_refl _), HB1.out.alloc _, HLOW.out, fun a e => by cases e⟩
    · have hnw : ∀ j u, (l.map (Value.int .i64))[j]? = some u → w1.cell? (ad.add j) = some u := by
        by_cases h0 : 0 < len
        · obtain ⟨g, o, e, _⟩ := hl1.2 h0
          obtain rfl : ad = ⟨g, o, none⟩ := by injection e
          exact hl1.news h0
        · intro j u hu
          have : l = [] := List.eq_nil_of_length_eq_zero (by have := HLEN.out; omega)
          subst this; simp at hu
      have HNW := Lib.hid hnw
      have HNIL := Lib.hid hnil
      clear hnw hnil hl1
      go_wp2_with (at_builtin; refine wpList_append_own _ rfl _ _ 58 rfl w1.heap.size 3 i0 (.int .i64 0) 1 8 Tryz.underlying58 hi0 hz0 hz1 hz2 rfl (by decide) (.slice none 0 0) 0 [] rfl (World.ownsRow_nil _ _ _ _) ad len cap (l.map (.int .i64)) rfl (by simp; exact HLEN.out) HNW.out ?c2 ?c3 ?c4 ?c5 ?_)
      case c2 => intro u hu; obtain ⟨x, _, rfl⟩ := List.mem_map.1 hu; rfl
      case c3 => unfold maxLen at *; omega
      case c4 => omega
      case c5 => simp
      intro v' w2 hown hgrow _
      obtain ⟨Al, cl, rfl⟩ : ∃ Al cl, v' = .slice Al len cl := by
        rcases hown.2 with ⟨e, e2⟩ | ⟨g4, c4, cur, e, _⟩
        · exact ⟨none, 0, by rw [e]; congr 1; omega⟩
        · exact ⟨_, c4, by simpa using e⟩
      have hOw : OwnI w2 w1.heap.size (.slice Al len cl) l := by
        unfold OwnI; rw [HLEN.out]; simpa using hown
      have hI2 := hOw.ints_of HLEN.out.symm
      have hlow2 : ∀ a, Al = some a → w.heap.size ≤ a.block := fun a e => by
        subst e
        have hb := (World.ownsRow.lt hOw a.block rfl).1
        omega
      have HLOW2 := Lib.hid hlow2
      clear hlow2
      have hB2 : But [] w1 w2 := (But.refl [] w1).grown hgrow (fun g e => by cases e)
      have HI2 := Lib.hid hI2
      have HB2 := Lib.hid hB2
      have hsz2 := hB2.size
      clear hown hgrow hOw hI2 hB2
      go_wp2
      go_meet
      exact ⟨w2.heap.size, Ao, co, Al, cl, rfl, Is.fresh w2 _ _, HIO.out.but (HB2.out.alloc _) (by simp), HI2.out.but ((But.refl [] w2).alloc _) (by simp), by omega, HIO.out.off hsz2, HI2.out.off (Nat.le_refl _), (HB1.out.trans HB2.out).alloc _, HLOW.out, HLOW2.out⟩
  case rest =>
    obtain ⟨b, Ao, co, Al, cl, rfl, hT, hIo, hIl, hwb, hoffo, hoffl, hB, hlow, hlow2⟩ := hcut
    have HLOW := Lib.hid hlow
    have HLOW2 := Lib.hid hlow2
    clear hlow hlow2
    go_upto_region 5 with (fail)
    go_cut [] (fun w2 => ∃ (gc : Nat), Is w2 b 136 (tabCells (.slice Ao (ord l).length co) (.slice Al len cl) (.slice (some ⟨gc, 0, none⟩) len len) (fun _ => 0) 0) ∧
      Ints w2 Ao (ord l).length ((ord l).map fun s : Nat => (s : Int)) ∧ Ints w2 Al len l ∧ Ints w2 (some ⟨gc, 0, none⟩) len (codes l) ∧ gc ≠ b ∧ But [] w w2 ∧ w.heap.size ≤ gc)
    case first =>
      have c0 : wc.drew.cell? ⟨b, 0, none⟩ = some (.slice Ao (ord l).length co) := hT.cell 0
      have c18 : wc.drew.cell? ⟨b, 18, none⟩ = some (.slice Al len cl) := hT.cell 18
      have d0 : wc.cell? ⟨b, 0, none⟩ = some (.slice Ao (ord l).length co) := hT.cell 0
      have d18 : wc.cell? ⟨b, 18, none⟩ = some (.slice Al len cl) := hT.cell 18
      have hcd := codesOf_any (w := wc.drew) (cap := cl) (cap2 := co) hIl hIo h288 hks
      have HCD := Lib.hid hcd
      have HT := Lib.hid hT
      have HB := Lib.hid hB
      have HIo := Lib.hid hIo
      have HIl := Lib.hid hIl
      have hbl := hT.lt
      clear hcd hT hB hIo hIl HC
      go_region_with (go_at_call 101; refine HCD.out.mono ?_; rintro e w2 ⟨rfl, hOc, hB2⟩; have f19 : w2.frozen? ⟨b, 19, none⟩ = false := (HT.out.but (((But.refl [] wc).drew).trans hB2) (by simp)).free 19; have c19 : w2.cell? ⟨b, 19, none⟩ = some (.slice none 0 0) := (HT.out.but (((But.refl [] wc).drew).trans hB2) (by simp)).cell 19)
      all_goals
        (try go_wp2)
        go_meet
        have hbe : But [] wc w2 := ((But.refl [] wc).drew).trans hB2
        have hgcb : wc.heap.size ≠ b := by omega
        have hpt := (HT.out.but hbe (by simp)).put 19 (.slice (some ⟨wc.heap.size, 0, none⟩) len len)
        rw [tab_codes] at hpt
        have hst : But [b] w2 (w2.setCell ⟨b, 19, none⟩ (.slice (some ⟨wc.heap.size, 0, none⟩) len len)) := (But.refl [b] w2).setCell (.inl (by simp)) _
        exact ⟨wc.heap.size, hpt, (HIo.out.but hbe (by simp)).but' hst (fun h k hk => by
            obtain rfl : k = b := by simpa using hk
            exact hoffo h),
          (HIl.out.but hbe (by simp)).but' hst (fun h k hk => by
            obtain rfl : k = b := by simpa using hk
            exact hoffl h),
          hOc.ints.but' hst (fun _ k hk a e => by
            obtain rfl : k = b := by simpa using hk
            injection e with e; subst e; exact hgcb),
          hgcb, (HB.out.trans hbe).setCell (.inr hwb) _, HB.out.size⟩
    case rest =>
      clear hT hIo hIl hB HC
      obtain ⟨gc, hT, hIo, hIl, hIc, hgcb, hB, hgcl⟩ := hcut
      have c0 : wc.cell? ⟨b, 0, none⟩ = some (.slice Ao (ord l).length co) := hT.cell 0
      go_wp2
      have hI0 : cntW l ((ord l).take 0) = fun _ => 0 := rfl
      have hom := hord
      go_loopw [36] (fun iv wr => ∃ j : Nat, j ≤ (ord l).length ∧ iv = .int .i64 j ∧ Is wr b 136 (tabCells (.slice Ao (ord l).length co) (.slice Al len cl) (.slice (some ⟨gc, 0, none⟩) len len) (cntW l ((ord l).take j)) (was l ((ord l).take j))) ∧ But [b] wc wr) (fun iv _ => (ord l).length - (intOf iv).toNat)
      case atStart => exact ⟨0, Nat.zero_le _, rfl, by rw [hI0]; exact hT, But.refl _ _⟩
      case round =>
        obtain ⟨j, hj, rfl, hTr, hBr⟩ := hrel
        clear hT hI0
        by_cases hlt : j < (ord l).length
        · have hsp : ord l = (ord l).take j ++ (ord l)[j]'hlt :: (ord l).drop (j + 1) := by
            rw [List.getElem_cons_drop, List.take_append_drop]
          have hts : (ord l).take (j + 1) = (ord l).take j ++ [(ord l)[j]'hlt] := List.take_succ_eq_append_getElem hlt
          obtain ⟨g, o, rfl, hg, hc⟩ := hIo.at hlt
          replace hc := hBr.cell hc (by
            have := hoffo (by omega) _ rfl
            simp; exact this)
          rw [List.getElem_map] at hc
          have hsl := ord_len (List.getElem_mem hlt)
          have h5 := cntW_snoc l ((ord l).take j) ((ord l)[j]'hlt)
          have h6 := was_snoc l ((ord l).take j) ((ord l)[j]'hlt)
          rw [← hts] at h5 h6
          have hw15 := was_le hsp
          have hcl := cntW_le l ((ord l).take j)
          rw [List.length_take] at hcl
          generalize (ord l)[j]'hlt = s at *
          obtain ⟨g2, o2, rfl, hg2, hc2⟩ := hIl.at (show s < len by have := HLEN.out; omega)
          replace hc2 := hBr.cell hc2 (by
            have := hoffl (by omega) _ rfl
            simp; exact this)
          have hgd : l.getD s 0 = l[s]'(by omega) := by rw [List.getD_eq_getElem?_getD, List.getElem?_eq_getElem (by omega)]; rfl
          obtain ⟨n, hn⟩ : ∃ n, n = (l.getD s 0).toNat := ⟨_, rfl⟩
          have hln : l[s]'(by omega) = (n : Int) := by rw [← hgd]; omega
          rw [hln] at hc2
          rw [← hn] at h5 h6
          have hn15 : n ≤ 15 := by omega
          generalize hW : cntW l ((ord l).take j) = W at *
          generalize hL : was l ((ord l).take j) = L at *
          clear hW hL hsp hts hgd hln hn
          have H5 := Lib.hid (show cntW l ((ord l).take (j + 1)) = fun k => if k = n then W n + 1 else W k by
            funext k; rw [h5]; by_cases e : n = k
            · subst e; simp
            · rw [if_neg e, if_neg (Ne.symm e)]; rfl)
          have H6 := Lib.hid h6
          clear h5 h6
          have hWn := hcl n
          have k0 : wr.cell? ⟨b, 0, none⟩ = some (.slice (some ⟨g, o, none⟩) (ord l).length co) := hTr.cell 0
          have k17 : wr.cell? ⟨b, 17, none⟩ = some (.int .i64 (L : Nat)) := hTr.cell 17
          have k18 : wr.cell? ⟨b, 18, none⟩ = some (.slice (some ⟨g2, o2, none⟩) len cl) := hTr.cell 18
          have f17 : wr.frozen? ⟨b, 17, none⟩ = false := hTr.free 17
          have s0 : (0 : Int) ≤ (s : Int) := by omega
          have s1 : (s : Int) < (len : Int) := by have := HLEN.out; omega
          have hT1 : Is (wr.setCell ⟨b, 17, none⟩ (.int .i64 (n : Nat))) b 136 (tabCells (.slice (some ⟨g, o, none⟩) (ord l).length co) (.slice (some ⟨g2, o2, none⟩) len cl) (.slice (some ⟨gc, 0, none⟩) len len) W n) := by
            have := hTr.put 17 (.int .i64 (n : Nat)); rw [tab_last] at this; exact this
          have hB1 : But [b] wc (wr.setCell ⟨b, 17, none⟩ (.int .i64 (n : Nat))) := hBr.setCell (.inl (by simp)) _
          have HT1 := Lib.hid hT1
          have HB1 := Lib.hid hB1
          clear hT1 hB1 hTr hBr hcl hoffo hoffl hIo hIl
          go_upto_region 10 with (fail)
          generalize wr.setCell ⟨b, 17, none⟩ (.int .i64 (n : Nat)) = w1 at *
          have q17 : w1.drew.cell? ⟨b, 17, none⟩ = some (.int .i64 (n : Nat)) := HT1.out.cell 17
          have qn : w1.drew.cell? ⟨b, 1 + n, none⟩ = some (.int .i64 (W n : Nat)) := (HT1.out.cell (1 + n)).trans (tab_word _ _ _ _ _ _ (by omega))
          have qf : w1.drew.frozen? ⟨b, 1 + n, none⟩ = false := HT1.out.free (1 + n)
          have HT2 := Lib.hid (show Is w1.drew b 136 _ from HT1.out)
          have HB2 := Lib.hid (HB1.out.drew)
          clear HT1 HB1 k0 k17 k18 f17 hc hc2
          have n0 : (0 : Int) ≤ (n : Int) := by omega
          have n1 : (n : Int) < 16 := by omega
          have ew : IntKind.i64.wrap ((W n : Nat) + 1) = ((W n : Nat) : Int) + 1 := IntWalk.i64_in _ (by omega)
          refine wp_region_still_tail 13 (by kernel_rfl) (by kernel_rfl) ?_
          simp only [List.take_succ_cons, List.take_zero, List.drop_succ_cons, List.drop_zero]
          change wpStill _ _ w1.drew (fun a' => wpList _ _ _ _ a' w1.drew) _ _
          generalize w1.drew = W1 at *
          repeat still_step
          refine wpStill_nil ?_
          clear ew
          go_wp2
          go_roundw
          case rel =>
            refine ⟨j + 1, by omega, by go_num, ?_, HB2.out.setCell (.inl (by simp)) _⟩
            rw [H5.out, H6.out]
            have := HT2.out.put (1 + n) (.int .i64 ((W n + 1 : Nat) : Int))
            rw [tab_put _ _ _ _ _ _ (by omega)] at this
            simpa using this
          case measure => simp [intOf]; omega
        · obtain hje : j = (ord l).length := by omega
          subst hje
          rw [List.take_of_length_le (Nat.le_refl _)] at hTr
          have hfin : NewT w.heap.size wr b l := by
            refine ⟨Ao, co, Al, cl, some ⟨gc, 0, none⟩, len, ?_, hIo.but' hBr (fun h k hk => by
                obtain rfl : k = b := by simpa using hk
                exact hoffo h), ?_, ?_, hwb, HLOW.out, HLOW2.out, fun a e => by injection e with e; subst e; exact hgcl⟩
            · rw [HLEN.out]; exact hTr
            · rw [HLEN.out]
              exact hIl.but' hBr (fun h k hk => by
                obtain rfl : k = b := by simpa using hk
                exact hoffl h)
            · rw [HLEN.out]
              exact hIc.but' hBr (fun _ k hk a e => by
                obtain rfl : k = b := by simpa using hk
                injection e with e; subst e; exact hgcb)
          have HF := Lib.hid hfin
          have HB := Lib.hid (hB.fresh hBr (fun i hi => by
            obtain rfl : i = b := by simpa using hi
            exact hwb))
          clear hfin hTr hBr
          go_wp2
          go_ret2
          exact ⟨b, rfl, HF.out, HB.out⟩
end Go.Proofs.YtghegmbafbpnjaaGreatDoor
namespace Go.Proofs.YtghegmbafbpnjaaGreatDoor
set_option maxRecDepth 100000
open Go Go.RowKit
/-- The program's writer in block b1 and the document's in block b2, side by side; all of theirs lies above what was there at first. -/
def Pair (w0 wr : World) (b1 b2 X N Y M : Nat) : Prop :=
  ∃ og1 og2, WS wr w0.heap.size b1 og1 X N ∧ FW wr w0.heap.size b2 og2 Y M ∧ (∀ g, og1 = some g → w0.heap.size ≤ g ∧ og2 ≠ some g) ∧ (∀ g, og2 = some g → w0.heap.size ≤ g) ∧
    But [] w0 wr ∧ w0.heap.size ≤ b1 ∧ w0.heap.size ≤ b2 ∧ b1 ≠ b2
section
variable {w0 wr : World} {b1 b2 X N Y M : Nat}
theorem Pair.keep (h : Pair w0 wr b1 b2 X N Y M) {w' : World} (hB' : But [] wr w') : Pair w0 w' b1 b2 X N Y M := by
  obtain ⟨og1, og2, hW, hF, h1, h2, hB, hb1, hb2, hb⟩ := h
  exact ⟨og1, og2, hW.but hB' (by simp) (by simp), hF.but hB' (by simp) (by simp), h1, h2, hB.trans hB', hb1, hb2, hb⟩
end
end Go.Proofs.YtghegmbafbpnjaaGreatDoor
namespace Go.Proofs.YtghegmbafbpnjaaGreatDoor
set_option maxRecDepth 100000
open Go Go.RowKit
/-- The bits of a code of which so many are still to be laid, the highest first. -/
def layG (c : Int) : Nat → Nat → Nat → Nat × Nat
  | 0, X, N => (X, N)
  | i + 1, X, N => layG c i (layX X N (c / 2 ^ i) 1) (layN N 1)
/-- Has this symbol a code? -/
def has (l : List Int) (s : Int) : Prop := 0 ≤ s ∧ s < l.length ∧ l.getD s.toNat 0 ≠ 0
instance (l : List Int) (s : Int) : Decidable (has l s) := by unfold has; infer_instance
def layS (l : List Int) (s : Int) (X N : Nat) : Nat × Nat := if has l s then layG ((codes l).getD s.toNat 0) (l.getD s.toNat 0).toNat X N else (X, N)
theorem layN_one (N : Nat) : layN N 1 = N + 1 := by unfold layN; rw [if_neg (by omega)]; rfl
theorem layG_len (c : Int) : ∀ (n X N : Nat), (layG c n X N).2 = N + n
  | 0, _, _ => rfl
  | n + 1, X, N => by rw [layG, layG_len c n, layN_one]; omega

theorem getD_get {l : List Int} {n : Nat} (h : n < l.length) : l.getD n 0 = l[n] := by rw [List.getD_eq_getElem?_getD, List.getElem?_eq_getElem h]; rfl

/-- The document's table of lengths lies in block b. -/
def RT (w : World) (b : Nat) (l : List Int) : Prop :=
  ∃ Al cl Ac cc, Is w b 127 #[.slice Al l.length cl, .slice Ac l.length cc] ∧ Ints w Al l.length l ∧ Ints w Ac l.length (codes l)
theorem RT.but {w w' : World} {b : Nat} {l : List Int} (h : RT w b l) (hw : But [] w w') : RT w' b l := by
  obtain ⟨Al, cl, Ac, cc, h1, h3, h4⟩ := h
  exact ⟨Al, cl, Ac, cc, h1.but hw (by simp), h3.but hw (by simp), h4.but hw (by simp)⟩

end Go.Proofs.YtghegmbafbpnjaaGreatDoor
namespace Go.Proofs.YtghegmbafbpnjaaGreatDoor
set_option maxRecDepth 100000
/-- The symbol of this length and this code. -/
def findS (l : List Int) (n c : Nat) : Option Nat := (List.range l.length).find? fun s => decide (l.getD s 0 = (n : Int) ∧ (codes l).getD s 0 = (c : Int))
/-- The symbol, what is wrong, and where reading ends. -/
def nextG (l : List Int) (s : ByteArray) : Nat → Nat → Nat → Nat → Nat × Int × Nat
  | 0, _, _, p => (0, 12, p)
  | f + 1, n, c, p => if bitsErr s p 1 ≠ 0 then (0, bitsErr s p 1, p) else
    match findS l n (2 * c + bitsVal s p 1) with
    | some i => (i, 0, bitsGo s p 1)
    | none => nextG l s f (n + 1) (2 * c + bitsVal s p 1) (bitsGo s p 1)
def longest (l : List Int) : Nat := if many l = 0 then 0 else if many l = 1 ∧ top l = 1 then 1 else 15
def nextS (l : List Int) (s : ByteArray) (p : Nat) : Nat × Int × Nat := nextG l s (longest l) 1 0 p
/-- The first number behind the codes of this length. -/
def gN (l : List Int) (n : Nat) : Nat := kp l (ordTo l n) / 2 ^ (15 - n)
def inN (l : List Int) (n : Nat) : List Nat := inLen l n l.length

theorem kp_same {l : List Int} {n : Nat} (h1 : 1 ≤ n) (h2 : n ≤ 15) (p q : List Nat) (hq : ∀ s ∈ q, l.getD s 0 = (n : Int)) : kp l (p ++ q) = kp l p + q.length * 2 ^ (15 - n) := by
  rw [kp_eq, kp_eq, List.map_append, List.sum_append]
  congr 1
  induction q with
  | nil => simp
  | cons s q ih =>
    have e : kr (l.getD s 0) = 2 ^ (15 - n) := by
      rw [hq s (by simp)]; unfold kr; rw [if_pos (by omega)]; congr 1
    rw [List.map_cons, List.sum_cons, List.length_cons, ih (fun s hs => hq s (by simp [hs])), e, Nat.add_mul, Nat.one_mul]; omega
theorem inN_len {l : List Int} {n s : Nat} (h : s ∈ inN l n) : s < l.length ∧ l.getD s 0 = (n : Int) := mem_inLen.1 h
theorem kp_dvd (l : List Int) : ∀ n, n ≤ 15 → ∃ a, kp l (ordTo l n) = a * 2 ^ (15 - n)
  | 0, _ => ⟨0, by simp [ordTo, kp, cst]⟩
  | n + 1, h => by
    obtain ⟨a, ha⟩ := kp_dvd l n (by omega)
    refine ⟨2 * a + (inN l (n + 1)).length, ?_⟩
    rw [ordTo, show inLen l (n + 1) l.length = inN l (n + 1) from rfl, kp_same (n := n + 1) (by omega) h _ _ (fun s hs => (inN_len hs).2), ha]
    have e : 15 - n = (15 - (n + 1)) + 1 := by omega
    rw [e, Nat.pow_succ, Nat.add_mul]
    congr 1
    rw [Nat.mul_comm (2 ^ _) 2, ← Nat.mul_assoc, Nat.mul_comm a 2]
theorem gN_eq {l : List Int} {n a : Nat} (h : kp l (ordTo l n) = a * 2 ^ (15 - n)) : gN l n = a := by
  unfold gN; rw [h, Nat.mul_div_cancel _ (Nat.two_pow_pos _)]
theorem kp_gN (l : List Int) (n : Nat) (h : n ≤ 15) : kp l (ordTo l n) = gN l n * 2 ^ (15 - n) := by
  obtain ⟨a, ha⟩ := kp_dvd l n h
  rw [gN_eq ha, ha]
theorem gN_zero (l : List Int) : gN l 0 = 0 := by simp [gN, ordTo, kp, cst]
theorem gN_succ (l : List Int) (n : Nat) (h : n < 15) : gN l (n + 1) = 2 * gN l n + (inN l (n + 1)).length := by
  apply gN_eq
  rw [ordTo, show inLen l (n + 1) l.length = inN l (n + 1) from rfl, kp_same (n := n + 1) (by omega) (by omega) _ _ (fun s hs => (inN_len hs).2), kp_gN l n (by omega)]
  have e : 15 - n = (15 - (n + 1)) + 1 := by omega
  rw [e, Nat.pow_succ, Nat.add_mul]
  congr 1
  rw [Nat.mul_comm (2 ^ _) 2, ← Nat.mul_assoc, Nat.mul_comm (gN l n) 2]

theorem fold_keep {l : List Int} {s : Nat} : ∀ (r : List Nat) (st : List Int × Nat), s ∉ r → (r.foldl (stp l) st).1.getD s 0 = st.1.getD s 0
  | [], _, _ => rfl
  | t :: r, st, h => by
    rw [List.foldl_cons, fold_keep r _ (fun h2 => h (by simp [h2]))]
    have hne : t ≠ s := fun e => h (by simp [e])
    unfold stp
    simp only [List.getD_eq_getElem?_getD]
    rw [List.getElem?_set_ne hne]
theorem code_at {l : List Int} {p r : List Nat} {s : Nat} (h : ord l = p ++ s :: r) : (codes l).getD s 0 = ((kp l p / 2 ^ (15 - (l.getD s 0).toNat) : Nat) : Int) := by
  have hs := ord_len (s := s) (l := l) (by rw [h]; simp)
  have hn : s ∉ r := by
    have := nodup_ordTo l 15
    rw [show ordTo l 15 = ord l from rfl, h] at this
    exact (List.nodup_cons.1 (List.nodup_append.1 this).2.1).1
  unfold codes cds cst
  rw [h, List.foldl_append, List.foldl_cons, fold_keep r _ hn]
  have hl : (p.foldl (stp l) (List.replicate l.length 0, 0)).1.length = l.length := length_cds l p
  show ((p.foldl (stp l) (List.replicate l.length 0, 0)).1.set s _).getD s 0 = _
  rw [List.getD_eq_getElem?_getD, List.getElem?_set_self (by rw [hl]; exact hs.1)]
  rfl
theorem ord_split (l : List Int) {n : Nat} (h : n < 15) : ∃ r, ord l = ordTo l n ++ (inN l (n + 1) ++ r) := by
  obtain ⟨r, hr⟩ := ordTo_prefix l (n + 1) (15 - (n + 1))
  rw [show n + 1 + (15 - (n + 1)) = 15 from by omega] at hr
  exact ⟨r, by rw [ord, hr, ordTo, List.append_assoc]; rfl⟩
theorem code_in {l : List Int} {n j : Nat} (h : n < 15) (hj : j < (inN l (n + 1)).length) : (codes l).getD (inN l (n + 1))[j] 0 = ((2 * gN l n + j : Nat) : Int) := by
  obtain ⟨r, hr⟩ := ord_split l h
  have hs : ord l = (ordTo l n ++ (inN l (n + 1)).take j) ++ (inN l (n + 1))[j] :: ((inN l (n + 1)).drop (j + 1) ++ r) := by
    rw [hr, List.append_assoc]
    congr 1
    rw [← List.cons_append, ← List.append_assoc, List.getElem_cons_drop, List.take_append_drop]
  rw [code_at hs]
  congr 1
  have hl := (inN_len (List.getElem_mem hj)).2
  rw [hl, Int.toNat_natCast, kp_same (n := n + 1) (by omega) (by omega) _ _ (fun s hs => (inN_len (List.mem_of_mem_take hs)).2), kp_gN l n (by omega), List.length_take, Nat.min_eq_left (by omega)]
  have e : 15 - n = (15 - (n + 1)) + 1 := by omega
  rw [e, Nat.pow_succ, show gN l n * (2 ^ (15 - (n + 1)) * 2) + j * 2 ^ (15 - (n + 1)) = (2 * gN l n + j) * 2 ^ (15 - (n + 1)) from by rw [Nat.add_mul, Nat.mul_comm 2 (gN l n), Nat.mul_assoc, Nat.mul_comm 2], Nat.mul_div_cancel _ (Nat.two_pow_pos _)]
theorem findS_some {l : List Int} {n j : Nat} (h : n < 15) (hj : j < (inN l (n + 1)).length) : findS l (n + 1) (2 * gN l n + j) = some (inN l (n + 1))[j] := by
  have hm := inN_len (List.getElem_mem hj)
  have hc := code_in h hj
  cases e : findS l (n + 1) (2 * gN l n + j) with
  | none =>
    have := List.find?_eq_none.1 e _ (List.mem_range.2 hm.1)
    simp only [decide_eq_true_eq] at this
    exact absurd ⟨hm.2, hc⟩ this
  | some t =>
    have h1 := List.find?_some e
    have h2 := List.mem_range.1 (List.mem_of_find?_eq_some e)
    simp only [decide_eq_true_eq] at h1
    obtain ⟨i, hi, hit⟩ := List.getElem_of_mem (show t ∈ inN l (n + 1) from mem_inLen.2 ⟨h2, h1.1⟩)
    have h3 := code_in h hi
    rw [hit, h1.2] at h3
    obtain rfl : i = j := by omega
    rw [hit]
theorem findS_none {l : List Int} {n c : Nat} (h : n < 15) (hc : c < 2 * gN l n ∨ gN l (n + 1) ≤ c) : findS l (n + 1) c = none := by
  refine List.find?_eq_none.2 fun t ht hp => ?_
  have h2 := List.mem_range.1 ht
  simp only [decide_eq_true_eq] at hp
  obtain ⟨i, hi, hit⟩ := List.getElem_of_mem (show t ∈ inN l (n + 1) from mem_inLen.2 ⟨h2, hp.1⟩)
  have h3 := code_in h hi
  rw [hit, hp.2] at h3
  have := gN_succ l n h
  omega
theorem filter_ordTo (l : List Int) {n : Nat} (h1 : 1 ≤ n) : ∀ k, (ordTo l k).filter (fun s => decide ((l.getD s 0).toNat = n)) = if n ≤ k then inN l n else []
  | 0 => by rw [if_neg (by omega)]; rfl
  | k + 1 => by
    rw [ordTo, List.filter_append, filter_ordTo l h1 k]
    by_cases e : n = k + 1
    · subst e
      rw [if_neg (by omega), if_pos (Nat.le_refl _), List.nil_append]
      exact List.filter_eq_self.2 fun s hs => by
        have := (mem_inLen.1 hs).2
        simp only [decide_eq_true_eq]; omega
    · have : (inLen l (k + 1) l.length).filter (fun s => decide ((l.getD s 0).toNat = n)) = [] := List.filter_eq_nil_iff.2 fun s hs => by
        have := (mem_inLen.1 hs).2
        simp only [decide_eq_true_eq]; omega
      rw [this, List.append_nil]
      by_cases e2 : n ≤ k
      · rw [if_pos e2, if_pos (by omega)]
      · rw [if_neg e2, if_neg (by omega)]
theorem cntW_ord (l : List Int) {n : Nat} (h1 : 1 ≤ n) (h2 : n ≤ 15) : cntW l (ord l) n = (inN l n).length := by
  unfold cntW ord; rw [filter_ordTo l h1, if_pos h2]
theorem ord_at (l : List Int) {n j : Nat} (h : n < 15) (hj : j < (inN l (n + 1)).length) : (ord l)[(ordTo l n).length + j]? = some (inN l (n + 1))[j] := by
  obtain ⟨r, hr⟩ := ord_split l h
  rw [hr, List.getElem?_append_right (by omega), Nat.add_sub_cancel_left, List.getElem?_append_left hj, List.getElem?_eq_getElem hj]
theorem length_ordTo (l : List Int) (n : Nat) : (ordTo l (n + 1)).length = (ordTo l n).length + (inN l (n + 1)).length := by
  rw [ordTo, List.length_append]; rfl

theorem sum_filter (f : Nat → Nat) (P : Nat → Bool) : ∀ L : List Nat, ((L.filter P).map f).sum = (L.map fun s => if P s then f s else 0).sum
  | [] => rfl
  | s :: L => by
    rw [List.map_cons, List.sum_cons, ← sum_filter f P L, List.filter_cons]
    by_cases h : P s = true
    · rw [if_pos h, if_pos h, List.map_cons, List.sum_cons]
    · rw [if_neg h, if_neg h, Nat.zero_add]
theorem sum_add (f g : Nat → Nat) : ∀ L : List Nat, (L.map f).sum + (L.map g).sum = (L.map fun s => f s + g s).sum
  | [] => rfl
  | s :: L => by
    have := sum_add f g L
    simp only [List.map_cons, List.sum_cons]; omega
theorem sum_ordTo (l : List Int) (f : Nat → Nat) : ∀ k, ((ordTo l k).map f).sum = ((List.range l.length).map fun s => if 1 ≤ l.getD s 0 ∧ l.getD s 0 ≤ (k : Int) then f s else 0).sum
  | 0 => by
    have : ∀ L : List Nat, (L.map fun s => if 1 ≤ l.getD s 0 ∧ l.getD s 0 ≤ ((0 : Nat) : Int) then f s else 0).sum = 0 := by
      intro L
      induction L with
      | nil => rfl
      | cons s L ih => rw [List.map_cons, List.sum_cons, ih, if_neg (by omega)]
    rw [this]; rfl
  | k + 1 => by
    rw [ordTo, List.map_append, List.sum_append, sum_ordTo l f k, inLen, sum_filter, sum_add]
    congr 1
    apply List.map_congr_left
    intro s _
    by_cases h : l.getD s 0 = ((k + 1 : Nat) : Int)
    · rw [if_neg (by omega), if_pos (by simpa using h), if_pos (by omega), Nat.zero_add]
    · rw [if_neg (c := decide _ = true) (by simpa using h), Nat.add_zero]
      by_cases h2 : 1 ≤ l.getD s 0 ∧ l.getD s 0 ≤ (k : Int)
      · rw [if_pos h2, if_pos (by omega)]
      · rw [if_neg h2, if_neg (by omega)]
theorem kp_ord {l : List Int} (hok : ∀ x ∈ l, 0 ≤ x ∧ x ≤ 15) : kp l (ord l) = ksum l := by
  rw [kp_eq, ord, sum_ordTo, ← range_sum]
  congr 1
  apply List.map_congr_left
  intro s hs
  have hs' := List.mem_range.1 hs
  have := hok _ (List.getElem_mem hs')
  rw [← getD_get hs'] at this
  by_cases h : 1 ≤ l.getD s 0
  · rw [if_pos ⟨h, by omega⟩]
  · rw [if_neg (by omega)]; unfold kr; rw [if_neg (by omega)]
theorem was_top (l : List Int) : ∀ s ∈ ord l, (l.getD s 0).toNat ≤ was l (ord l) := by
  intro s hs
  have hp := sorted_ordTo l 15
  rw [show ordTo l 15 = ord l from rfl] at hp
  generalize ord l = p at *
  rcases List.eq_nil_or_concat p with e | ⟨q, t, e⟩
  · subst e; cases hs
  · subst e
    rw [List.concat_eq_append] at *
    rw [was_snoc]
    rcases List.mem_append.1 hs with h | h
    · have := (List.pairwise_append.1 hp).2.2 s h t (by simp)
      omega
    · rw [List.mem_singleton.1 h]; exact Nat.le_refl _
theorem ord_was (l : List Int) (h : was l (ord l) ≤ 15) : ordTo l (was l (ord l)) = ord l := by
  have ht := was_top l
  generalize was l (ord l) = k at *
  have : ∀ d, k + d ≤ 15 → ordTo l (k + d) = ordTo l k := by
    intro d
    induction d with
    | zero => intro _; rfl
    | succ d ih =>
      intro hd
      rw [← Nat.add_assoc, ordTo, ih (by omega)]
      have : inLen l (k + d + 1) l.length = [] := by
        apply List.eq_nil_iff_forall_not_mem.2
        intro s hs
        obtain ⟨h1, h2⟩ := mem_inLen.1 hs
        have := ht s (mem_ordTo.2 ⟨h1, by omega, by omega⟩)
        omega
      rw [this, List.append_nil]
  have := this (15 - k) (by omega)
  rw [show k + (15 - k) = 15 from by omega] at this
  exact this.symm
theorem ksum_many (l : List Int) : ksum l ≤ many l * 16384 := by
  induction l with
  | nil => simp [ksum, many]
  | cons x l ih =>
    have : kr x ≤ if 0 < x then 16384 else 0 := by
      unfold kr
      by_cases h : 0 < x
      · rw [if_pos h, if_pos h]
        exact Nat.le_trans (Nat.pow_le_pow_right (by decide) (show 15 - x.toNat ≤ 14 by omega)) (by decide)
      · rw [if_neg h, if_neg h]; exact Nat.le_refl _
    have e : many (x :: l) = (if 0 < x then 1 else 0) + many l := by
      unfold many
      by_cases h : 0 < x
      · rw [List.filter_cons, if_pos (by simpa using h), if_pos h, List.length_cons]; omega
      · rw [List.filter_cons, if_neg (by simpa using h), if_neg h]; omega
    have e2 : ksum (x :: l) = kr x + ksum l := rfl
    rw [e, e2]
    by_cases h : 0 < x
    · rw [if_pos h] at this ⊢; omega
    · rw [if_neg h] at this ⊢; omega
end Go.Proofs.YtghegmbafbpnjaaGreatDoor
namespace Go.Proofs.YtghegmbafbpnjaaGreatDoor
set_option maxRecDepth 100000
open Go Go.RowKit
theorem was_ok (l : List Int) : was l (ord l) ≤ 15 := was_le (r := []) (by simp)
theorem was_most (l : List Int) : (was l (ord l) : Int) ≤ top l := by
  have h0 := top_nonneg l
  unfold was
  cases e : (ord l).getLast? with
  | none => exact h0
  | some t =>
    have ht := ord_len (List.mem_of_getLast? e)
    have hm := top_mem l _ (List.getElem_mem ht.1)
    rw [← getD_get ht.1] at hm
    show (((l.getD t 0).toNat : Nat) : Int) ≤ top l
    omega
theorem was_none {l : List Int} (hok : ∀ x ∈ l, 0 ≤ x ∧ x ≤ 15) (h : was l (ord l) = 0) : ksum l = 0 := by
  have : ord l = [] := List.eq_nil_iff_forall_not_mem.2 fun s hs => by
    have h1 := was_top l s hs
    have h2 := ord_len hs
    omega
  rw [← kp_ord hok, this]; rfl
theorem chk_okay {l : List Int} (h : chk l = 0) : ∀ x ∈ l, 0 ≤ x ∧ x ≤ 15 := by
  obtain ⟨h1, h2, h3, h4⟩ := chk_zero h
  unfold okLens at h2
  intro x hx
  have := List.all_eq_true.1 h2 x hx
  unfold okLen at this
  simpa using this
theorem longest_many {l : List Int} (h : ksum l = 32768) : longest l = 15 := by
  have := ksum_many l
  unfold longest
  rw [if_neg (by omega), if_neg (by omega)]
theorem top_longest {l : List Int} (hc : chk l = 0) : was l (ord l) ≤ longest l := by
  obtain ⟨h1, h2, h3, h4⟩ := chk_zero hc
  have hw := was_most l
  have hw15 := was_ok l
  rcases h4 with h | h | h
  · rw [longest_many h]; exact hw15
  · have := (one_sum l h2 h).2
    omega
  · have := (single_iff l h2).1 h
    unfold longest
    rw [if_neg (by omega), if_pos this]; omega
/-- Behind the last length nothing is left, unless the codes are single or empty. -/
theorem next_end {l : List Int} (hc : chk l = 0) {c : Nat} (h1 : gN l (was l (ord l)) ≤ c) (h2 : c < 2 ^ was l (ord l)) : longest l = was l (ord l) := by
  have hok := chk_okay hc
  obtain ⟨_, hl, _, h4⟩ := chk_zero hc
  have hw := was_most l
  have hw15 := was_ok l
  have hlo := top_longest hc
  rcases h4 with h | h | h
  · exfalso
    have e := kp_gN l (was l (ord l)) hw15
    rw [ord_was l hw15, kp_ord hok, h] at e
    have e2 : 2 ^ was l (ord l) * 2 ^ (15 - was l (ord l)) = 32768 := by
      rw [← Nat.pow_add, show was l (ord l) + (15 - was l (ord l)) = 15 from by omega]
    have := Nat.eq_of_mul_eq_mul_right (Nat.two_pow_pos (15 - was l (ord l))) (e2.trans e)
    omega
  · have : longest l = 0 := by unfold longest; rw [if_pos h]
    omega
  · have ht := (single_iff l hl).1 h
    have : longest l = 1 := by unfold longest; rw [if_neg (by omega), if_pos ht]
    by_cases h0 : was l (ord l) = 0
    · have := was_none hok h0
      omega
    · omega

theorem nextG_zero (l : List Int) (s : ByteArray) (n c p : Nat) : nextG l s 0 n c p = (0, 12, p) := rfl
theorem nextG_succ (l : List Int) (s : ByteArray) (f n c p : Nat) : nextG l s (f + 1) n c p = if bitsErr s p 1 ≠ 0 then (0, bitsErr s p 1, p) else
    match findS l n (2 * c + bitsVal s p 1) with
    | some i => (i, 0, bitsGo s p 1)
    | none => nextG l s f (n + 1) (2 * c + bitsVal s p 1) (bitsGo s p 1) := rfl
theorem ordTo_none (l : List Int) : (ordTo l 0).length = 0 := rfl
theorem nextS_eq (l : List Int) (s : ByteArray) (p : Nat) : nextG l s (longest l - 0) (0 + 1) 0 p = nextS l s p := rfl
attribute [local irreducible] ord was cntW inN gN findS nextG longest ordTo
def GotNext (w : World) (b d : Nat) (l : List Int) (s : ByteArray) (p : Nat) (e : Ending) (w' : World) : Prop :=
  ∃ q, nextS l s p = q ∧ e = .returned (.tuple #[.int .i64 (q.1 : Nat), .int .i64 q.2.1]) ∧ RS w' b d s q.2.2 ∧ But [b] w w'

theorem gotNext_of {w : World} {b d : Nat} {l : List Int} {s : ByteArray} {p x pp : Nat} {err : Int} {q : Nat × Int × Nat} {e : Ending} {w' : World} (h : nextS l s p = q) (h2 : (x, err, pp) = q)
    (he : e = .returned (.tuple #[.int .i64 (x : Nat), .int .i64 err])) (hr : RS w' b d s pp) (hB : But [b] w w') : GotNext w b d l s p e w' := by
  subst h2
  exact ⟨_, h, he, hr, hB⟩

set_option maxRecDepth 100000 in
set_option maxHeartbeats 200000 in
theorem next_w {w : World} {bt b d p : Nat} {l : List Int} {s : ByteArray} (hc : chk l = 0) (hR : RS w b d s p) (hs : s.size ≤ 140737489403904) (hb : ∀ w', But [b] w w' → TT w' bt l) :
    Calls Tryz.prog 62 #[.pointer (some ⟨bt, 0, none⟩), .pointer (some ⟨b, 0, none⟩)] w (GotNext w b d l s p) := by
  have hsum := chk_zero hc
  have hlo := top_longest hc
  have hlen := length_ord l
  have hwok := was_ok l
  obtain ⟨h288, -, -, -⟩ := hsum
  have HC := Lib.hid hc
  have HR := Lib.hid hR
  have HB := Lib.hid hb
  clear hc hR hb
  go_enter Tryz.func62, Tryz.ntmps62
  go_wp2
  go_loopw [6, 7, 8, 9] (fun cv fv bv nv wr => ∃ n c p1 : Nat, n ≤ was l (ord l) ∧ cv = .int .i64 c ∧ fv = .int .i64 (2 * gN l n : Nat) ∧ bv = .int .i64 ((ordTo l n).length : Nat) ∧ nv = .int .i64 (n + 1 : Nat) ∧ gN l n ≤ c ∧ c < 2 ^ n ∧
    nextG l s (longest l - n) (n + 1) c p1 = nextS l s p ∧ RS wr b d s p1 ∧ But [b] w wr) (fun _ _ _ nv _ => (17 - intOf nv).toNat)
  case atStart => 
    exact ⟨0, 0, p, Nat.zero_le _, rfl, by rw [gN_zero]; rfl, by rw [ordTo_none]; rfl, rfl, by rw [gN_zero]; exact Nat.le_refl _, by decide, nextS_eq _ _ _, HR.out, But.refl _ _⟩
  case round =>
    obtain ⟨n, c, p1, hn, rfl, rfl, rfl, rfl, hc1, hc2, hG, hR1, hB1⟩ := hrel
    obtain ⟨Ao, co, Al, cl, Ac, cc, hI, hIo, _, _⟩ := HB.out _ hB1
    have k17 : wr.cell? ⟨bt, 17, none⟩ = some (.int .i64 (was l (ord l) : Nat)) := hI.cell 17
    clear HR hI hIo
    generalize hNS : nextS l s p = q at *
    have HNS := Lib.hid hNS
    clear hNS
    have HG := Lib.hid hG
    have HC1 := Lib.hid hc1
    have HC2 := Lib.hid hc2
    clear hG hc1 hc2
    have hend : n = was l (ord l) → longest l = n := fun e => by
      have h1 := HC1.out
      have h2 := HC2.out
      rw [e] at h1 h2 ⊢
      exact next_end HC.out h1 h2
    have HEND := Lib.hid hend
    clear hend
    by_cases hlt : n < was l (ord l)
    · have hn14 : n < 15 := by omega
      have hpow := Nat.pow_le_pow_right (n := 2) (by decide) (show n ≤ 14 by omega)
      have hc14 : c < 16384 := by have := HC2.out; omega
      have hG14 : gN l n ≤ c := HC1.out
      have hsucc := gN_succ l n hn14
      have hcnt : cntW l (ord l) (n + 1) = (inN l (n + 1)).length := cntW_ord l (by omega) (by omega)
      have hmle := cntW_le l (ord l) (n + 1)
      have hbl := length_ordTo l n
      have hbl288 : (ordTo l n).length ≤ 288 := by
        obtain ⟨r, hr⟩ := ord_split l hn14
        have := congrArg List.length hr
        rw [List.length_append] at this; omega
      have hm288 : cntW l (ord l) (n + 1) ≤ 288 := by omega
      obtain ⟨f, hf⟩ : ∃ f, longest l - n = f + 1 := ⟨longest l - n - 1, by omega⟩
      have hnx : nextG l s (f + 1) (n + 1) c p1 = q := by rw [← hf]; exact HG.out
      have hf2 : longest l - (n + 1) = f := by omega
      have hbits := hR1.bits_w hs 1
      have hv2 : bitsVal s p1 1 < 2 := by
        unfold bitsVal; split
        · exact bitsAt_lt _ _ 1
        · decide
      clear HG hf hR1 hpow
      rw [nextG_succ] at hnx
      by_cases hE : bitsErr s p1 1 = 0
      · rw [if_neg (by simpa using hE)] at hnx
        rw [hE] at hbits
        have hgo : 2 * c + bitsVal s p1 1 < 2 ^ (n + 1) := by have := HC2.out; rw [Nat.pow_succ]; omega
        have hfound := fun j (hj : j < (inN l (n + 1)).length) => findS_some (l := l) (n := n) (j := j) hn14 hj
        have hnone := findS_none (l := l) (n := n) (c := 2 * c + bitsVal s p1 1) hn14
        have hidx := fun j (hj : j < (inN l (n + 1)).length) => ord_at l (n := n) (j := j) hn14 hj
        generalize bitsVal s p1 1 = v at *
        generalize bitsGo s p1 1 = p2 at *
        have HBITS := Lib.hid hbits
        have HNX := Lib.hid hnx
        have HFO := Lib.hid hfound
        have HNO := Lib.hid hnone
        have HIX := Lib.hid hidx
        have HGO := Lib.hid hgo
        have HSU := Lib.hid hsucc
        have HCNT := Lib.hid hcnt
        have HBL := Lib.hid hbl
        have HE := Lib.hid hE
        clear hbits hnx hfound hnone hidx hgo hsucc hcnt hbl hE
        generalize hK : was l (ord l) = K at *
        generalize hG : gN l n = G at *
        generalize hBL : (ordTo l n).length = BL at *
        have HK := Lib.hid hK
        have HGG := Lib.hid hG
        have HBB := Lib.hid hBL
        generalize hm0 : cntW l (ord l) (n + 1) = m at *
        generalize hOL : (ord l).length = OL at *
        generalize hLL : l.length = LL at *
        have HM0 := Lib.hid hm0
        have HOL := Lib.hid hOL
        have HLO := Lib.hid hlo
        have HF2 := Lib.hid hf2
        have HMLE := Lib.hid hmle
        have HLEN := Lib.hid hlen
        have HWOK := Lib.hid hwok
        have HSZ := Lib.hid hs
        clear hK hG hBL hm0 hOL hlo hf2 hLL hmle hlen hwok hs

        go_wp2_with fail
        refine HBITS.out.mono ?_
        rintro e w2 ⟨rfl, hR2, hB2⟩
        have hB3 := hB1.trans hB2
        obtain ⟨Ao, co, Al, cl, Ac, cc, hI, hIo, _, _⟩ := HB.out _ hB3
        have qn : w2.cell? ⟨bt, 1 + (n + 1), none⟩ = some (.int .i64 (m : Nat)) := by
          rw [← HM0.out]
          exact (hI.cell (1 + (n + 1))).trans (tab_word _ _ _ _ _ _ (by omega))
        have q0 : w2.cell? ⟨bt, 0, none⟩ = some (.slice Ao OL co) := by
          rw [← HOL.out]
          exact hI.cell 0
        have n0 : (0 : Int) ≤ ((n + 1 : Nat) : Int) := by omega
        have n1 : ((n + 1 : Nat) : Int) < 16 := by omega
        have HR2 := Lib.hid hR2
        have HIO := Lib.hid hIo
        clear hI hIo hR2 k17
        by_cases hfd : 2 * c + v < 2 * G + m
        · obtain ⟨j, hj⟩ : ∃ j, 2 * c + v = 2 * G + j := ⟨2 * c + v - 2 * G, by omega⟩
          have hjm : j < (inN l (n + 1)).length := by have := HCNT.out; omega
          have hx := HIX.out j hjm
          obtain ⟨hlt2, hx2⟩ := List.getElem?_eq_some_iff.1 hx
          obtain ⟨g, o, rfl, hg, hcell⟩ := HIO.out.at hlt2
          rw [List.getElem_map, hx2] at hcell
          have hfo := HFO.out j hjm
          have hnx := HNX.out
          rw [hj, hfo] at hnx
          have hbj : BL + j < OL := by have := HOL.out; omega
          generalize (inN l (n + 1))[j] = x at *
          have HX := Lib.hid hnx
          have ei : ((BL : Int) + ((c : Int) * 2 + (v : Int)) - ((2 * G : Nat) : Int)) = ((BL + j : Nat) : Int) := by omega
          have t0 : (0 : Int) ≤ ((BL + j : Nat) : Int) := by omega
          have t1 : ((BL + j : Nat) : Int) < (OL : Int) := by omega
          have tl : decide ((c : Int) * 2 + (v : Int) < 2 * (G : Int) + (m : Int)) = true := by simp; omega
          rw [show BL + j = BL + (c * 2 + v) - 2 * G from by omega] at hcell
          clear hnx hfo hx hlt2 hx2 hjm
          go_wp2
          go_ret2
          exact gotNext_of HNS.out HX.out rfl HR2.out hB3
        · have hsu := HSU.out
          have hcn := HCNT.out
          have hno := HNO.out (.inr (by omega))
          have hnx := HNX.out
          rw [hno] at hnx
          have HX := Lib.hid hnx
          have hfd2 : 2 * G + m ≤ 2 * c + v := by omega
          have tl : decide ((c : Int) * 2 + (v : Int) < 2 * (G : Int) + (m : Int)) = false := by simp; omega
          clear hnx hno hsu hcn hfd
          go_wp2
          go_roundw
          case rel =>
            have hsu := HSU.out
            have hcn := HCNT.out
            have hbl := HBL.out
            refine ⟨n + 1, 2 * c + v, p2, by omega, ?_, ?_, ?_, ?_, by omega, HGO.out, ?_, HR2.out, hB3⟩
            · congr 1; omega
            · congr 1; omega
            · congr 1; omega
            · congr 1
            · rw [HF2.out]; exact HX.out
          case measure => simp [intOf]; omega
      · rw [if_pos hE] at hnx
        have hgo : bitsGo s p1 1 = p1 := by unfold bitsGo; rw [if_neg hE]
        rw [hgo] at hbits
        have hv0 : bitsVal s p1 1 = 0 := by unfold bitsVal; rw [if_neg hE]
        have hEb : (bitsErr s p1 1 != 0) = true := by simpa using hE
        generalize bitsVal s p1 1 = v at *
        generalize bitsErr s p1 1 = E at *
        have HBITS := Lib.hid hbits
        have HNX := Lib.hid hnx
        clear hbits hnx hsucc hcnt hbl hgo hmle
        generalize was l (ord l) = K at *
        generalize gN l n = G at *
        generalize (ordTo l n).length = BL at *
        go_wp2_with fail
        refine HBITS.out.mono ?_
        rintro e w2 ⟨rfl, hR2, hB2⟩
        have HR2 := Lib.hid hR2
        clear hR2
        go_wp2
        go_ret2
        exact gotNext_of HNS.out HNX.out rfl HR2.out (hB1.trans hB2)
    · have hnk : n = was l (ord l) := by omega
      have hle := HEND.out hnk
      have hfin := HG.out
      rw [hle, Nat.sub_self, nextG_zero] at hfin
      have HF := Lib.hid hfin
      have HR1 := Lib.hid hR1
      generalize was l (ord l) = K at *
      generalize gN l n = G at *
      generalize (ordTo l n).length = BL at *
      subst hnk
      clear hfin HG hR1 hle hlt HEND hlo
      go_wp2
      go_ret2
      exact gotNext_of HNS.out HF.out rfl HR1.out hB1
end Go.Proofs.YtghegmbafbpnjaaGreatDoor
namespace Go.Proofs.YtghegmbafbpnjaaGreatDoor
set_option maxRecDepth 100000
/-- A step that reads: an error, or a value and where reading goes on. -/
abbrev Rd (α : Type) := ByteArray → Nat → Except Int (α × Nat)
def rPure {α : Type} (a : α) : Rd α := fun _ p => .ok (a, p)
def rFail {α : Type} (e : Int) : Rd α := fun _ _ => .error e
def rBind {α β : Type} (m : Rd α) (f : α → Rd β) : Rd β := fun s p => match m s p with
  | .error e => .error e
  | .ok (a, q) => f a s q
def rBits (n : Nat) : Rd Nat := fun s p => if bitsErr s p n ≠ 0 then .error (bitsErr s p n) else .ok (bitsVal s p n, bitsGo s p n)
def rBytes (n : Nat) : Rd ByteArray := fun s p => if bytesErr s p n ≠ 0 then .error (bytesErr s p n) else .ok (bytesVal s p n, bytesGo s p n)
def rNext (l : List Int) : Rd Nat := fun s p => if (nextS l s p).2.1 ≠ 0 then .error (nextS l s p).2.1 else .ok ((nextS l s p).1, (nextS l s p).2.2)
def rWhen {α : Type} (c : Prop) [Decidable c] (e : Int) (m : Rd α) : Rd α := if c then rFail e else m

/-- The one is a beginning of the other. -/
def Pre (s s' : ByteArray) : Prop := s.data.toList <+: s'.data.toList
theorem Pre.size {s s' : ByteArray} (h : Pre s s') : s.size ≤ s'.size := by
  have := h.length_le
  simpa using this
/-- What is met within the bytes that are there is met with more of them. -/
def Stable {α : Type} (m : Rd α) : Prop := ∀ s s' p r, Pre s s' → m s p = r → r ≠ .error 3 → m s' p = r
/-- Reading goes on, and stays within the bytes. -/
def Adv {α : Type} (m : Rd α) : Prop := ∀ s p a q, p ≤ 8 * s.size → m s p = .ok (a, q) → p ≤ q ∧ q ≤ 8 * s.size
section
variable {α β : Type}
theorem Stable.pure (a : α) : Stable (rPure a) := fun _ _ _ _ _ h _ => h
theorem Stable.fail (e : Int) : Stable (rFail e : Rd α) := fun _ _ _ _ _ h _ => h
theorem Stable.bind {m : Rd α} {f : α → Rd β} (hm : Stable m) (hf : ∀ a, Stable (f a)) : Stable (rBind m f) := by
  intro s s' p r hp h hr
  unfold rBind at h ⊢
  cases e : m s p with
  | error x =>
    rw [e] at h
    rw [hm s s' p _ hp e (fun h2 => by injection h2 with h2; subst h2; exact hr h.symm)]
    exact h
  | ok y =>
    rw [e] at h
    rw [hm s s' p _ hp e (by simp)]
    exact hf y.1 s s' y.2 r hp h hr
theorem Stable.when {c : Prop} [Decidable c] {e : Int} {m : Rd α} (hm : Stable m) : Stable (rWhen c e m) := by
  unfold rWhen; split
  · exact Stable.fail e
  · exact hm
theorem Adv.pure (a : α) : Adv (rPure a) := fun _ _ _ _ hp h => by
  unfold rPure at h; injection h with h; injection h with h1 h2; omega
theorem Adv.fail (e : Int) : Adv (rFail e : Rd α) := fun _ _ _ _ _ h => by unfold rFail at h; cases h
theorem Adv.bind {m : Rd α} {f : α → Rd β} (hm : Adv m) (hf : ∀ a, Adv (f a)) : Adv (rBind m f) := by
  intro s p a q hp h
  unfold rBind at h
  cases e : m s p with
  | error x => rw [e] at h; cases h
  | ok y =>
    rw [e] at h
    obtain ⟨h1, h2⟩ := hm s p y.1 y.2 hp e
    obtain ⟨h3, h4⟩ := hf y.1 s y.2 a q h2 h
    exact ⟨by omega, h4⟩
theorem Adv.when {c : Prop} [Decidable c] {e : Int} {m : Rd α} (hm : Adv m) : Adv (rWhen c e m) := by
  unfold rWhen; split
  · exact Adv.fail e
  · exact hm
end
theorem bits_adv {s : ByteArray} {p : Nat} {n : Int} (hp : p ≤ 8 * s.size) (h0 : bitsErr s p n = 0) : p ≤ bitsGo s p n ∧ bitsGo s p n ≤ 8 * s.size ∧ bitsGo s p n = p + n.toNat := by
  unfold bitsGo
  rw [if_pos h0]
  unfold bitsErr at h0
  by_cases h1 : n < 0 ∨ 24 < n
  · rw [if_pos h1] at h0; omega
  · rw [if_neg h1] at h0
    by_cases h2 : (8 * s.size - p : Nat) < n
    · rw [if_pos h2] at h0; omega
    · omega
theorem rBits_adv (n : Nat) : Adv (rBits n) := by
  intro s p a q hp h
  unfold rBits at h
  by_cases h0 : bitsErr s p n = 0
  · rw [if_neg (by simpa using h0)] at h
    injection h with h; injection h with h1 h2
    subst h2
    have := bits_adv hp h0
    exact ⟨this.1, this.2.1⟩
  · rw [if_pos h0] at h; cases h
theorem rBytes_adv (n : Nat) : Adv (rBytes n) := by
  intro s p a q hp h
  unfold rBytes at h
  by_cases h0 : bytesErr s p n = 0
  · rw [if_neg (by simpa using h0)] at h
    injection h with h; injection h with h1 h2
    subst h2
    unfold bytesGo
    rw [if_neg (by omega), if_pos h0]
    unfold bytesErr at h0
    rw [if_neg (by omega)] at h0
    by_cases h2 : (s.size - (p + 7) / 8 : Nat) < (n : Int)
    · rw [if_pos h2] at h0; omega
    · omega
  · rw [if_pos h0] at h; cases h
theorem nextG_adv {s : ByteArray} (l : List Int) : ∀ f n c p, p ≤ 8 * s.size → (nextG l s f n c p).2.1 = 0 → p < (nextG l s f n c p).2.2 ∧ (nextG l s f n c p).2.2 ≤ 8 * s.size
  | 0, _, _, _, _, h => by rw [nextG_zero] at h; simp at h
  | f + 1, n, c, p, hp, h => by
    rw [nextG_succ] at h ⊢
    by_cases h0 : bitsErr s p 1 = 0
    · rw [if_neg (by simpa using h0)] at h ⊢
      obtain ⟨h1, h2, h3⟩ := bits_adv hp h0
      have h4 : bitsGo s p 1 = p + 1 := h3
      cases e : findS l n (2 * c + bitsVal s p 1) with
      | some i => exact ⟨by show p < bitsGo s p 1; omega, h2⟩
      | none =>
        rw [e] at h
        have := nextG_adv l f (n + 1) _ _ h2 h
        exact ⟨by have h5 := this.1; show p < (nextG l s f (n + 1) _ (bitsGo s p 1)).2.2; omega, this.2⟩
    · rw [if_pos h0] at h; exact absurd h h0
theorem rNext_adv' (l : List Int) {s : ByteArray} {p a q : Nat} (hp : p ≤ 8 * s.size) (h : rNext l s p = .ok (a, q)) : p < q ∧ q ≤ 8 * s.size := by
  unfold rNext at h
  by_cases h0 : (nextS l s p).2.1 = 0
  · rw [if_neg (by simpa using h0)] at h
    injection h with h; injection h with h1 h2
    subst h2
    exact nextG_adv l _ _ _ _ hp h0
  · rw [if_pos h0] at h; cases h
theorem rNext_adv (l : List Int) : Adv (rNext l) := fun s p a q hp h => by
  have := rNext_adv' l hp h; omega
end Go.Proofs.YtghegmbafbpnjaaGreatDoor
