/- The contract of Make: the table of lengths in memory. -/
import Derived.Test.YtobmghjpfkdooaaDoorLawD
import Derived.StillTailTactics
import Derived.Deep.RegionWith
namespace Go.Proofs.YtobmghjpfkdooaaDoor
set_option maxRecDepth 100000
open Go Go.RowKit

/-- How many of these symbols have this length. -/
def cntW (l : List Int) (p : List Nat) (n : Nat) : Nat := (p.filter fun s => decide ((l.getD s 0).toNat = n)).length
theorem cntW_snoc (l : List Int) (p : List Nat) (s n : Nat) : cntW l (p ++ [s]) n = cntW l p n + (if (l.getD s 0).toNat = n then 1 else 0) := by
  unfold cntW; rw [List.filter_append, List.length_append]; congr 1
  by_cases h : (l.getD s 0).toNat = n
  · rw [if_pos h, List.filter_cons, if_pos (by simpa using h)]; rfl
  · rw [if_neg h, List.filter_cons, if_neg (by simpa using h)]; rfl
theorem cntW_le (l : List Int) (p : List Nat) (n : Nat) : cntW l p n ≤ p.length := List.length_filter_le _ _
/-- The cells of a table. -/
def tabCells (vo vl vc : Value) (W : Nat → Nat) (last : Nat) : Array Value := (vo :: ((List.range 16).map fun n => Value.int .i64 (W n : Nat)) ++ [.int .i64 (last : Nat), vl, vc]).toArray
theorem tab_word (vo vl vc : Value) (W : Nat → Nat) (last n : Nat) (h : n < 16) : (tabCells vo vl vc W last)[1 + n]? = some (.int .i64 (W n : Nat)) := by
  unfold tabCells
  simp only [List.cons_append, List.getElem?_toArray, Nat.add_comm 1, List.getElem?_cons_succ]
  rw [List.getElem?_append_left (by simp; exact h)]
  simp [h]
theorem tab_put (vo vl vc : Value) (W : Nat → Nat) (last n : Nat) (h : n < 16) (x : Nat) : (tabCells vo vl vc W last).setIfInBounds (1 + n) (.int .i64 x) = tabCells vo vl vc (fun k => if k = n then x else W k) last := by
  unfold tabCells
  apply Array.ext'
  simp only [List.cons_append, List.setIfInBounds_toArray, Nat.add_comm 1, List.set_cons_succ]
  congr 1
  rw [List.set_append_left _ _ (by simp; exact h)]
  congr 1
  apply List.ext_getElem
  · simp
  · intro i h1 h2
    simp only [List.getElem_set, List.getElem_map, List.getElem_range]
    by_cases e : n = i
    · subst e; simp
    · rw [if_neg e, if_neg (Ne.symm e)]
theorem tab_last (vo vl vc : Value) (W : Nat → Nat) (last x : Nat) : (tabCells vo vl vc W last).setIfInBounds 17 (.int .i64 x) = tabCells vo vl vc W x := rfl
theorem tab_codes (vo vl vc v : Value) (W : Nat → Nat) (last : Nat) : (tabCells vo vl vc W last).setIfInBounds 19 v = tabCells vo vl v W last := rfl
/-- The table of lengths lies in block b. -/
def TT (w : World) (b : Nat) (l : List Int) : Prop :=
  ∃ Ao co Al cl Ac cc, Is w b 72 (tabCells (.slice Ao (ord l).length co) (.slice Al l.length cl) (.slice Ac l.length cc) (cntW l (ord l)) (was l (ord l))) ∧
    Ints w Ao (ord l).length ((ord l).map fun s : Nat => (s : Int)) ∧ Ints w Al l.length l ∧ Ints w Ac l.length (codes l)
theorem TT.but {w w' : World} {b : Nat} {l : List Int} (h : TT w b l) (hw : But [] w w') : TT w' b l := by
  obtain ⟨Ao, co, Al, cl, Ac, cc, h1, h2, h3, h4⟩ := h
  exact ⟨Ao, co, Al, cl, Ac, cc, h1.but hw (by simp), h2.but hw (by simp), h3.but hw (by simp), h4.but hw (by simp)⟩
def GotTable (w : World) (l : List Int) (e : Ending) (w' : World) : Prop :=
  ∃ b, e = .returned (.tuple #[.pointer (some ⟨b, 0, none⟩), .int .i64 0]) ∧ TT w' b l ∧ But [] w w'
/-- The table of lengths lies in block b, and all its memory from block lo on. -/
def NewT (lo : Nat) (w : World) (b : Nat) (l : List Int) : Prop :=
  ∃ Ao co Al cl Ac cc, Is w b 72 (tabCells (.slice Ao (ord l).length co) (.slice Al l.length cl) (.slice Ac l.length cc) (cntW l (ord l)) (was l (ord l))) ∧
    Ints w Ao (ord l).length ((ord l).map fun s : Nat => (s : Int)) ∧ Ints w Al l.length l ∧ Ints w Ac l.length (codes l) ∧ lo ≤ b ∧
    (∀ a, Ao = some a → lo ≤ a.block) ∧ (∀ a, Al = some a → lo ≤ a.block) ∧ (∀ a, Ac = some a → lo ≤ a.block)
theorem NewT.tt {lo b : Nat} {w : World} {l : List Int} (h : NewT lo w b l) : TT w b l := by
  obtain ⟨Ao, co, Al, cl, Ac, cc, h1, h2, h3, h4, _⟩ := h
  exact ⟨Ao, co, Al, cl, Ac, cc, h1, h2, h3, h4⟩
theorem NewT.but {lo b : Nat} {w w' : World} {l : List Int} {S : List Nat} (h : NewT lo w b l) (hw : But S w w') (hS : ∀ k ∈ S, k < lo) : NewT lo w' b l := by
  obtain ⟨Ao, co, Al, cl, Ac, cc, h1, h2, h3, h4, h5, h6, h7, h8⟩ := h
  have off : ∀ A : Option Addr, (∀ a, A = some a → lo ≤ a.block) → ∀ k ∈ S, Off A k := fun A hA k hk a e => by
    have := hA a e; have := hS k hk; omega
  exact ⟨Ao, co, Al, cl, Ac, cc, h1.but hw (fun hb => by have := hS b hb; omega), h2.but hw (off _ h6), h3.but hw (off _ h7), h4.but hw (off _ h8), h5, h6, h7, h8⟩
def GotNew (w : World) (l : List Int) (e : Ending) (w' : World) : Prop :=
  ∃ b, e = .returned (.tuple #[.pointer (some ⟨b, 0, none⟩), .int .i64 0]) ∧ NewT w.heap.size w' b l ∧ But [] w w'
theorem was_le {l : List Int} {p r : List Nat} (h : ord l = p ++ r) : was l p ≤ 15 := by
  unfold was
  cases e : p.getLast? with
  | none => exact Nat.zero_le _
  | some t =>
    have := ord_len (l := l) (s := t) (h ▸ List.mem_append_left r (List.mem_of_getLast? e))
    show (l.getD t 0).toNat ≤ 15
    omega
theorem length_ord (l : List Int) : (ord l).length ≤ l.length := by
  have hnd : (ord l).Nodup := nodup_ordTo l 15
  have hm : ∀ s ∈ ord l, s < l.length := fun s hs => (ord_len hs).1
  generalize ord l = p at *
  have := sum_le_of_nodup (fun _ => 1) l.length p hnd hm
  simp only [List.map_const', List.sum_replicate_nat, List.length_range, Nat.mul_one] at this
  exact this

theorem Ints.but' {w w' : World} {A : Option Addr} {n : Nat} {l : List Int} {S : List Nat} (h : Ints w A n l) (hw : But S w w') (hA : 0 < n → ∀ k ∈ S, Off A k) : Ints w' A n l :=
  ⟨h.1, fun hn => (h.but hw (hA hn)).2 hn⟩
theorem Ints.off {w : World} {A : Option Addr} {n b : Nat} {l : List Int} (h : Ints w A n l) (hb : w.heap.size ≤ b) : 0 < n → Off A b := fun hn a e => by
  obtain ⟨g, o, e', hg, _⟩ := h.2 hn
  rw [e] at e'; injection e' with e'; subst e'; show g ≠ b; omega
theorem make_err {w : World} {A : Option Addr} {len cap : Nat} {l : List Int} (hl : Ints w A len l) (hm : len ≤ maxLen) (hc : chk l ≠ 0) :
    Calls Tryd.prog 51 #[.slice A len cap] w fun e w' => e = .returned (.tuple #[.pointer none, .int .i64 (chk l)]) ∧ w = w' := by
  have hck := check_any (cap := cap) hl hm
  generalize chk l = x at *
  have HC := Lib.hid hck
  have hx : (x != 0) = true := by simpa using hc
  clear hck hm hc
  go_enter Tryd.func51, Tryd.ntmps51
  go_wp2_with fail
  refine HC.out.mono ?_
  rintro e w' ⟨rfl, rfl⟩
  go_wp2_with fail
  go_ret2
  exact ⟨rfl, rfl⟩

set_option maxRecDepth 100000 in
set_option maxHeartbeats 2000000 in
theorem make_new {w : World} {A : Option Addr} {len cap : Nat} {l : List Int} (hl : Ints w A len l) (hb8 : len * 8 ≤ 140737488351232) (hnil : A = none → cap = 0) (hc : chk l = 0) :
    Calls Tryd.prog 51 #[.slice A len cap] w (GotNew w l) := by
  obtain ⟨h1, h2, hks, h4⟩ := chk_zero hc
  have hm : len ≤ maxLen := by unfold maxLen; omega
  obtain ⟨i0, hi0, hz0, hz1, hz2⟩ := info_parts info_int
  have hlen := hl.1
  have h288 : len ≤ 288 := by omega
  have hck := check_any (cap := cap) hl hm
  rw [hc] at hck
  have HC := Lib.hid hck
  have HLEN := Lib.hid hlen
  have hord := length_ord l
  rw [hlen] at hord
  clear hck h2 h4 h1 hlen hc
  go_enter Tryd.func51, Tryd.ntmps51
  go_wp2_with fail
  refine HC.out.mono ?_
  rintro e w' ⟨rfl, rfl⟩
  go_upto_region 4 with (fail)
  go_cut [5] (fun pv w1 => ∃ (b : Nat) (Ao : Option Addr) (co : Nat) (Al : Option Addr) (cl : Nat), pv = .pointer (some ⟨b, 0, none⟩) ∧ Is w1 b 72 (tabCells (.slice Ao (ord l).length co) (.slice Al len cl) (.slice none 0 0) (fun _ => 0) 0) ∧
    Ints w1 Ao (ord l).length ((ord l).map fun s : Nat => (s : Int)) ∧ Ints w1 Al len l ∧ w.heap.size ≤ b ∧ (0 < (ord l).length → Off Ao b) ∧ (0 < len → Off Al b) ∧ But [] w w1 ∧ (∀ a, Ao = some a → w.heap.size ≤ a.block) ∧ (∀ a, Al = some a → w.heap.size ≤ a.block))
  case first =>
    go_wp2_with fail
    refine (ordered_new hl h288).mono ?_
    rintro e w1 ⟨Ao, co, rfl, hIo, hB1, hlow⟩
    have HLOW := Lib.hid hlow
    clear hlow
    have hl1 := hl.but hB1 (by simp)
    have HIO := Lib.hid hIo
    have HB1 := Lib.hid hB1
    have hsz1 := hB1.size
    clear hIo hB1 HC hl
    rcases A with _ | ad
    · obtain rfl := hnil rfl
      have h0 : len = 0 := by
        apply Classical.byContradiction; intro h
        obtain ⟨g, o, e, _⟩ := hl1.2 (by omega)
        cases e
      subst h0
      have HL1 := Lib.hid hl1
      clear hl1
      go_wp2
      go_meet
      exact ⟨w1.heap.size, Ao, co, none, 0, rfl, Is.fresh w1 _ _, HIO.out.but ((But.refl [] w1).alloc _) (by simp), HL1.out.but ((But.refl [] w1).alloc _) (by simp), hsz1, HIO.out.off (Nat.le_refl _), HL1.out.off (Nat.le_refl _), HB1.out.alloc _, HLOW.out, fun a e => by cases e⟩
    · have hnw : ∀ j u, (l.map (Value.int .i64))[j]? = some u → w1.cell? (ad.add j) = some u := by
        by_cases h0 : 0 < len
        · obtain ⟨g, o, e, _⟩ := hl1.2 h0
          obtain rfl : ad = ⟨g, o, none⟩ := by injection e
          exact hl1.news h0
        · intro j u hu
          have : l = [] := List.eq_nil_of_length_eq_zero (by have := HLEN.out; omega)
          subst this; simp at hu
      have HNW := Lib.hid hnw
      have HNIL := Lib.hid hnil
      clear hnw hnil hl1
      go_wp2_with (at_builtin; refine wpList_append_own _ rfl _ _ 48 rfl w1.heap.size 3 i0 (.int .i64 0) 1 8 Tryd.underlying48 hi0 hz0 hz1 hz2 rfl (by decide) (.slice none 0 0) 0 [] rfl (World.ownsRow_nil _ _ _ _) ad len cap (l.map (.int .i64)) rfl (by simp; exact HLEN.out) HNW.out ?c2 ?c3 ?c4 ?c5 ?_)
      case c2 => intro u hu; obtain ⟨x, _, rfl⟩ := List.mem_map.1 hu; rfl
      case c3 => unfold maxLen at *; omega
      case c4 => omega
      case c5 => simp
      intro v' w2 hown hgrow _
      obtain ⟨Al, cl, rfl⟩ : ∃ Al cl, v' = .slice Al len cl := by
        rcases hown.2 with ⟨e, e2⟩ | ⟨g4, c4, cur, e, _⟩
        · exact ⟨none, 0, by rw [e]; congr 1; omega⟩
        · exact ⟨_, c4, by simpa using e⟩
      have hOw : OwnI w2 w1.heap.size (.slice Al len cl) l := by
        unfold OwnI; rw [HLEN.out]; simpa using hown
      have hI2 := hOw.ints_of HLEN.out.symm
      have hlow2 : ∀ a, Al = some a → w.heap.size ≤ a.block := fun a e => by
        subst e
        have hb := (World.ownsRow.lt hOw a.block rfl).1
        omega
      have HLOW2 := Lib.hid hlow2
      clear hlow2
      have hB2 : But [] w1 w2 := (But.refl [] w1).grown hgrow (fun g e => by cases e)
      have HI2 := Lib.hid hI2
      have HB2 := Lib.hid hB2
      have hsz2 := hB2.size
      clear hown hgrow hOw hI2 hB2
      go_wp2
      go_meet
      exact ⟨w2.heap.size, Ao, co, Al, cl, rfl, Is.fresh w2 _ _, HIO.out.but (HB2.out.alloc _) (by simp), HI2.out.but ((But.refl [] w2).alloc _) (by simp), by omega, HIO.out.off hsz2, HI2.out.off (Nat.le_refl _), (HB1.out.trans HB2.out).alloc _, HLOW.out, HLOW2.out⟩
  case rest =>
    obtain ⟨b, Ao, co, Al, cl, rfl, hT, hIo, hIl, hwb, hoffo, hoffl, hB, hlow, hlow2⟩ := hcut
    have HLOW := Lib.hid hlow
    have HLOW2 := Lib.hid hlow2
    clear hlow hlow2
    go_upto_region 5 with (fail)
    go_cut [] (fun w2 => ∃ (gc : Nat), Is w2 b 72 (tabCells (.slice Ao (ord l).length co) (.slice Al len cl) (.slice (some ⟨gc, 0, none⟩) len len) (fun _ => 0) 0) ∧
      Ints w2 Ao (ord l).length ((ord l).map fun s : Nat => (s : Int)) ∧ Ints w2 Al len l ∧ Ints w2 (some ⟨gc, 0, none⟩) len (codes l) ∧ gc ≠ b ∧ But [] w w2 ∧ w.heap.size ≤ gc)
    case first =>
      have c0 : wc.drew.cell? ⟨b, 0, none⟩ = some (.slice Ao (ord l).length co) := hT.cell 0
      have c18 : wc.drew.cell? ⟨b, 18, none⟩ = some (.slice Al len cl) := hT.cell 18
      have d0 : wc.cell? ⟨b, 0, none⟩ = some (.slice Ao (ord l).length co) := hT.cell 0
      have d18 : wc.cell? ⟨b, 18, none⟩ = some (.slice Al len cl) := hT.cell 18
      have hcd := codesOf_any (w := wc.drew) (cap := cl) (cap2 := co) hIl hIo h288 hks
      have HCD := Lib.hid hcd
      have HT := Lib.hid hT
      have HB := Lib.hid hB
      have HIo := Lib.hid hIo
      have HIl := Lib.hid hIl
      have hbl := hT.lt
      clear hcd hT hB hIo hIl HC
      go_region_with (go_at_call 58; refine HCD.out.mono ?_; rintro e w2 ⟨rfl, hOc, hB2⟩; have f19 : w2.frozen? ⟨b, 19, none⟩ = false := (HT.out.but (((But.refl [] wc).drew).trans hB2) (by simp)).free 19; have c19 : w2.cell? ⟨b, 19, none⟩ = some (.slice none 0 0) := (HT.out.but (((But.refl [] wc).drew).trans hB2) (by simp)).cell 19)
      all_goals
        (try go_wp2)
        go_meet
        have hbe : But [] wc w2 := ((But.refl [] wc).drew).trans hB2
        have hgcb : wc.heap.size ≠ b := by omega
        have hpt := (HT.out.but hbe (by simp)).put 19 (.slice (some ⟨wc.heap.size, 0, none⟩) len len)
        rw [tab_codes] at hpt
        have hst : But [b] w2 (w2.setCell ⟨b, 19, none⟩ (.slice (some ⟨wc.heap.size, 0, none⟩) len len)) := (But.refl [b] w2).setCell (.inl (by simp)) _
        exact ⟨wc.heap.size, hpt, (HIo.out.but hbe (by simp)).but' hst (fun h k hk => by
            obtain rfl : k = b := by simpa using hk
            exact hoffo h),
          (HIl.out.but hbe (by simp)).but' hst (fun h k hk => by
            obtain rfl : k = b := by simpa using hk
            exact hoffl h),
          hOc.ints.but' hst (fun _ k hk a e => by
            obtain rfl : k = b := by simpa using hk
            injection e with e; subst e; exact hgcb),
          hgcb, (HB.out.trans hbe).setCell (.inr hwb) _, HB.out.size⟩
    case rest =>
      clear hT hIo hIl hB HC
      obtain ⟨gc, hT, hIo, hIl, hIc, hgcb, hB, hgcl⟩ := hcut
      have c0 : wc.cell? ⟨b, 0, none⟩ = some (.slice Ao (ord l).length co) := hT.cell 0
      go_wp2
      have hI0 : cntW l ((ord l).take 0) = fun _ => 0 := rfl
      have hom := hord
      go_loopw [36] (fun iv wr => ∃ j : Nat, j ≤ (ord l).length ∧ iv = .int .i64 j ∧ Is wr b 72 (tabCells (.slice Ao (ord l).length co) (.slice Al len cl) (.slice (some ⟨gc, 0, none⟩) len len) (cntW l ((ord l).take j)) (was l ((ord l).take j))) ∧ But [b] wc wr) (fun iv _ => (ord l).length - (intOf iv).toNat)
      case atStart => exact ⟨0, Nat.zero_le _, rfl, by rw [hI0]; exact hT, But.refl _ _⟩
      case round =>
        obtain ⟨j, hj, rfl, hTr, hBr⟩ := hrel
        clear hT hI0
        by_cases hlt : j < (ord l).length
        · have hsp : ord l = (ord l).take j ++ (ord l)[j]'hlt :: (ord l).drop (j + 1) := by
            rw [List.getElem_cons_drop, List.take_append_drop]
          have hts : (ord l).take (j + 1) = (ord l).take j ++ [(ord l)[j]'hlt] := List.take_succ_eq_append_getElem hlt
          obtain ⟨g, o, rfl, hg, hc⟩ := hIo.at hlt
          replace hc := hBr.cell hc (by
            have := hoffo (by omega) _ rfl
            simp; exact this)
          rw [List.getElem_map] at hc
          have hsl := ord_len (List.getElem_mem hlt)
          have h5 := cntW_snoc l ((ord l).take j) ((ord l)[j]'hlt)
          have h6 := was_snoc l ((ord l).take j) ((ord l)[j]'hlt)
          rw [← hts] at h5 h6
          have hw15 := was_le hsp
          have hcl := cntW_le l ((ord l).take j)
          rw [List.length_take] at hcl
          generalize (ord l)[j]'hlt = s at *
          obtain ⟨g2, o2, rfl, hg2, hc2⟩ := hIl.at (show s < len by have := HLEN.out; omega)
          replace hc2 := hBr.cell hc2 (by
            have := hoffl (by omega) _ rfl
            simp; exact this)
          have hgd : l.getD s 0 = l[s]'(by omega) := by rw [List.getD_eq_getElem?_getD, List.getElem?_eq_getElem (by omega)]; rfl
          obtain ⟨n, hn⟩ : ∃ n, n = (l.getD s 0).toNat := ⟨_, rfl⟩
          have hln : l[s]'(by omega) = (n : Int) := by rw [← hgd]; omega
          rw [hln] at hc2
          rw [← hn] at h5 h6
          have hn15 : n ≤ 15 := by omega
          generalize hW : cntW l ((ord l).take j) = W at *
          generalize hL : was l ((ord l).take j) = L at *
          clear hW hL hsp hts hgd hln hn
          have H5 := Lib.hid (show cntW l ((ord l).take (j + 1)) = fun k => if k = n then W n + 1 else W k by
            funext k; rw [h5]; by_cases e : n = k
            · subst e; simp
            · rw [if_neg e, if_neg (Ne.symm e)]; rfl)
          have H6 := Lib.hid h6
          clear h5 h6
          have hWn := hcl n
          have k0 : wr.cell? ⟨b, 0, none⟩ = some (.slice (some ⟨g, o, none⟩) (ord l).length co) := hTr.cell 0
          have k17 : wr.cell? ⟨b, 17, none⟩ = some (.int .i64 (L : Nat)) := hTr.cell 17
          have k18 : wr.cell? ⟨b, 18, none⟩ = some (.slice (some ⟨g2, o2, none⟩) len cl) := hTr.cell 18
          have f17 : wr.frozen? ⟨b, 17, none⟩ = false := hTr.free 17
          have s0 : (0 : Int) ≤ (s : Int) := by omega
          have s1 : (s : Int) < (len : Int) := by have := HLEN.out; omega
          have hT1 : Is (wr.setCell ⟨b, 17, none⟩ (.int .i64 (n : Nat))) b 72 (tabCells (.slice (some ⟨g, o, none⟩) (ord l).length co) (.slice (some ⟨g2, o2, none⟩) len cl) (.slice (some ⟨gc, 0, none⟩) len len) W n) := by
            have := hTr.put 17 (.int .i64 (n : Nat)); rw [tab_last] at this; exact this
          have hB1 : But [b] wc (wr.setCell ⟨b, 17, none⟩ (.int .i64 (n : Nat))) := hBr.setCell (.inl (by simp)) _
          have HT1 := Lib.hid hT1
          have HB1 := Lib.hid hB1
          clear hT1 hB1 hTr hBr hcl hoffo hoffl hIo hIl
          go_upto_region 10 with (fail)
          generalize wr.setCell ⟨b, 17, none⟩ (.int .i64 (n : Nat)) = w1 at *
          have q17 : w1.drew.cell? ⟨b, 17, none⟩ = some (.int .i64 (n : Nat)) := HT1.out.cell 17
          have qn : w1.drew.cell? ⟨b, 1 + n, none⟩ = some (.int .i64 (W n : Nat)) := (HT1.out.cell (1 + n)).trans (tab_word _ _ _ _ _ _ (by omega))
          have qf : w1.drew.frozen? ⟨b, 1 + n, none⟩ = false := HT1.out.free (1 + n)
          have HT2 := Lib.hid (show Is w1.drew b 72 _ from HT1.out)
          have HB2 := Lib.hid (HB1.out.drew)
          clear HT1 HB1 k0 k17 k18 f17 hc hc2
          have n0 : (0 : Int) ≤ (n : Int) := by omega
          have n1 : (n : Int) < 16 := by omega
          have ew : IntKind.i64.wrap ((W n : Nat) + 1) = ((W n : Nat) : Int) + 1 := IntWalk.i64_in _ (by omega)
          refine wp_region_still_tail 13 (by kernel_rfl) (by kernel_rfl) ?_
          simp only [List.take_succ_cons, List.take_zero, List.drop_succ_cons, List.drop_zero]
          change wpStill _ _ w1.drew (fun a' => wpList _ _ _ _ a' w1.drew) _ _
          generalize w1.drew = W1 at *
          repeat still_step
          refine wpStill_nil ?_
          clear ew
          go_wp2
          go_roundw
          case rel =>
            refine ⟨j + 1, by omega, by go_num, ?_, HB2.out.setCell (.inl (by simp)) _⟩
            rw [H5.out, H6.out]
            have := HT2.out.put (1 + n) (.int .i64 ((W n + 1 : Nat) : Int))
            rw [tab_put _ _ _ _ _ _ (by omega)] at this
            simpa using this
          case measure => simp [intOf]; omega
        · obtain hje : j = (ord l).length := by omega
          subst hje
          rw [List.take_of_length_le (Nat.le_refl _)] at hTr
          have hfin : NewT w.heap.size wr b l := by
            refine ⟨Ao, co, Al, cl, some ⟨gc, 0, none⟩, len, ?_, hIo.but' hBr (fun h k hk => by
                obtain rfl : k = b := by simpa using hk
                exact hoffo h), ?_, ?_, hwb, HLOW.out, HLOW2.out, fun a e => by injection e with e; subst e; exact hgcl⟩
            · rw [HLEN.out]; exact hTr
            · rw [HLEN.out]
              exact hIl.but' hBr (fun h k hk => by
                obtain rfl : k = b := by simpa using hk
                exact hoffl h)
            · rw [HLEN.out]
              exact hIc.but' hBr (fun _ k hk a e => by
                obtain rfl : k = b := by simpa using hk
                injection e with e; subst e; exact hgcb)
          have HF := Lib.hid hfin
          have HB := Lib.hid (hB.fresh hBr (fun i hi => by
            obtain rfl : i = b := by simpa using hi
            exact hwb))
          clear hfin hTr hBr
          go_wp2
          go_ret2
          exact ⟨b, rfl, HF.out, HB.out⟩
theorem make_any {w : World} {A : Option Addr} {len cap : Nat} {l : List Int} (hl : Ints w A len l) (hb8 : len * 8 ≤ 140737488351232) (hnil : A = none → cap = 0) (hc : chk l = 0) :
    Calls Tryd.prog 51 #[.slice A len cap] w (GotTable w l) :=
  (make_new hl hb8 hnil hc).mono fun _ _ ⟨b, he, hT, hB⟩ => ⟨b, he, hT.tt, hB⟩
end Go.Proofs.YtobmghjpfkdooaaDoor
