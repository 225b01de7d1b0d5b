/- Several texts in one: DyT, EfA, EfB, DgF, DgG, DgH (what Unwraps, Wraps reach of them). -/
import Derived.Test.YtghegmbafbpnjaaGreatDoorPm01
import Derived.Test.YtghegmbafbpnjaaGreatDoorPm02
import Derived.Test.YtghegmbafbpnjaaGreatDoorPm03
import Derived.Test.YtghegmbafbpnjaaGreatDoorPm04
import Derived.Test.YtghegmbafbpnjaaGreatDoorPm05
import Derived.Test.YtghegmbafbpnjaaGreatDoorPm06
import Derived.Test.YtghegmbafbpnjaaGreatDoorPm07
import Derived.Test.YtghegmbafbpnjaaGreatDoorPm08
import Derived.Test.YtghegmbafbpnjaaGreatDoorPm09
import Derived.Test.YtghegmbafbpnjaaGreatDoorPm10
import Derived.Test.YtghegmbafbpnjaaGreatDoorPm11
import Derived.Test.YtghegmbafbpnjaaGreatDoorPm12
import Derived.Below
import Derived.BigQuiet
import Derived.BigRegion
import Derived.Deep.AppendLies
import Derived.Deep.CutRange
import Derived.Deep.DeepCutAuto
import Derived.Deep.Draws
import Derived.Deep.LoopGhost
import Derived.Deep.QuietTactic
import Derived.Deep.RegionLaw
import Derived.Deep.RegionWith
import Derived.Deep.Slices
import Derived.Laws.BitsAllLaws
import Derived.Laws.BitsLemmas
import Derived.Laws.CopyOwn
import Derived.Laws.IdiomStrings
import Derived.Laws.OwnMore
import Derived.Laws.Rows
import Derived.Lib.AppendStr
import Derived.Lib.Hide
import Derived.Lib.Strings
import Derived.LoopIn
import Derived.LoopNIn
import Derived.OneCell
import Derived.OpenShut
import Derived.Outline
import Derived.OwnWalk
import Derived.OwnWalkIn
import Derived.ProofKit
import Derived.RangeFuncBound
import Derived.RangeFuncCalls
import Derived.RangeFuncLeaves
import Derived.RangeFuncNested
import Derived.RegionTactic
import Derived.Shelf.Abstract
import Derived.Shelf.RegionOpen
import Derived.Shelf.SlSortCmp.QuietGrown
import Derived.StillTailTactics
import Derived.TacticsInMore
import Derived.Test.YtghegmbafbpnjaaGreatDoorChecked
import Derived.WalkKit
import Derived.WalkLawsBesides
import Derived.WalkSpells
set_option maxRecDepth 100000
set_option linter.unusedVariables false
namespace Go.Proofs.YtghegmbafbpnjaaGreatDoor
set_option maxRecDepth 100000
open Go Go.RowKit
/-- The tables with which a dynamic block begins. -/
def dynTabs (F : Nat) : Rd (List Int × List Int) := rBind (rBits 14) fun v => rBind (rSmall (4 + v / 1024)) fun small =>
  rBind (lenG small (v % 32 + 257 + (v / 32 % 32 + 1)) F []) fun ls => tablesR (ls.take (v % 32 + 257)) (ls.drop (v % 32 + 257)) (rPure (ls.take (v % 32 + 257), ls.drop (v % 32 + 257)))
theorem bind_tables {α β : Type} (l d : List Int) (m : Rd α) (f : α → Rd β) : rBind (tablesR l d m) f = tablesR l d (rBind m f) := by
  unfold tablesR; rw [bind_when, bind_when]
theorem dyn_tabs (most : Int) (F : Nat) (out : List UInt8) : dynR most F out = rBind (dynTabs F) fun x => symG x.1 x.2 most F out := by
  rw [dyn_head]
  unfold dynTabs rSmall
  simp only [bind_bind, bind_when, bind_pure, bind_tables]
  rfl
theorem lenG_len (small : List Int) (total : Nat) (s : ByteArray) : ∀ f acc p ls q, acc.length ≤ total → lenG small total f acc s p = .ok (ls, q) → ls.length = total
  | 0, _, _, _, _, _, h => by cases h
  | f + 1, acc, p, ls, q, ha, h => by
    by_cases hd : total ≤ acc.length
    · rw [len_done hd] at h
      injection h with h
      injection h with h _
      subst h; omega
    · rw [len_open (by omega)] at h
      obtain ⟨⟨t, q1⟩, _, h2⟩ := ok_bind h
      dsimp only at h2
      by_cases h16 : t < 16
      · rw [if_pos h16] at h2
        exact lenG_len small total s f _ _ _ _ (by simp; omega) h2
      · rw [if_neg h16] at h2
        have key : ∀ (k : Nat) (x : Int) (bs : Nat), rBind (rBits bs) (fun y => rWhen (total < acc.length + (k + y)) 12 (lenG small total f (acc ++ List.replicate (k + y) x))) s q1 = .ok (ls, q) → ls.length = total := fun k x bs h3 => by
          obtain ⟨⟨y, q2⟩, _, h4⟩ := ok_bind h3
          obtain ⟨hc, h5⟩ := ok_when h4
          exact lenG_len small total s f _ _ _ _ (by simp; dsimp only at hc; omega) h5
        by_cases e16 : t = 16
        · rw [if_pos e16] at h2
          obtain ⟨_, h3⟩ := ok_when h2
          exact key _ _ _ h3
        · rw [if_neg e16] at h2
          by_cases e17 : t = 17
          · rw [if_pos e17] at h2
            exact key _ _ _ h2
          · rw [if_neg e17] at h2
            exact key _ _ _ h2
theorem smallG_len (s : ByteArray) : ∀ (ks : List Nat) (a : List Int) p ls q, smallG ks a s p = .ok (ls, q) → ls.length = a.length
  | [], a, p, ls, q, h => by
    have h : Except.ok (a, p) = .ok (ls, q) := h
    injection h with h
    injection h with h _
    rw [h]
  | k :: ks, a, p, ls, q, h => by
    have h : rBind (rBits 3) (fun v => smallG ks (a.set k (v : Nat))) s p = .ok (ls, q) := h
    obtain ⟨⟨v, q1⟩, _, h2⟩ := ok_bind h
    have := smallG_len s ks _ _ _ _ h2
    rw [List.length_set] at this
    exact this
theorem rSmall_len {told p q : Nat} {small : List Int} {s : ByteArray} (h : rSmall told s p = .ok (small, q)) : small.length = 19 := by
  unfold rSmall at h
  obtain ⟨⟨a, q1⟩, h1, h2⟩ := ok_bind h
  obtain ⟨_, h3⟩ := ok_when h2
  injection h3 with h3
  injection h3 with h3 _
  rw [← h3]
  exact smallG_len s _ _ _ _ _ h1
theorem rSmall_adv (told : Nat) : Adv (rSmall told) := by
  unfold rSmall
  exact Adv.bind (smallG_adv _ _) fun x => Adv.when (Adv.pure _)
section
variable {w w' : World} {b rb db : Nat} {og : Option Nat} {s : ByteArray} {p : Nat} {M : Int} {L : List UInt8} {fs fd : Option Nat}
theorem Ints.take {g n k : Nat} {l : List Int} (h : Ints w (some ⟨g, 0, none⟩) n l) (hk : k ≤ n) : Ints w (some ⟨g, 0, none⟩) k (l.take k) := by
  have hl := h.1
  refine ⟨by rw [List.length_take]; omega, fun hp => ?_⟩
  obtain ⟨g', o, e, hg, hc⟩ := h.2 (by omega)
  refine ⟨g', o, e, hg, fun i hi => ?_⟩
  rw [List.length_take] at hi
  rw [List.getElem_take]
  exact hc i (by omega)
theorem Ints.drop {g n k : Nat} {l : List Int} (h : Ints w (some ⟨g, 0, none⟩) n l) (hk : k ≤ n) : Ints w (some ⟨g, k, none⟩) (n - k) (l.drop k) := by
  have hl := h.1
  refine ⟨by rw [List.length_drop]; omega, fun hp => ?_⟩
  obtain ⟨g', o, e, hg, hc⟩ := h.2 (by omega)
  injection e with e
  injection e with e1 e2
  subst e1 e2
  refine ⟨g, k, rfl, hg, fun i hi => ?_⟩
  rw [List.length_drop] at hi
  have := hc (k + i) (by omega)
  rw [Nat.zero_add] at this
  rw [List.getElem_drop]
  exact this
theorem own_form {base : Nat} {v : Value} {l : List Int} (h : OwnI w base v l) (hl : 0 < l.length) : ∃ g c, v = .slice (some ⟨g, 0, none⟩) l.length c ∧ l.length ≤ c ∧ c ≤ 9223372036854775807 ∧ Ints w (some ⟨g, 0, none⟩) l.length l := by
  have h' := h
  unfold OwnI at h'
  rcases h'.2 with ⟨rfl, e⟩ | ⟨g, cap, cur, rfl, _, _, h1, h2, _⟩
  · simp at e
    subst e
    simp at hl
  · obtain ⟨A, c, e, hI, _⟩ := h.open
    injection e with e1 e2 e3
    subst e1 e3
    exact ⟨g, cap, rfl, h1, by unfold maxLen at h2; omega, hI⟩
theorem smallI (h : SS w b rb db og s p M L fs fd) (hG : Keep (Foot b rb og) w GL) {i : Int} (told : Nat) (hi : i = told) (ht : told ≤ 19) :
    Calls Tryz.prog 111 #[.pointer (some ⟨b, 0, none⟩), .int .i64 i] w (GotS w b rb db og s M L fs fd (rSmall told s p)) := by
  subst hi; exact smallTable_any h hG told ht
theorem readI {bt F : Nat} {small : List Int} (h : SS w b rb db og s p M L fs fd) (hG : Keep (Foot b rb og) w GL) (hT : Keep (Foot b rb og) w fun w' => TT w' bt small) (hc : chk small = 0) (h19 : small.length = 19) {i : Int}
    (total : Nat) (hi : i = total) (ht : total ≤ 400) (hF : 8 * s.size - p < F) :
    Calls Tryz.prog 112 #[.pointer (some ⟨b, 0, none⟩), .pointer (some ⟨bt, 0, none⟩), .int .i64 i] w (GotL w b rb db og s M L fs fd (lenG small total F [] s p)) := by
  subst hi; exact readLengths_any h hG hT hc h19 total ht hF
def GotD (w : World) (b rb db : Nat) (og : Option Nat) (s : ByteArray) (M : Int) (L : List UInt8) (fs fd : Option Nat) (r : Except Int ((List Int × List Int) × Nat)) (e : Ending) (w' : World) : Prop :=
  ∃ (p1 p2 : Value) (er : Int) (q : Nat) (l d : List Int), e = .returned (.tuple #[.agg #[p1, p2], .int .i64 er]) ∧ Mv b rb w w' og og ∧ (er ≠ 0 → r = .error er ∧ p1 = .pointer none ∧ p2 = .pointer none) ∧
    (er = 0 → r = .ok ((l, d), q) ∧ SS w' b rb db og s q M L fs fd ∧ chk l = 0 ∧ chk d = 0 ∧ ∃ b1 b2, p1 = .pointer (some ⟨b1, 0, none⟩) ∧ p2 = .pointer (some ⟨b2, 0, none⟩) ∧ (∀ F, (∀ k ∈ F, k < w.heap.size) → Keep F w' (fun x => TT x b1 l)) ∧ (∀ F, (∀ k ∈ F, k < w.heap.size) → Keep F w' (fun x => TT x b2 d)))
theorem GotD.err {w1 : World} {r : Except Int ((List Int × List Int) × Nat)} {er : Int} {x y : Value} (hM : Mv b rb w w1 og og) (hr : r = .error er) (her : er ≠ 0) :
    GotD w b rb db og s M L fs fd r (.returned (.tuple #[.agg #[.pointer none, .pointer none], .int .i64 er])) ((w1.setCell ⟨w.heap.size, 0, none⟩ x).setCell ⟨w.heap.size, 1, none⟩ y) :=
  ⟨_, _, er, 0, [], [], rfl, ⟨(hM.but.setCell (.inr (Nat.le_refl _)) _).setCell (.inr (Nat.le_refl _)) _, hM.own⟩, fun _ => ⟨hr, rfl, rfl⟩, fun e => absurd e her⟩
/-- What a pair of tables is told as. -/
def GotP (w : World) (l d : List Int) (x1 x2 : Option Addr) (er : Int) (w' : World) : Prop :=
  (er ≠ 0 → x1 = none ∧ x2 = none ∧ (chk l = er ∨ (chk l = 0 ∧ chk d = er))) ∧
    (er = 0 → chk l = 0 ∧ chk d = 0 ∧ ∃ b1 b2, x1 = some ⟨b1, 0, none⟩ ∧ x2 = some ⟨b2, 0, none⟩ ∧ NewT w.heap.size w' b1 l ∧ NewT w.heap.size w' b2 d)
theorem makeTables_pt {A B : Option Addr} {n m cA cB : Nat} {l d : List Int} (hl : Ints w A n l) (hd : Ints w B m d) (hn : n * 8 ≤ 140737488351232) (hm : m * 8 ≤ 140737488351232)
    (hA : A = none → cA = 0) (hB : B = none → cB = 0) :
    Calls Tryz.prog 110 #[.slice A n cA, .slice B m cB] w fun e w' => ∃ x1 x2 er, e = .returned (.tuple #[.agg #[.pointer x1, .pointer x2], .int .i64 er]) ∧ But [] w w' ∧ GotP w l d x1 x2 er w' := by
  refine (makeTables_any hl hd hn hm hA hB).mono ?_
  rintro e w' ⟨p1, p2, er, rfl, hB, h1, h2⟩
  by_cases her : er = 0
  · obtain ⟨c1, c2, b1, b2, e1, e2, t1, t2⟩ := h2 her
    obtain rfl : p1 = .pointer (some ⟨b1, 0, none⟩) := e1
    obtain rfl : p2 = .pointer (some ⟨b2, 0, none⟩) := e2
    exact ⟨_, _, er, rfl, hB, fun e => absurd her e, fun _ => ⟨c1, c2, b1, b2, rfl, rfl, t1, t2⟩⟩
  · obtain ⟨rfl, rfl, h⟩ := h1 her
    exact ⟨none, none, er, rfl, hB, fun _ => ⟨rfl, rfl, h⟩, fun e => absurd e her⟩
theorem dyn_done {F q : Nat} {l d : List Int} {w3 w4 : World} {x1 x2 : Option Addr} {er : Int} (hdt : dynTabs F s p = tablesR l d (rPure (l, d)) s q) (hM : Mv b rb w w3 og og) (hS : SS w3 b rb db og s q M L fs fd)
    (hfl : ∀ k ∈ Foot b rb og, k < w.heap.size) (hft : w.heap.size ∉ Foot b rb og) (hr : w.heap.size < w3.heap.size) (hB : But [] w3.drew w4) (hP : GotP w3.drew l d x1 x2 er w4) :
    GotD w b rb db og s M L fs fd (dynTabs F s p) (.returned (.tuple #[.agg #[.pointer x1, .pointer x2], .int .i64 er])) ((w4.setCell ⟨w.heap.size, 0, none⟩ (.pointer x1)).setCell ⟨w.heap.size, 1, none⟩ (.pointer x2)) := by
  have hB3 : But [] w3 w4 := ((But.refl [] w3).drew).trans hB
  have hdb := hS.hd
  have hbl := hfl b (by simp [Foot])
  have hM4 : Mv b rb w w4 og og := hM.trans (Mv.of hB3 (by simp))
  have hMf : Mv b rb w ((w4.setCell ⟨w.heap.size, 0, none⟩ (.pointer x1)).setCell ⟨w.heap.size, 1, none⟩ (.pointer x2)) og og := ⟨(hM4.but.setCell (.inr (Nat.le_refl _)) _).setCell (.inr (Nat.le_refl _)) _, hM4.own⟩
  have hbf : But [w.heap.size] w4 ((w4.setCell ⟨w.heap.size, 0, none⟩ (.pointer x1)).setCell ⟨w.heap.size, 1, none⟩ (.pointer x2)) := ((But.refl [w.heap.size] w4).setCell (.inl (by simp)) _).setCell (.inl (by simp)) _
  have hSf := (hS.but hB3 (by simp)).away hbf (fun k hk => by
    obtain rfl : k = w.heap.size := by simpa using hk
    exact ⟨hft, by omega⟩)
  by_cases her : er = 0
  · obtain ⟨c1, c2, b1, b2, rfl, rfl, t1, t2⟩ := hP.2 her
    have kk := fun (bt : Nat) (l : List Int) (t : NewT w3.drew.heap.size w4 bt l) (F : List Nat) (hF : ∀ k ∈ F, k < w.heap.size) => (t.but hbf (fun k hk => by
      obtain rfl : k = w.heap.size := by simpa using hk
      exact hr)).keep (F := F) (fun k hk => by have := hF k hk; show k < w3.heap.size; omega)
    exact ⟨_, _, er, q, l, d, rfl, hMf, fun e => absurd her e, fun _ => ⟨by rw [hdt, tables_goes c1 c2]; rfl, hSf, c1, c2, b1, b2, rfl, rfl, kk _ _ t1, kk _ _ t2⟩⟩
  · obtain ⟨rfl, rfl, h⟩ := hP.1 her
    refine ⟨_, _, er, q, l, d, rfl, hMf, fun _ => ⟨?_, rfl, rfl⟩, fun e => absurd e her⟩
    rw [hdt]
    rcases h with h | ⟨h1, h⟩
    · rw [tables_err1 (by rw [h]; exact her), h]
    · rw [tables_err2 h1 (by rw [h]; exact her), h]
theorem and31 (v : Nat) : Go.bits .and .i64 (v : Int) 31 = ((v % 32 : Nat) : Int) := by
  have := i64_mask (v : Int) 5 (by omega)
  simpa using this
set_option maxHeartbeats 1000000 in
theorem dynamicTables_any (h : SS w b rb db og s p M L fs fd) (hG : Keep (Foot b rb og) w GL) {F : Nat} (hF : 8 * s.size - p < F) :
    Calls Tryz.prog 90 #[.pointer (some ⟨b, 0, none⟩)] w (GotD w b rb db og s M L fs fd (dynTabs F s p)) := by
  have h1 := h.alloc (.cells #[.pointer none, .pointer none] 46)
  have m1 := Mv.alloc (b := b) (rb := rb) (w := w) (og := og) (.cells #[.pointer none, .pointer none] 46)
  have hI := Is.fresh w 46 #[.pointer none, .pointer none]
  have hin := h1.inCell
  have hbt := h1.bits 14
  have hfl := foot_lt h
  have hft := foot_ne h
  have hdb := h.hd
  have hp8 := h.rs.1
  have HBT := Lib.hid hbt
  have HM := Lib.hid m1
  have HI := Lib.hid hI
  have HG := Lib.hid hG
  have HFL := Lib.hid hfl
  have HFT := Lib.hid hft
  have HP8 := Lib.hid hp8
  have HF := Lib.hid hF
  clear h h1 m1 hI hbt hfl hft hG hp8 hF
  go_enter Tryz.func90, Tryz.ntmps90
  go_wp2_with fail
  refine HBT.out.mono ?_
  rintro e w1 ⟨v, er, q, rfl, hMv, he1, he2⟩
  have hI1 := HI.out.but hMv.but HFT.out
  have hMW := HM.out.trans hMv
  have g0 : w1.cell? ⟨w.heap.size, 0, none⟩ = some (.pointer none) := hI1.cell 0
  have g1 : w1.cell? ⟨w.heap.size, 1, none⟩ = some (.pointer none) := hI1.cell 1
  have f0 : w1.frozen? ⟨w.heap.size, 0, none⟩ = false := hI1.free 0
  have f1 : w1.frozen? ⟨w.heap.size, 1, none⟩ = false := hI1.free 1
  have HE1 := Lib.hid he1
  have HE2 := Lib.hid he2
  have HI1 := Lib.hid hI1
  have HMW := Lib.hid hMW
  clear hMv he1 he2 hI1 hMW HBT HM HI
  by_cases her : er = 0
  · obtain ⟨hr, hS⟩ := HE2.out her
    have hv := rBits_lt hr
    have hadv := rBits_adv 14 s p v q HP8.out hr
    obtain ⟨a, ha⟩ : ∃ a, a = v % 32 := ⟨_, rfl⟩
    obtain ⟨bb, hbb⟩ : ∃ bb, bb = v / 32 % 32 := ⟨_, rfl⟩
    obtain ⟨cc, hcc⟩ : ∃ cc, cc = v / 1024 := ⟨_, rfl⟩
    have hdt : dynTabs F s p = rBind (rSmall (4 + cc)) (fun small => rBind (lenG small (a + 257 + (bb + 1)) F []) fun ls => tablesR (ls.take (a + 257)) (ls.drop (a + 257)) (rPure (ls.take (a + 257), ls.drop (a + 257)))) s q := by
      rw [ha, hbb, hcc]; exact bind_val hr
    have a1 := and31 v
    rw [← ha] at a1
    have a2 := and31 (v / 32)
    rw [← hbb, show (((v / 32 : Nat) : Int)) = (v : Int) / 32 by omega] at a2
    have a3 : (v : Int) / 1024 = (cc : Int) := by omega
    have ha31 : a ≤ 31 := by omega
    have hb31 : bb ≤ 31 := by omega
    have hc15 : cc ≤ 15 := by have : v < 16384 := hv; omega
    have hsm := smallI hS (HMW.out.keep HG.out) (i := 4 + (cc : Int)) (4 + cc) (by omega) (by omega)
    have HSM := Lib.hid hsm
    have HDT := Lib.hid hdt
    have HADV := Lib.hid hadv
    clear hr hS hv hadv ha hbb hcc hdt hsm HE1 HE2
    subst her
    go_wp2_with fail
    refine HSM.out.mono ?_
    rintro e w2 ⟨pv, er, q2, small, rfl, hMv, he1, he2⟩
    have hI2 := HI1.out.but hMv.but HFT.out
    have hMW := HMW.out.trans hMv
    have g0 : w2.cell? ⟨w.heap.size, 0, none⟩ = some (.pointer none) := hI2.cell 0
    have g1 : w2.cell? ⟨w.heap.size, 1, none⟩ = some (.pointer none) := hI2.cell 1
    have f0 : w2.frozen? ⟨w.heap.size, 0, none⟩ = false := hI2.free 0
    have f1 : w2.frozen? ⟨w.heap.size, 1, none⟩ = false := hI2.free 1
    have HE1 := Lib.hid he1
    have HE2 := Lib.hid he2
    have HI2 := Lib.hid hI2
    have HMW2 := Lib.hid hMW
    have hsz1 := HMW.out.but.size
    have hrl := HI1.out.lt
    clear hMv he1 he2 hI2 hMW HSM HI1 HMW
    by_cases her : er = 0
    · obtain ⟨hr, hS, hcs, bt, rfl, hT⟩ := HE2.out her
      have h19 := rSmall_len hr
      have hadv := rSmall_adv (4 + cc) s q small q2 HADV.out.2 hr
      have hdt : dynTabs F s p = rBind (lenG small (a + 257 + (bb + 1)) F []) (fun ls => tablesR (ls.take (a + 257)) (ls.drop (a + 257)) (rPure (ls.take (a + 257), ls.drop (a + 257)))) s q2 := by
        rw [HDT.out]; exact bind_val hr
      have hKT := hT.keep (F := Foot b rb og) (fun k hk => by have := HFL.out k hk; omega)
      have hrd := readI hS (HMW2.out.keep HG.out) hKT hcs h19 (i := 257 + (a : Int) + (1 + (bb : Int))) (a + 257 + (bb + 1)) (by omega) (by omega) (F := F) (by have := HADV.out; have := HF.out; omega)
      have hfl2 : w.heap.size ≤ w2.heap.size := HMW2.out.but.size
      have HRD := Lib.hid hrd
      have HDT2 := Lib.hid hdt
      clear hr hS hcs hT h19 hadv hdt hKT hrd HE1 HE2 HDT
      subst her
      go_wp2_with fail
      refine HRD.out.mono ?_
      rintro e w3 ⟨lv, er, q3, ls, rfl, hMv, he1, he2⟩
      have hI3 := HI2.out.but hMv.but HFT.out
      have hMW := HMW2.out.trans hMv
      have g0 : w3.cell? ⟨w.heap.size, 0, none⟩ = some (.pointer none) := hI3.cell 0
      have g1 : w3.cell? ⟨w.heap.size, 1, none⟩ = some (.pointer none) := hI3.cell 1
      have f0 : w3.frozen? ⟨w.heap.size, 0, none⟩ = false := hI3.free 0
      have f1 : w3.frozen? ⟨w.heap.size, 1, none⟩ = false := hI3.free 1
      have HE1 := Lib.hid he1
      have HE2 := Lib.hid he2
      have HI3 := Lib.hid hI3
      have HMW3 := Lib.hid hMW
      clear hMv he1 he2 hI3 hMW HRD HI2
      by_cases her : er = 0
      · obtain ⟨hr, hS, hO⟩ := HE2.out her
        have hll := lenG_len small _ s _ _ _ _ _ (Nat.zero_le _) hr
        obtain ⟨gl, cl, rfl, hcl1, hcl2, hIl⟩ := own_form hO (by omega)
        rw [hll] at hcl1 hIl
        obtain ⟨sy, hsy⟩ : ∃ sy, sy = a + 257 := ⟨_, rfl⟩
        obtain ⟨tt, htt⟩ : ∃ tt, tt = a + 257 + (bb + 1) := ⟨_, rfl⟩
        rw [hll]
        rw [← htt] at hcl1 hIl ⊢
        have hIa := hIl.take (k := sy) (by omega)
        have hIb := hIl.drop (k := sy) (by omega)
        have hdt : dynTabs F s p = tablesR (ls.take sy) (ls.drop sy) (rPure (ls.take sy, ls.drop sy)) s q3 := by
          rw [HDT2.out, hsy]; exact bind_val hr
        have HDT3 := Lib.hid hdt
        have HS3 := Lib.hid hS
        have hmk := makeTables_pt (w := w3.drew) (cA := cl) (cB := cl - sy) (A := some ⟨gl, 0, none⟩) (B := some ⟨gl, sy, none⟩) hIa hIb (by omega) (by omega) (fun e => by cases e) (fun e => by cases e)
        have HMK := Lib.hid hmk
        have e257 : (257 : Int) + (a : Int) = (sy : Int) := by omega
        have hst : sy < tt := by omega
        have hsc : sy < cl := by omega
        have hb0 : (0 : Int) ≤ (sy : Int) := by omega
        have n1 : ¬ cl = sy := by omega
        have hcl3 : tt ≤ cl := hcl1
        clear hr hS hO hll hIl hIa hIb hdt hmk HE1 HE2 HDT2 hsy htt
        subst her
        have hrl3 := HI3.out.lt
        go_upto_region 12 with (fail)
        go_region_with (go_at_call 110; refine HMK.out.mono ?_; rintro e w4 ⟨x1, x2, er, rfl, hB, hP⟩; have hI4 := HI3.out.but (((But.refl [] w3).drew).trans hB) (by simp); have q0 : w4.cell? ⟨w.heap.size, 0, none⟩ = some (.pointer none) := hI4.cell 0; have q1 : w4.cell? ⟨w.heap.size, 1, none⟩ = some (.pointer none) := hI4.cell 1; have q2 : w4.frozen? ⟨w.heap.size, 0, none⟩ = false := hI4.free 0; have q3 : w4.frozen? ⟨w.heap.size, 1, none⟩ = false := hI4.free 1; have HB := Lib.hid hB; have HP := Lib.hid hP; have HI4 := Lib.hid hI4; clear hB hP hI4)
        all_goals
          go_wp2
          have hend := dyn_done HDT3.out HMW3.out HS3.out HFL.out HFT.out hrl3 HB.out HP.out
          have c := pair_in (p1 := .pointer x1) (p2 := .pointer x2) HI4.out
          generalize ((w4.setCell ⟨w.heap.size, 0, none⟩ (.pointer x1)).setCell ⟨w.heap.size, 1, none⟩ (.pointer x2)) = wf at *
          have c0 : wf.cell? ⟨w.heap.size, 0, none⟩ = some (.pointer x1) := c.1.cell 0
          have c1 : wf.cell? ⟨w.heap.size, 1, none⟩ = some (.pointer x2) := c.1.cell 1
          exact bodyPost_ret (v := .tuple #[.agg #[.pointer x1, .pointer x2], .int .i64 er]) (by simp [results, Tryz.results90, go_sem, c0, c1]) rfl hend
      · have d2 : (er != 0) = true := by simpa using her
        have HER := Lib.hid her
        clear her
        go_wp2
        have hend := GotD.err (r := dynTabs F s p) (db := db) (s := s) (M := M) (L := L) (fs := fs) (fd := fd) (x := .pointer none) (y := .pointer none) HMW3.out (er := er) (by rw [HDT2.out]; exact bind_err (HE1.out HER.out)) HER.out
        have c := pair_in (p1 := .pointer none) (p2 := .pointer none) HI3.out
        generalize ((w3.setCell ⟨w.heap.size, 0, none⟩ (.pointer none)).setCell ⟨w.heap.size, 1, none⟩ (.pointer none)) = wf at *
        have c0 : wf.cell? ⟨w.heap.size, 0, none⟩ = some (.pointer none) := c.1.cell 0
        have c1 : wf.cell? ⟨w.heap.size, 1, none⟩ = some (.pointer none) := c.1.cell 1
        exact bodyPost_ret (v := .tuple #[.agg #[.pointer none, .pointer none], .int .i64 er]) (by simp [results, Tryz.results90, go_sem, c0, c1]) rfl hend
    · have d2 : (er != 0) = true := by simpa using her
      have HER := Lib.hid her
      clear her
      go_wp2
      have hend := GotD.err (r := dynTabs F s p) (db := db) (s := s) (M := M) (L := L) (fs := fs) (fd := fd) (x := .pointer none) (y := .pointer none) HMW2.out (er := er) (by rw [HDT.out]; exact bind_err (HE1.out HER.out)) HER.out
      have c := pair_in (p1 := .pointer none) (p2 := .pointer none) HI2.out
      generalize ((w2.setCell ⟨w.heap.size, 0, none⟩ (.pointer none)).setCell ⟨w.heap.size, 1, none⟩ (.pointer none)) = wf at *
      have c0 : wf.cell? ⟨w.heap.size, 0, none⟩ = some (.pointer none) := c.1.cell 0
      have c1 : wf.cell? ⟨w.heap.size, 1, none⟩ = some (.pointer none) := c.1.cell 1
      exact bodyPost_ret (v := .tuple #[.agg #[.pointer none, .pointer none], .int .i64 er]) (by simp [results, Tryz.results90, go_sem, c0, c1]) rfl hend
  · have d2 : (er != 0) = true := by simpa using her
    have HER := Lib.hid her
    clear her
    go_wp2
    have hend := GotD.err (r := dynTabs F s p) (db := db) (s := s) (M := M) (L := L) (fs := fs) (fd := fd) (x := .pointer none) (y := .pointer none) HMW.out (er := er) (bind_err (HE1.out HER.out)) HER.out
    have c := pair_in (p1 := .pointer none) (p2 := .pointer none) HI1.out
    generalize ((w1.setCell ⟨w.heap.size, 0, none⟩ (.pointer none)).setCell ⟨w.heap.size, 1, none⟩ (.pointer none)) = wf at *
    have c0 : wf.cell? ⟨w.heap.size, 0, none⟩ = some (.pointer none) := c.1.cell 0
    have c1 : wf.cell? ⟨w.heap.size, 1, none⟩ = some (.pointer none) := c.1.cell 1
    exact bodyPost_ret (v := .tuple #[.agg #[.pointer none, .pointer none], .int .i64 er]) (by simp [results, Tryz.results90, go_sem, c0, c1]) rfl hend
end
end Go.Proofs.YtghegmbafbpnjaaGreatDoor
set_option maxRecDepth 100000
set_option linter.unusedVariables false
namespace Go.Proofs.YtghegmbafbpnjaaGreatDoor
set_option maxRecDepth 100000
open Go Go.RowKit
theorem lenBase_few : ∀ t, t < 286 → 257 ≤ t → lenBase t ≤ 258 ∧ lenBits t ≤ 5 := by decide +kernel
theorem dstBase_few : ∀ t, t < 30 → dstBase t ≤ 24577 ∧ dstBits t ≤ 13 := by decide +kernel
section
variable {w : World}
end
end Go.Proofs.YtghegmbafbpnjaaGreatDoor
set_option maxRecDepth 100000
set_option linter.unusedVariables false
namespace Go.Proofs.YtghegmbafbpnjaaGreatDoor
set_option maxRecDepth 100000
open Go Go.RowKit
def qCells (L : List (Int × Nat)) : List Value := L.flatMap fun c => [.int .i64 c.1, .int .i64 (c.2 : Nat)]
theorem qCells_append (L M : List (Int × Nat)) : qCells (L ++ M) = qCells L ++ qCells M := by simp [qCells]
theorem qCells_at : ∀ (L : List (Int × Nat)) (i : Nat) (h : i < L.length), (qCells L)[i * 2]? = some (.int .i64 L[i].1) ∧ (qCells L)[i * 2 + 1]? = some (.int .i64 (L[i].2 : Nat))
  | x :: L, 0, _ => by simp [qCells]
  | x :: L, i + 1, h => by
    have := qCells_at L i (by simpa using h)
    have e : qCells (x :: L) = .int .i64 x.1 :: .int .i64 (x.2 : Nat) :: qCells L := by simp [qCells]
    rw [e, show (i + 1) * 2 = i * 2 + 1 + 1 from by omega, show i * 2 + 1 + 1 + 1 = i * 2 + 1 + 1 + 1 from rfl]
    simpa using this
/-- A slice reads as these runs. -/
def Qs (w : World) (A : Option Addr) (n : Nat) (L : List (Int × Nat)) : Prop :=
  L.length = n ∧ (0 < n → ∃ g o, A = some ⟨g, o, none⟩ ∧ g < w.heap.size ∧ ∀ (i : Nat) (h : i < L.length), w.cell? ⟨g, o + i * 2, none⟩ = some (.int .i64 L[i].1) ∧ w.cell? ⟨g, o + i * 2 + 1, none⟩ = some (.int .i64 (L[i].2 : Nat)))
theorem Qs.but {w w' : World} {A : Option Addr} {n : Nat} {L : List (Int × Nat)} (h : Qs w A n L) (hw : But [] w w') : Qs w' A n L :=
  ⟨h.1, fun hn => by
    obtain ⟨g, o, e, hg, hc⟩ := h.2 hn
    exact ⟨g, o, e, Nat.lt_of_lt_of_le hg hw.size, fun i hi => ⟨hw.cell (hc i hi).1 (by simp), hw.cell (hc i hi).2 (by simp)⟩⟩⟩
theorem Qs.at {w : World} {A : Option Addr} {n : Nat} {L : List (Int × Nat)} (h : Qs w A n L) {i : Nat} (hi : i < n) :
    ∃ g o c m, A = some ⟨g, o, none⟩ ∧ g < w.heap.size ∧ w.cell? ⟨g, o + i * 2, none⟩ = some (.int .i64 c) ∧ w.cell? ⟨g, o + i * 2 + 1, none⟩ = some (.int .i64 (m : Nat)) ∧ L[i]? = some (c, m) := by
  obtain ⟨g, o, e, hg, hc⟩ := h.2 (by omega)
  have hl : i < L.length := by have := h.1; omega
  exact ⟨g, o, _, _, e, hg, (hc i hl).1, (hc i hl).2, List.getElem?_eq_getElem hl⟩
/-- A slice of the document's runs of the call's own. -/
def OwnQ (w : World) (base : Nat) (v : Value) (L : List (Int × Nat)) : Prop := w.ownsRow base 93 2 v L.length (qCells L)
theorem OwnQ.nil (w : World) (base : Nat) : OwnQ w base (.slice none 0 0) [] := World.ownsRow_nil _ _ _ _
theorem OwnQ.but {w w' : World} {base : Nat} {v : Value} {L : List (Int × Nat)} (h : OwnQ w base v L) (hw : But [] w w') : OwnQ w' base v L := by
  unfold OwnQ at h ⊢
  refine ⟨h.1, ?_⟩
  rcases h.2 with h2 | ⟨g, cap, cur, hv, hg, hh, r⟩
  · exact .inl h2
  · refine .inr ⟨g, cap, cur, hv, hg, ?_, r⟩
    have hlt : g < w.heap.size := (h.lt g (by rw [hv]; rfl)).2
    rw [hw.block g hlt (by simp)]
    exact hh
theorem OwnQ.open {w : World} {base : Nat} {v : Value} {L : List (Int × Nat)} (h : OwnQ w base v L) : ∃ A c, v = .slice A L.length c ∧ Qs w A L.length L := by
  unfold OwnQ at h
  rcases h.2 with ⟨rfl, e⟩ | ⟨g, cap, cur, rfl, hg, hh, r⟩
  · have : L = [] := List.eq_nil_of_length_eq_zero e
    subst this
    exact ⟨none, 0, rfl, rfl, fun h => absurd h (by simp)⟩
  · refine ⟨some ⟨g, 0, none⟩, cap, rfl, rfl, fun hn => ⟨g, 0, rfl, (h.lt g rfl).2, fun i hi => ?_⟩⟩
    obtain ⟨h0, h1⟩ := qCells_at L i hi
    have c0 := h.cells (g := g) rfl (i * 2) _ h0
    have c1 := h.cells (g := g) rfl (i * 2 + 1) _ h1
    rw [Go.WideShapes.add_plain] at c0 c1
    exact ⟨c0, c1⟩
theorem OwnQ.pushed {w wr w' : World} {v v' : Value} {L : List (Int × Nat)} {x : Int × Nat} {cs : Array Value} {t : TypeId} (hB : But [] w wr) (hO : OwnQ wr w.heap.size v L)
    (h1 : w'.ownsRow w.heap.size 93 2 v' (L.length + 1) (qCells L ++ [.int .i64 x.1, .int .i64 (x.2 : Nat)])) (hg : (wr.alloc (.cells cs t)).grownBy w' v.ownBlock) :
    OwnQ w' w.heap.size v' (L ++ [x]) ∧ But [] w w' := by
  refine ⟨?_, (hB.alloc _).grown hg (fun g e => .inr (hO.lt g e).1)⟩
  unfold OwnQ
  rw [List.length_append, qCells_append]
  simpa [qCells] using h1
theorem runsG_more (l : List Int) : ∀ f g i, l.length ≤ i + f → f ≤ g → runsG l g i = runsG l f i
  | 0, 0, _, _, _ => rfl
  | 0, g + 1, i, h, _ => by
    show (if i < l.length then _ else []) = []
    exact if_neg (by omega)
  | f + 1, g + 1, i, h, hg => by
    rw [runsG, runsG]
    by_cases hi : i < l.length
    · rw [if_pos hi, if_pos hi, runsG_more l f g _ (by have := runAt_pos l i; omega) (by omega)]
    · rw [if_neg hi, if_neg hi]
theorem runs_step {l : List Int} {i : Nat} (hi : i < l.length) : runsG l (l.length - i) i = ((runAt l i).1, (runAt l i).2.1) :: runsG l (l.length - (i + (runAt l i).2.2)) (i + (runAt l i).2.2) := by
  obtain ⟨f, hf⟩ : ∃ f, l.length - i = f + 1 := ⟨l.length - i - 1, by omega⟩
  have hp := runAt_pos l i
  rw [hf, runsG, if_pos hi, runsG_more l (l.length - (i + (runAt l i).2.2)) f _ (by omega) (by omega)]
theorem runN_in {l : List Int} {i : Nat} (hi : i < l.length) : 1 ≤ runN l i ∧ i + runN l i ≤ l.length := ⟨eqRun_ge l i _ 1, eqRun_in l i _ 1 (by omega)⟩
theorem runAt_in {l : List Int} {i : Nat} (hi : i < l.length) : i + (runAt l i).2.2 ≤ l.length ∧ (runAt l i).2.1 ≤ 127 := by
  have h := runN_in hi
  unfold runAt
  split
  · dsimp only; omega
  · split
    · dsimp only; omega
    · split
      · dsimp only; omega
      · dsimp only; omega
section
variable {w : World}
end
end Go.Proofs.YtghegmbafbpnjaaGreatDoor
set_option maxRecDepth 100000
set_option linter.unusedVariables false
namespace Go.Proofs.YtghegmbafbpnjaaGreatDoor
set_option maxRecDepth 100000
open Go Go.RowKit
theorem eqRun_top {l : List Int} {i n k : Nat} (hl : l.length = n) (h : ¬ (i + k < n ∧ l.getD (i + k) 0 = l.getD i 0)) : eqRun l i (n + 1 - k) k = k := by
  by_cases h0 : n + 1 - k = 0
  · rw [h0]; rfl
  · rw [show n + 1 - k = (n + 1 - k - 1) + 1 from by omega, eqRun, if_neg (fun h' => h ⟨by rw [← hl]; exact h'.1, h'.2⟩)]
set_option maxHeartbeats 1000000 in
theorem equal_pany {w : World} {A : Option Addr} {n c i : Nat} {l : List Int} (hl : l.length = n) (hI : Ints w A (n - i) (l.drop i)) (hi : i < n) (hn : n ≤ 1000) :
    Calls Tryz.prog 124 #[.slice A (n - i) c, .int .i64 138] w fun e w' => e = .returned (.int .i64 (min (runN l i) 138 : Nat)) ∧ But [] w w' := by
  obtain ⟨R, hR⟩ : ∃ R, R = runN l i := ⟨_, rfl⟩
  rw [← hR]
  obtain ⟨m, hm⟩ : ∃ m, m = n - i := ⟨_, rfl⟩
  rw [← hm] at hI ⊢
  have hget : ∀ k (hk : k < m), (l.drop i)[k]'(by rw [List.length_drop]; omega) = l.getD (i + k) 0 := fun k hk => by
    rw [List.getElem_drop, List.getD_eq_getElem?_getD, List.getElem?_eq_getElem (by omega)]; rfl
  obtain ⟨g, o, rfl, hgl, hj0⟩ := hI.at (show 0 < m by omega)
  clear hj0
  have hcl : ∀ k, k < m → w.cell? ⟨g, o + k, none⟩ = some (.int .i64 (l.getD (i + k) 0)) := fun k hk => by
    obtain ⟨g2, o2, e, _, hc⟩ := hI.at hk
    injection e with e
    injection e with e1 e2
    subst e1 e2
    rw [hget k hk] at hc
    exact hc
  have h0 := hcl 0 (by omega)
  rw [Nat.add_zero, Nat.add_zero] at h0
  obtain ⟨x, hx⟩ : ∃ x, x = l.getD i 0 := ⟨_, rfl⟩
  rw [← hx] at h0
  have HCL := Lib.hid hcl
  have HX := Lib.hid hx
  have HR := Lib.hid hR
  have HM := Lib.hid hm
  have HL := Lib.hid hl
  have hm1 : 1 ≤ m := by omega
  have hm2 : m ≤ 1000 := by omega
  have H0 := Lib.hid h0
  clear hcl hget hx hR hl h0
  clear hI
  clear hm
  go_enter Tryz.func124, Tryz.ntmps124
  go_wp2
  go_loopw [5] (fun nv wr => ∃ (k q : Nat), 1 ≤ k ∧ k ≤ m ∧ k ≤ 138 ∧ nv = .int .i64 k ∧ Hid (eqRun l i (n + 1 - k) k = R) ∧ wr = w.drewN q) (fun nv _ => 2000 - (intOf nv).toNat)
  case atStart => exact ⟨1, 0, Nat.le_refl _, by omega, by omega, rfl, Lib.hid (by rw [HR.out, Nat.add_sub_cancel]; unfold runN; rw [HL.out]), rfl⟩
  case round =>
    obtain ⟨k, q, hk1, hkm, hk8, rfl, HE, rfl⟩ := hrel
    have h0 := H0.out
    have k0 : (0 : Int) ≤ (k : Int) := by omega
    have p0 : (0 : Int) < (m : Int) := by omega
    obtain ⟨M, hM⟩ : ∃ M, M = min m 138 := ⟨_, rfl⟩
    have hif : (if (138 : Int) < (m : Int) then (138 : Int) else (m : Int)) = (M : Int) := by split <;> omega
    have hMm : M ≤ m := by omega
    have hM8 : M ≤ 138 := by omega
    have hM2 : M = m ∨ M = 138 := by omega
    have HM2 := Lib.hid hM2
    clear hM hM2
    by_cases hkM : k < M
    · have d1 : decide ((k : Int) < (M : Int)) = true := by simp; omega
      have d2 : decide (k < M) = true := by simp; omega
      have k1 : (k : Int) < (m : Int) := by omega
      have hk := HCL.out k (by omega)
      obtain ⟨y, hy⟩ : ∃ y, y = l.getD (i + k) 0 := ⟨_, rfl⟩
      rw [← hy] at hk
      by_cases hyx : y = x
      · have dx : (x == x) = true := by simp
        have HN := Lib.hid (show eqRun l i (n + 1 - (k + 1)) (k + 1) = R by
          rw [← HE.out, show n + 1 - k = (n + 1 - (k + 1)) + 1 from by have := HM.out; omega, eqRun, if_pos ⟨by rw [HL.out]; have := HM.out; omega, by rw [← hy, hyx, HX.out]⟩])
        rw [hyx] at hk
        clear hyx hy
        go_wp2
        go_quiet (fail)
        go_wp2
        go_roundw
        case rel => exact ⟨k + 1, q + nq, by omega, by omega, by omega, by go_num, HN, by trivial⟩
        case measure => simp [intOf]; omega
      · have dx : (y == x) = false := by simpa using hyx
        have HKR := Lib.hid (show k = R by
          rw [← HE.out, eqRun_top HL.out (fun h => hyx (by rw [hy, h.2, HX.out]))])
        clear hyx hy
        go_wp2
        go_quiet (fail)
        go_wp2
        go_ret
        exact ⟨by rw [show min R 138 = k by have := HKR.out; omega]; rfl, ((But.refl [] w).drewN _).drewN _⟩
    · have d1 : decide ((k : Int) < (M : Int)) = false := by simp; omega
      have d2 : decide (k < M) = false := by simp; omega
      have HKR := Lib.hid (show min R 138 = k by
        have h1 := eqRun_ge l i (n + 1 - k) k
        rw [HE.out] at h1
        rcases HM2.out with h | h
        · have h2 := eqRun_top HL.out (i := i) (k := k) (fun h => by have := HM.out; omega)
          rw [HE.out] at h2; omega
        · omega)
      go_wp2
      go_quiet (fail)
      go_wp2
      go_ret
      exact ⟨by rw [HKR.out]; rfl, ((But.refl [] w).drewN _).drewN _⟩
end Go.Proofs.YtghegmbafbpnjaaGreatDoor
set_option maxRecDepth 100000
set_option linter.unusedVariables false
namespace Go.Proofs.YtghegmbafbpnjaaGreatDoor
set_option maxRecDepth 100000
open Go Go.RowKit
theorem Ints.from_ {w : World} {g o n i : Nat} {l : List Int} (h : Ints w (some ⟨g, o, none⟩) n l) (hi : i < n) : Ints w (some ⟨g, o + i, none⟩) (n - i) (l.drop i) := by
  have hl := h.1
  refine ⟨by rw [List.length_drop]; omega, fun hp => ?_⟩
  obtain ⟨g2, o2, e, hg, hc⟩ := h.2 (by omega)
  injection e with e
  injection e with e1 e2
  subst e1 e2
  refine ⟨g, o + i, rfl, hg, fun j hj => ?_⟩
  have hj2 : i + j < l.length := by rw [List.length_drop] at hj; omega
  have := hc (i + j) hj2
  rw [List.getElem_drop, Nat.add_assoc]
  exact this
/-- A run, as a value. -/
def runVal (c : Int) (m k : Nat) : Value := .tuple #[.agg #[.int .i64 c, .int .i64 (m : Nat)], .int .i64 (k : Nat)]
set_option maxHeartbeats 2000000 in
theorem runAt_pany {w : World} {A : Option Addr} {n c i : Nat} {l : List Int} (hI : Ints w A n l) (hi : i < n) (hn : n ≤ 1000) (hc : n ≤ c) :
    Calls Tryz.prog 106 #[.slice A n c, .int .i64 i] w fun e w' => e = .returned (runVal (runAt l i).1 (runAt l i).2.1 (runAt l i).2.2) ∧ But [] w w' := by
  have hl := hI.1
  obtain ⟨g, o, rfl, hgl, hci⟩ := hI.at hi
  have hgi : l[i]'(by omega) = l.getD i 0 := by rw [List.getD_eq_getElem?_getD, List.getElem?_eq_getElem (by omega)]; rfl
  rw [hgi] at hci
  obtain ⟨x, hx⟩ : ∃ x, x = l.getD i 0 := ⟨_, rfl⟩
  rw [← hx] at hci
  obtain ⟨R, hR⟩ : ∃ R, R = runN l i := ⟨_, rfl⟩
  obtain ⟨N, hN⟩ : ∃ N, N = min R 138 := ⟨_, rfl⟩
  obtain ⟨W, hW⟩ : ∃ W, W = w.alloc (.cells #[.int .i64 0, .int .i64 0] 124) := ⟨_, rfl⟩
  have hBW : But [] w W := by rw [hW]; exact (But.refl [] w).alloc _
  have hIW : Is W w.heap.size 124 #[.int .i64 0, .int .i64 0] := by rw [hW]; exact Is.fresh w _ _
  have hcall := equal_pany (w := W) (c := c - i) hl ((hI.but hBW (by simp)).from_ hi) hi hn
  rw [← hR, ← hN] at hcall
  have hN8 : N ≤ 138 := by omega
  have hprev : 0 < i → w.cell? ⟨g, o + (i - 1), none⟩ = some (.int .i64 (l.getD (i - 1) 0)) := fun h0 => by
    obtain ⟨g2, o2, e, _, hc⟩ := hI.at (i := i - 1) (by omega)
    injection e with e
    injection e with e1 e2
    subst e1 e2
    rw [hc, List.getD_eq_getElem?_getD, List.getElem?_eq_getElem (by omega)]; rfl
  obtain ⟨ag, hag⟩ : ∃ ag : Bool, ag = decide (x ≠ 0 ∧ 0 < i ∧ l.getD (i - 1) 0 = x) := ⟨_, rfl⟩
  have dci : decide (c = i) = false := by simp; omega
  have HCALL := Lib.hid hcall
  have HBW := Lib.hid hBW
  have HIW := Lib.hid hIW
  have HX := Lib.hid hx
  have HR := Lib.hid hR
  have HN := Lib.hid hN
  have HAG := Lib.hid hag
  have HPREV := Lib.hid hprev
  have HCI := Lib.hid hci
  have i0 : (0 : Int) ≤ (i : Int) := by omega
  have i1 : (i : Int) < (n : Int) := by omega
  have ic : (i : Int) ≤ (c : Int) := by omega
  clear hcall hBW hIW hx hR hN hag hprev hci hgi hl hI
  by_cases hx0 : x = 0
  · have dx0 : (x == 0) = true := by simp [hx0]
    have HX0 := Lib.hid (show l.getD i 0 = 0 by rw [← HX.out]; exact hx0)
    clear hx0
    go_enter Tryz.func106, Tryz.ntmps106
    go_wp2_with fail
    rw [← hW]
    refine HCALL.out.mono ?_
    rintro e w1 ⟨rfl, hB1⟩
    have hI1 := HIW.out.but hB1 (by simp)
    have hci1 := (HBW.out.trans hB1).cell HCI.out (by simp)
    have hpv1 := fun h => (HBW.out.trans hB1).cell (HPREV.out h) (by simp)
    have HB1 := Lib.hid (HBW.out.trans hB1)
    have HI1 := Lib.hid hI1
    have HPV1 := Lib.hid hpv1
    clear hB1 hI1 HCALL hW hpv1 HPREV
    go_upto_region 3 with (fail)
    go_cut [8] from 18 to 35 (fun v wx => v = .bool false ∧ ∃ q, wx = w1.drewN q)
    case first =>
      go_quiet (fail)
      go_wp2
      go_meet
      exact ⟨rfl, nq, rfl⟩
    case rest =>
    obtain ⟨rfl, q, hw2⟩ := hcut
    obtain ⟨w2, rfl⟩ : ∃ w2 : World, w2 = wc := ⟨_, rfl⟩
    have HI2 : Hid (Is w2 w.heap.size 124 #[.int .i64 0, .int .i64 0]) := Lib.hid (by rw [hw2]; exact HI1.out.drewN q)
    have HB2 : Hid (But [] w w2) := Lib.hid (by rw [hw2]; exact HB1.out.drewN q)
    have hci2 : w2.cell? ⟨g, o + i, none⟩ = some (.int .i64 x) := by rw [hw2]; exact hci1
    clear hw2
    by_cases h11 : 11 ≤ N
    · have d11 : decide ((11 : Int) ≤ (N : Int)) = true := by simp; omega
      have HRA := Lib.hid (show runAt l i = ((18 : Int), N - 11, N) by
        unfold runAt
        rw [← HR.out, ← HN.out, if_pos ⟨HX0.out, by have := HN.out; omega⟩])
      obtain ⟨y, hy⟩ : ∃ y, y = N - 11 := ⟨_, rfl⟩
      have ey : (N : Int) - 11 = (y : Int) := by omega
      rw [← hy] at HRA
      clear hy
      have hI2 := HI2.out
      have c0 := hI2.cell 0
      have c1 := hI2.cell 1
      have f0 := hI2.free 0
      have f1 := hI2.free 1
      have hI3 := (hI2.put 0 (.int .i64 18)).put 1 (.int .i64 (y : Nat))
      have hB3 := ((HB2.out.setCell (p := ⟨w.heap.size, 0, none⟩) (.inr (Nat.le_refl _)) (.int .i64 18)).setCell (p := ⟨w.heap.size, 1, none⟩) (.inr (Nat.le_refl _)) (.int .i64 (y : Nat)))
      have e0 := hI3.cell 0
      have e1 := hI3.cell 1
      have HB3 := Lib.hid hB3
      clear hI2 hI3 hB3
      go_wp2
      refine bodyPost_ret (v := .tuple #[.agg #[.int .i64 18, .int .i64 (y : Nat)], .int .i64 (N : Nat)]) (by simp [results, Tryz.results106, go_sem, e0, e1]) rfl ?_
      exact ⟨by rw [HRA.out]; rfl, HB3.out⟩

    · have d11 : decide ((11 : Int) ≤ (N : Int)) = false := by simp; omega
      by_cases h3 : 3 ≤ N
      · have d3 : decide ((3 : Int) ≤ (N : Int)) = true := by simp; omega
        have HRA := Lib.hid (show runAt l i = ((17 : Int), N - 3, N) by
          have hRN : R = N := by have := HN.out; omega
          unfold runAt
          rw [← HR.out, hRN, if_neg (fun h => h11 h.2), if_pos ⟨HX0.out, h3⟩])
        obtain ⟨y, hy⟩ : ∃ y, y = N - 3 := ⟨_, rfl⟩
        have ey : (N : Int) - 3 = (y : Int) := by omega
        rw [← hy] at HRA
        clear hy
        have hI2 := HI2.out
        have c0 := hI2.cell 0
        have c1 := hI2.cell 1
        have f0 := hI2.free 0
        have f1 := hI2.free 1
        have hI3 := (hI2.put 0 (.int .i64 17)).put 1 (.int .i64 (y : Nat))
        have hB3 := ((HB2.out.setCell (p := ⟨w.heap.size, 0, none⟩) (.inr (Nat.le_refl _)) (.int .i64 17)).setCell (p := ⟨w.heap.size, 1, none⟩) (.inr (Nat.le_refl _)) (.int .i64 (y : Nat)))
        have e0 := hI3.cell 0
        have e1 := hI3.cell 1
        have HB3 := Lib.hid hB3
        clear hI2 hI3 hB3
        go_wp2
        refine bodyPost_ret (v := .tuple #[.agg #[.int .i64 17, .int .i64 (y : Nat)], .int .i64 (N : Nat)]) (by simp [results, Tryz.results106, go_sem, e0, e1]) rfl ?_
        exact ⟨by rw [HRA.out]; rfl, HB3.out⟩

      · have d3 : decide ((3 : Int) ≤ (N : Int)) = false := by simp; omega
        have HRA := Lib.hid (show runAt l i = (x, 0, 1) by
          have hRN : R = N := by have := HN.out; omega
          unfold runAt
          rw [← HR.out, hRN, if_neg (fun h => h11 h.2), if_neg (fun h => h3 h.2), if_neg (fun h => h3 h.2.2.2), ← HX.out])
        have hI2 := HI2.out
        have c0 := hI2.cell 0
        have c1 := hI2.cell 1
        have f0 := hI2.free 0
        have f1 := hI2.free 1
        have hI3 := (hI2.put 0 (.int .i64 x)).put 1 (.int .i64 0)
        have hB3 := ((HB2.out.setCell (p := ⟨w.heap.size, 0, none⟩) (.inr (Nat.le_refl _)) (.int .i64 x)).setCell (p := ⟨w.heap.size, 1, none⟩) (.inr (Nat.le_refl _)) (.int .i64 0))
        have e0 := hI3.cell 0
        have e1 := hI3.cell 1
        have HB3 := Lib.hid hB3
        clear hI2 hI3 hB3
        go_wp2
        refine bodyPost_ret (v := .tuple #[.agg #[.int .i64 x, .int .i64 0], .int .i64 1]) (by simp [results, Tryz.results106, go_sem, e0, e1]) rfl ?_
        exact ⟨by rw [HRA.out]; rfl, HB3.out⟩

  · have dx0 : (x == 0) = false := by simpa using hx0
    have HX0 := Lib.hid (show ¬ l.getD i 0 = 0 by rw [← HX.out]; exact hx0)
    go_enter Tryz.func106, Tryz.ntmps106
    go_wp2_with fail
    rw [← hW]
    refine HCALL.out.mono ?_
    rintro e w1 ⟨rfl, hB1⟩
    have hI1 := HIW.out.but hB1 (by simp)
    have hci1 := (HBW.out.trans hB1).cell HCI.out (by simp)
    have hpv1 := fun h => (HBW.out.trans hB1).cell (HPREV.out h) (by simp)
    have HB1 := Lib.hid (HBW.out.trans hB1)
    have HI1 := Lib.hid hI1
    have HPV1 := Lib.hid hpv1
    clear hB1 hI1 HCALL hW hpv1 HPREV
    go_upto_region 3 with (fail)
    go_cut [8] from 18 to 35 (fun v wx => v = .bool ag ∧ ∃ q, wx = w1.drewN q)
    case first =>
      by_cases hip : 0 < i
      · have d0 : decide ((0 : Int) < (i : Int)) = true := by simp; omega
        have d0' : decide (0 < i) = true := by simp; omega
        have hp := HPV1.out hip
        obtain ⟨j, hj⟩ : ∃ j, j = i - 1 := ⟨_, rfl⟩
        rw [← hj] at hp
        obtain ⟨y, hy⟩ : ∃ y, y = l.getD j 0 := ⟨_, rfl⟩
        rw [← hy] at hp
        have ej : (i : Int) - 1 = (j : Int) := by omega
        have wi : IntKind.i64.wrap ((i : Int) - 1) = (j : Int) := by rw [ej]; exact IntWalk.i64_in _ (by omega)
        have wj : IntKind.i64.wrap (j : Int) = (j : Int) := IntWalk.i64_in _ (by omega)
        have j0 : (0 : Int) ≤ (j : Int) := by omega
        have j1 : (j : Int) < (n : Int) := by omega
        by_cases hyx : y = x
        · have dyx : (x == x) = true := by simp
          have HA := Lib.hid (show ag = true by rw [HAG.out]; simp only [decide_eq_true_eq]; exact ⟨hx0, hip, by rw [← hj, ← hy]; exact hyx⟩)
          subst hyx
          clear hy hj hx0
          go_quiet (fail)
          go_wp2
          go_meet
          exact ⟨by rw [HA.out], nq, rfl⟩
        · have dyx : (y == x) = false := by simpa using hyx
          have HA := Lib.hid (show ag = false by rw [HAG.out]; simp only [decide_eq_false_iff_not]; exact fun h => hyx (by rw [hy, hj]; exact h.2.2))
          clear hy hj hyx hx0
          go_quiet (fail)
          go_wp2
          go_meet
          exact ⟨by rw [HA.out], nq, rfl⟩
      · have d0 : decide ((0 : Int) < (i : Int)) = false := by simp; omega
        have d0' : decide (0 < i) = false := by simp; omega
        have HA := Lib.hid (show ag = false by rw [HAG.out]; simp only [decide_eq_false_iff_not]; exact fun h => hip h.2.1)
        clear hx0
        go_quiet (fail)
        go_wp2
        go_meet
        exact ⟨by rw [HA.out], nq, rfl⟩
    case rest =>
    obtain ⟨rfl, q, hw2⟩ := hcut
    obtain ⟨w2, rfl⟩ : ∃ w2 : World, w2 = wc := ⟨_, rfl⟩
    have HI2 : Hid (Is w2 w.heap.size 124 #[.int .i64 0, .int .i64 0]) := Lib.hid (by rw [hw2]; exact HI1.out.drewN q)
    have HB2 : Hid (But [] w w2) := Lib.hid (by rw [hw2]; exact HB1.out.drewN q)
    have hci2 : w2.cell? ⟨g, o + i, none⟩ = some (.int .i64 x) := by rw [hw2]; exact hci1
    clear hw2
    clear hx0
    by_cases h16 : ag = true ∧ 3 ≤ N
    · obtain ⟨hag, h3⟩ := h16
      have d3 : decide ((3 : Int) ≤ (N : Int)) = true := by simp; omega
      have HA := HAG.out
      rw [hag] at HA
      have hA := of_decide_eq_true HA.symm
      obtain ⟨m, hm⟩ : ∃ m, m = min N 6 := ⟨_, rfl⟩
      have hm2 : m = min R 6 := by have := HN.out; omega
      have HRA := Lib.hid (show runAt l i = ((16 : Int), m - 3, m) by
        unfold runAt
        rw [← HR.out, if_neg (fun h => HX0.out h.1), if_neg (fun h => HX0.out h.1), if_pos ⟨HX0.out, hA.2.1, by rw [← HX.out]; exact hA.2.2, by have := HN.out; omega⟩, ← hm2])
      subst hag
      have hm1 : 3 ≤ m ∧ m ≤ 6 ∧ m ≤ N := by omega
      obtain ⟨y, hy⟩ : ∃ y, y = m - 3 := ⟨_, rfl⟩
      have ey : (m : Int) - 3 = (y : Int) := by omega
      rw [← hy] at HRA
      have HM := Lib.hid hm
      clear hy hm hm2 HA hA
      go_upto_region 9 with (fail)
      go_cut [6] from 62 to 63 (fun v wx => v = .int .i64 (m : Nat) ∧ w2 = wx)
      case first =>
        rcases Nat.lt_or_ge 6 N with h5 | h5
        · have e : m = 6 := by have := HM.out; omega
          subst e
          go_wp2
          all_goals (go_meet; exact ⟨rfl, rfl⟩)
        · have e : m = N := by have := HM.out; omega
          subst e
          go_wp2
          all_goals (go_meet; exact ⟨rfl, rfl⟩)
      case rest =>
      obtain ⟨rfl, rfl⟩ := hcut
      have hI2 := HI2.out
      have c0 := hI2.cell 0
      have c1 := hI2.cell 1
      have f0 := hI2.free 0
      have f1 := hI2.free 1
      have hI3 := (hI2.put 0 (.int .i64 16)).put 1 (.int .i64 (y : Nat))
      have hB3 := ((HB2.out.setCell (p := ⟨w.heap.size, 0, none⟩) (.inr (Nat.le_refl _)) (.int .i64 16)).setCell (p := ⟨w.heap.size, 1, none⟩) (.inr (Nat.le_refl _)) (.int .i64 (y : Nat)))
      have e0 := hI3.cell 0
      have e1 := hI3.cell 1
      have HB3 := Lib.hid hB3
      clear hI2 hI3 hB3
      go_wp2
      refine bodyPost_ret (v := .tuple #[.agg #[.int .i64 16, .int .i64 (y : Nat)], .int .i64 (m : Nat)]) (by simp [results, Tryz.results106, go_sem, e0, e1]) rfl ?_
      exact ⟨by rw [HRA.out]; rfl, HB3.out⟩

    · have HRA := Lib.hid (show runAt l i = (x, 0, 1) by
        unfold runAt
        rw [← HR.out, if_neg (fun h => HX0.out h.1), if_neg (fun h => HX0.out h.1), if_neg (fun h => h16 ⟨by rw [HAG.out]; simp only [decide_eq_true_eq]; exact ⟨by rw [HX.out]; exact h.1, h.2.1, by rw [HX.out]; exact h.2.2.1⟩, by have := HN.out; omega⟩), ← HX.out])
      cases ag with
      | true =>
        have d3 : decide ((3 : Int) ≤ (N : Int)) = false := decide_eq_false (fun h => h16 ⟨rfl, by omega⟩)
        clear h16
        have hI2 := HI2.out
        have c0 := hI2.cell 0
        have c1 := hI2.cell 1
        have f0 := hI2.free 0
        have f1 := hI2.free 1
        have hI3 := (hI2.put 0 (.int .i64 x)).put 1 (.int .i64 0)
        have hB3 := ((HB2.out.setCell (p := ⟨w.heap.size, 0, none⟩) (.inr (Nat.le_refl _)) (.int .i64 x)).setCell (p := ⟨w.heap.size, 1, none⟩) (.inr (Nat.le_refl _)) (.int .i64 0))
        have e0 := hI3.cell 0
        have e1 := hI3.cell 1
        have HB3 := Lib.hid hB3
        clear hI2 hI3 hB3
        go_wp2
        refine bodyPost_ret (v := .tuple #[.agg #[.int .i64 x, .int .i64 0], .int .i64 1]) (by simp [results, Tryz.results106, go_sem, e0, e1]) rfl ?_
        exact ⟨by rw [HRA.out]; rfl, HB3.out⟩

      | false =>
        clear h16
        have hI2 := HI2.out
        have c0 := hI2.cell 0
        have c1 := hI2.cell 1
        have f0 := hI2.free 0
        have f1 := hI2.free 1
        have hI3 := (hI2.put 0 (.int .i64 x)).put 1 (.int .i64 0)
        have hB3 := ((HB2.out.setCell (p := ⟨w.heap.size, 0, none⟩) (.inr (Nat.le_refl _)) (.int .i64 x)).setCell (p := ⟨w.heap.size, 1, none⟩) (.inr (Nat.le_refl _)) (.int .i64 0))
        have e0 := hI3.cell 0
        have e1 := hI3.cell 1
        have HB3 := Lib.hid hB3
        clear hI2 hI3 hB3
        go_wp2
        refine bodyPost_ret (v := .tuple #[.agg #[.int .i64 x, .int .i64 0], .int .i64 1]) (by simp [results, Tryz.results106, go_sem, e0, e1]) rfl ?_
        exact ⟨by rw [HRA.out]; rfl, HB3.out⟩

end Go.Proofs.YtghegmbafbpnjaaGreatDoor
set_option maxRecDepth 100000
set_option linter.unusedVariables false
namespace Go.Proofs.YtghegmbafbpnjaaGreatDoor
set_option maxRecDepth 100000
open Go Go.RowKit
/-- A slice of the program's runs of the call's own. -/
def OwnP (w : World) (base : Nat) (v : Value) (L : List (Int × Nat)) : Prop := w.ownsRow base 124 2 v L.length (qCells L)
theorem info_prun : (Tryz.prog.info? 124).map (fun i => (i.zero, i.size, i.bytes)) = some (some (.agg #[.int .i64 0, .int .i64 0]), 2, 16) := by kernel_rfl
theorem OwnP.nil (w : World) (base : Nat) : OwnP w base (.slice none 0 0) [] := World.ownsRow_nil _ _ _ _
theorem OwnP.but {w w' : World} {base : Nat} {v : Value} {L : List (Int × Nat)} (h : OwnP w base v L) (hw : But [] w w') : OwnP w' base v L := ownsRow_but h hw (by simp)
theorem OwnP.open {w : World} {base : Nat} {v : Value} {L : List (Int × Nat)} (h : OwnP w base v L) : ∃ A c, v = .slice A L.length c ∧ Qs w A L.length L := by
  unfold OwnP at h
  rcases h.2 with ⟨rfl, e⟩ | ⟨g, cap, cur, rfl, hg, hh, r⟩
  · have : L = [] := List.eq_nil_of_length_eq_zero e
    subst this
    exact ⟨none, 0, rfl, rfl, fun h => absurd h (by simp)⟩
  · refine ⟨some ⟨g, 0, none⟩, cap, rfl, rfl, fun hn => ⟨g, 0, rfl, (h.lt g rfl).2, fun i hi => ?_⟩⟩
    obtain ⟨h0, h1⟩ := qCells_at L i hi
    have c0 := h.cells (g := g) rfl (i * 2) _ h0
    have c1 := h.cells (g := g) rfl (i * 2 + 1) _ h1
    rw [Go.WideShapes.add_plain] at c0 c1
    exact ⟨c0, c1⟩
theorem OwnP.pushed {w wr w' : World} {v v' : Value} {L : List (Int × Nat)} {x : Int × Nat} {cs : Array Value} {t : TypeId} (hB : But [] w wr) (hO : OwnP wr w.heap.size v L)
    (h1 : w'.ownsRow w.heap.size 124 2 v' (L.length + 1) (qCells L ++ [.int .i64 x.1, .int .i64 (x.2 : Nat)])) (hg : (wr.alloc (.cells cs t)).grownBy w' v.ownBlock) :
    OwnP w' w.heap.size v' (L ++ [x]) ∧ But [] w w' := by
  refine ⟨?_, (hB.alloc _).grown hg (fun g e => .inr (hO.lt g e).1)⟩
  unfold OwnP
  rw [List.length_append, qCells_append]
  simpa [qCells] using h1
/-- Runs, in a slice of the call's own. -/
def GotRuns (w : World) (L : List (Int × Nat)) (e : Ending) (w' : World) : Prop := ∃ v, e = .returned v ∧ OwnP w' w.heap.size v L ∧ But [] w w'
section
variable {w : World}
set_option maxHeartbeats 2000000 in
theorem runs_pany {A : Option Addr} {n c : Nat} {l : List Int} (hl : Ints w A n l) (hn : n ≤ 1000) (hc : n ≤ c) :
    Calls Tryz.prog 81 #[.slice A n c] w (GotRuns w (runs l)) := by
  obtain ⟨i0, hi0, hz0, hz1, hz2⟩ := info_parts info_prun
  have HI := Lib.hid hl
  have HLN := Lib.hid hl.1
  clear hl
  go_enter Tryz.func81, Tryz.ntmps81
  go_wp2
  go_loopw [3, 4] (fun ov iv wr => ∃ (i : Nat) (L : List (Int × Nat)), i ≤ n ∧ iv = .int .i64 i ∧ L.length ≤ i ∧ Hid (L ++ runsG l (l.length - i) i = runs l) ∧ Hid (OwnP wr w.heap.size ov L) ∧ Hid (But [] w wr)) (fun _ iv _ => n - (intOf iv).toNat)
  case atStart => exact ⟨0, [], Nat.zero_le _, rfl, Nat.le_refl _, Lib.hid rfl, Lib.hid (OwnP.nil _ _), Lib.hid (But.refl _ _)⟩
  case round =>
    obtain ⟨i, L, hin, rfl, hL, HR, HO, HB⟩ := hrel
    by_cases hlt : i < n
    · have hil : i < l.length := by have := HLN.out; omega
      have HST := Lib.hid (runs_step hil)
      have hri := runAt_in hil
      rw [HLN.out] at hri
      have hpos := runAt_pos l i
      have hcall := runAt_pany (HI.out.but HB.out (by simp)) hlt hn hc
      obtain ⟨x, m, k, hx⟩ : ∃ (x : Int) (m k : Nat), runAt l i = (x, m, k) := ⟨_, _, _, rfl⟩
      rw [hx] at hcall hri hpos
      have HX := Lib.hid hx
      dsimp only at hcall hri hpos
      obtain ⟨hk1, hm127⟩ := hri
      have HCALL := Lib.hid hcall
      clear hx hcall hil
      go_wp2_with fail
      refine HCALL.out.mono ?_
      rintro e w1 ⟨rfl, hB1⟩
      unfold runVal
      have hI1 := Is.fresh w1 124 #[.int .i64 x, .int .i64 (m : Nat)]
      have hO1 := (HO.out.but hB1).but ((But.refl [] w1).alloc (.cells #[.int .i64 x, .int .i64 (m : Nat)] 124))
      have hB2 := (HB.out.trans hB1).alloc (.cells #[.int .i64 x, .int .i64 (m : Nat)] 124)
      go_upto_region 5 with (fail)
      obtain ⟨wb, hwb⟩ : ∃ W, W = w1.alloc (.cells #[.int .i64 x, .int .i64 (m : Nat)] 124) := ⟨_, rfl⟩
      rw [← hwb] at hI1 hO1 hB2 ⊢
      have c0 := hI1.cell 0
      have c1 := hI1.cell 1
      have HO1 := Lib.hid hO1
      have HB2 := Lib.hid hB2
      have hsz := hB2.size
      clear hI1 hO1 hB2 hB1 hwb HCALL
      go_wp2_with (at_builtin; go_loud (refine wpList_append_own _ rfl _ _ 120 rfl w.heap.size 124 i0 (.agg #[.int .i64 0, .int .i64 0]) 2 16 Tryz.underlying120 hi0 hz0 hz1 hz2 rfl (by decide) _ L.length (qCells L) rfl (World.ownsRow.alloc HO1.out _) ⟨wb.heap.size, 0, none⟩ 1 1 [.int .i64 x, .int .i64 (m : Nat)] rfl rfl ?a1 ?a2 ?a3 ?a4 ?a5 ?_))
      case a1 => exact World.news_of_block (cs := #[.int .i64 x, .int .i64 (m : Nat)]) (t := 124) (fr := (0, 0)) (heap_alloc_new wb _)
      case a2 => simp [Value.oneCell']
      case a3 => unfold maxLen; omega
      case a4 => omega
      case a5 => simp; omega
      intro v' w2 hown2 hgrow2 _
      have HP := Lib.hid (OwnP.pushed (x := (x, m)) HB2.out HO1.out hown2 hgrow2)
      clear hown2 hgrow2 c0 c1
      go_wp2
      go_roundw
      case rel => exact ⟨i + k, L ++ [(x, m)], by omega, by go_num, by rw [List.length_append, List.length_singleton]; omega, Lib.hid (by rw [← HR.out, HST.out, HX.out, List.append_assoc]; rfl), Lib.hid HP.out.1, Lib.hid HP.out.2⟩
      case measure => simp [intOf]; omega
    · go_wp2
      go_ret
      refine ⟨_, rfl, ?_, HB.out⟩
      have h := HR.out
      rw [show l.length - i = 0 by have := HLN.out; omega] at h
      have h2 : L ++ [] = runs l := h
      rw [List.append_nil] at h2
      rw [← h2]; exact HO.out
end
end Go.Proofs.YtghegmbafbpnjaaGreatDoor
