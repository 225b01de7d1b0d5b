/- Several texts in one: DyT, FixT (what Back reach of them). -/
import Derived.Test.YtjeeiodpdfbgmaaDoorPm01
import Derived.Test.YtjeeiodpdfbgmaaDoorPm02
import Derived.Test.YtjeeiodpdfbgmaaDoorPm03
import Derived.Test.YtjeeiodpdfbgmaaDoorPm04
import Derived.Test.YtjeeiodpdfbgmaaDoorPm05
import Derived.Test.YtjeeiodpdfbgmaaDoorPm06
import Derived.Test.YtjeeiodpdfbgmaaDoorPm07
import Derived.Test.YtjeeiodpdfbgmaaDoorPm08
import Derived.Test.YtjeeiodpdfbgmaaDoorPm09
import Derived.Test.YtjeeiodpdfbgmaaDoorPm10
import Derived.Test.YtjeeiodpdfbgmaaDoorPm11
import Derived.Test.YtjeeiodpdfbgmaaDoorPm12
import Derived.Test.YtjeeiodpdfbgmaaDoorPm14
import Derived.Test.YtjeeiodpdfbgmaaDoorPm15
import Derived.Test.YtjeeiodpdfbgmaaDoorPm31
import Derived.Test.YtjeeiodpdfbgmaaDoorPm33
import Derived.Test.YtjeeiodpdfbgmaaDoorPm34
import Derived.Below
import Derived.BigQuiet
import Derived.BigRegion
import Derived.Deep.AppendLies
import Derived.Deep.CutRange
import Derived.Deep.DeepCutAuto
import Derived.Deep.Draws
import Derived.Deep.LoopGhost
import Derived.Deep.QuietTactic
import Derived.Deep.RegionLaw
import Derived.Deep.RegionWith
import Derived.Deep.Slices
import Derived.Laws.BitsAllLaws
import Derived.Laws.BitsLemmas
import Derived.Laws.CopyOwn
import Derived.Laws.IdiomStrings
import Derived.Laws.OwnMore
import Derived.Laws.Rows
import Derived.Lib.AppendStr
import Derived.Lib.AppendZeros
import Derived.Lib.Hide
import Derived.Lib.Strings
import Derived.LoopIn
import Derived.LoopNIn
import Derived.OneCell
import Derived.OpenShut
import Derived.Outline
import Derived.OwnWalk
import Derived.OwnWalkIn
import Derived.ProofKit
import Derived.RangeFuncBound
import Derived.RangeFuncCalls
import Derived.RangeFuncLeaves
import Derived.RangeFuncNested
import Derived.RegionTactic
import Derived.Shelf.Abstract
import Derived.Shelf.RegionOpen
import Derived.Shelf.SlSortCmp.QuietGrown
import Derived.StillTailTactics
import Derived.TacticsInMore
import Derived.Test.YtjeeiodpdfbgmaaDoorChecked
import Derived.WalkKit
import Derived.WalkLawsBesides
import Derived.WalkSpells
set_option maxRecDepth 100000
set_option linter.unusedVariables false
namespace Go.Proofs.YtjeeiodpdfbgmaaDoor
set_option maxRecDepth 100000
open Go Go.RowKit
/-- The tables with which a dynamic block begins. -/
def dynTabs (F : Nat) : Rd (List Int × List Int) := rBind (rBits 14) fun v => rBind (rSmall (4 + v / 1024)) fun small =>
  rBind (lenG small (v % 32 + 257 + (v / 32 % 32 + 1)) F []) fun ls => tablesR (ls.take (v % 32 + 257)) (ls.drop (v % 32 + 257)) (rPure (ls.take (v % 32 + 257), ls.drop (v % 32 + 257)))
theorem bind_tables {α β : Type} (l d : List Int) (m : Rd α) (f : α → Rd β) : rBind (tablesR l d m) f = tablesR l d (rBind m f) := by
  unfold tablesR; rw [bind_when, bind_when]
theorem dyn_tabs (most : Int) (F : Nat) (out : List UInt8) : dynR most F out = rBind (dynTabs F) fun x => symG x.1 x.2 most F out := by
  rw [dyn_head]
  unfold dynTabs rSmall
  simp only [bind_bind, bind_when, bind_pure, bind_tables]
  rfl
theorem lenG_len (small : List Int) (total : Nat) (s : ByteArray) : ∀ f acc p ls q, acc.length ≤ total → lenG small total f acc s p = .ok (ls, q) → ls.length = total
  | 0, _, _, _, _, _, h => by cases h
  | f + 1, acc, p, ls, q, ha, h => by
    by_cases hd : total ≤ acc.length
    · rw [len_done hd] at h
      injection h with h
      injection h with h _
      subst h; omega
    · rw [len_open (by omega)] at h
      obtain ⟨⟨t, q1⟩, _, h2⟩ := ok_bind h
      dsimp only at h2
      by_cases h16 : t < 16
      · rw [if_pos h16] at h2
        exact lenG_len small total s f _ _ _ _ (by simp; omega) h2
      · rw [if_neg h16] at h2
        have key : ∀ (k : Nat) (x : Int) (bs : Nat), rBind (rBits bs) (fun y => rWhen (total < acc.length + (k + y)) 12 (lenG small total f (acc ++ List.replicate (k + y) x))) s q1 = .ok (ls, q) → ls.length = total := fun k x bs h3 => by
          obtain ⟨⟨y, q2⟩, _, h4⟩ := ok_bind h3
          obtain ⟨hc, h5⟩ := ok_when h4
          exact lenG_len small total s f _ _ _ _ (by simp; dsimp only at hc; omega) h5
        by_cases e16 : t = 16
        · rw [if_pos e16] at h2
          obtain ⟨_, h3⟩ := ok_when h2
          exact key _ _ _ h3
        · rw [if_neg e16] at h2
          by_cases e17 : t = 17
          · rw [if_pos e17] at h2
            exact key _ _ _ h2
          · rw [if_neg e17] at h2
            exact key _ _ _ h2
theorem smallG_len (s : ByteArray) : ∀ (ks : List Nat) (a : List Int) p ls q, smallG ks a s p = .ok (ls, q) → ls.length = a.length
  | [], a, p, ls, q, h => by
    have h : Except.ok (a, p) = .ok (ls, q) := h
    injection h with h
    injection h with h _
    rw [h]
  | k :: ks, a, p, ls, q, h => by
    have h : rBind (rBits 3) (fun v => smallG ks (a.set k (v : Nat))) s p = .ok (ls, q) := h
    obtain ⟨⟨v, q1⟩, _, h2⟩ := ok_bind h
    have := smallG_len s ks _ _ _ _ h2
    rw [List.length_set] at this
    exact this
theorem rSmall_len {told p q : Nat} {small : List Int} {s : ByteArray} (h : rSmall told s p = .ok (small, q)) : small.length = 19 := by
  unfold rSmall at h
  obtain ⟨⟨a, q1⟩, h1, h2⟩ := ok_bind h
  obtain ⟨_, h3⟩ := ok_when h2
  injection h3 with h3
  injection h3 with h3 _
  rw [← h3]
  exact smallG_len s _ _ _ _ _ h1
theorem rSmall_adv (told : Nat) : Adv (rSmall told) := by
  unfold rSmall
  exact Adv.bind (smallG_adv _ _) fun x => Adv.when (Adv.pure _)
section
variable {w w' : World} {b rb db : Nat} {og : Option Nat} {s : ByteArray} {p : Nat} {M : Int} {L : List UInt8} {fs fd : Option Nat}
theorem own_form {base : Nat} {v : Value} {l : List Int} (h : OwnI w base v l) (hl : 0 < l.length) : ∃ g c, v = .slice (some ⟨g, 0, none⟩) l.length c ∧ l.length ≤ c ∧ c ≤ 9223372036854775807 ∧ Ints w (some ⟨g, 0, none⟩) l.length l := by
  have h' := h
  unfold OwnI at h'
  rcases h'.2 with ⟨rfl, e⟩ | ⟨g, cap, cur, rfl, _, _, h1, h2, _⟩
  · simp at e
    subst e
    simp at hl
  · obtain ⟨A, c, e, hI, _⟩ := h.open
    injection e with e1 e2 e3
    subst e1 e3
    exact ⟨g, cap, rfl, h1, by unfold maxLen at h2; omega, hI⟩
theorem smallI (h : SS w b rb db og s p M L fs fd) (hG : Keep (Foot b rb og) w GL) {i : Int} (told : Nat) (hi : i = told) (ht : told ≤ 19) :
    Calls Tryd.prog 98 #[.pointer (some ⟨b, 0, none⟩), .int .i64 i] w (GotS w b rb db og s M L fs fd (rSmall told s p)) := by
  subst hi; exact smallTable_any h hG told ht
theorem readI {bt F : Nat} {small : List Int} (h : SS w b rb db og s p M L fs fd) (hG : Keep (Foot b rb og) w GL) (hT : Keep (Foot b rb og) w fun w' => TT w' bt small) (hc : chk small = 0) (h19 : small.length = 19) {i : Int}
    (total : Nat) (hi : i = total) (ht : total ≤ 400) (hF : 8 * s.size - p < F) :
    Calls Tryd.prog 99 #[.pointer (some ⟨b, 0, none⟩), .pointer (some ⟨bt, 0, none⟩), .int .i64 i] w (GotL w b rb db og s M L fs fd (lenG small total F [] s p)) := by
  subst hi; exact readLengths_any h hG hT hc h19 total ht hF
def GotD (w : World) (b rb db : Nat) (og : Option Nat) (s : ByteArray) (M : Int) (L : List UInt8) (fs fd : Option Nat) (r : Except Int ((List Int × List Int) × Nat)) (e : Ending) (w' : World) : Prop :=
  ∃ (p1 p2 : Value) (er : Int) (q : Nat) (l d : List Int), e = .returned (.tuple #[.agg #[p1, p2], .int .i64 er]) ∧ Mv b rb w w' og og ∧ (er ≠ 0 → r = .error er ∧ p1 = .pointer none ∧ p2 = .pointer none) ∧
    (er = 0 → r = .ok ((l, d), q) ∧ SS w' b rb db og s q M L fs fd ∧ chk l = 0 ∧ chk d = 0 ∧ ∃ b1 b2, p1 = .pointer (some ⟨b1, 0, none⟩) ∧ p2 = .pointer (some ⟨b2, 0, none⟩) ∧ (∀ F, (∀ k ∈ F, k < w.heap.size) → Keep F w' (fun x => TT x b1 l)) ∧ (∀ F, (∀ k ∈ F, k < w.heap.size) → Keep F w' (fun x => TT x b2 d)))
theorem GotD.err {w1 : World} {r : Except Int ((List Int × List Int) × Nat)} {er : Int} {x y : Value} (hM : Mv b rb w w1 og og) (hr : r = .error er) (her : er ≠ 0) :
    GotD w b rb db og s M L fs fd r (.returned (.tuple #[.agg #[.pointer none, .pointer none], .int .i64 er])) ((w1.setCell ⟨w.heap.size, 0, none⟩ x).setCell ⟨w.heap.size, 1, none⟩ y) :=
  ⟨_, _, er, 0, [], [], rfl, ⟨(hM.but.setCell (.inr (Nat.le_refl _)) _).setCell (.inr (Nat.le_refl _)) _, hM.own⟩, fun _ => ⟨hr, rfl, rfl⟩, fun e => absurd e her⟩
/-- What a pair of tables is told as. -/
def GotP (w : World) (l d : List Int) (x1 x2 : Option Addr) (er : Int) (w' : World) : Prop :=
  (er ≠ 0 → x1 = none ∧ x2 = none ∧ (chk l = er ∨ (chk l = 0 ∧ chk d = er))) ∧
    (er = 0 → chk l = 0 ∧ chk d = 0 ∧ ∃ b1 b2, x1 = some ⟨b1, 0, none⟩ ∧ x2 = some ⟨b2, 0, none⟩ ∧ NewT w.heap.size w' b1 l ∧ NewT w.heap.size w' b2 d)
theorem makeTables_pt {A B : Option Addr} {n m cA cB : Nat} {l d : List Int} (hl : Ints w A n l) (hd : Ints w B m d) (hn : n * 8 ≤ 140737488351232) (hm : m * 8 ≤ 140737488351232)
    (hA : A = none → cA = 0) (hB : B = none → cB = 0) :
    Calls Tryd.prog 97 #[.slice A n cA, .slice B m cB] w fun e w' => ∃ x1 x2 er, e = .returned (.tuple #[.agg #[.pointer x1, .pointer x2], .int .i64 er]) ∧ But [] w w' ∧ GotP w l d x1 x2 er w' := by
  refine (makeTables_any hl hd hn hm hA hB).mono ?_
  rintro e w' ⟨p1, p2, er, rfl, hB, h1, h2⟩
  by_cases her : er = 0
  · obtain ⟨c1, c2, b1, b2, e1, e2, t1, t2⟩ := h2 her
    obtain rfl : p1 = .pointer (some ⟨b1, 0, none⟩) := e1
    obtain rfl : p2 = .pointer (some ⟨b2, 0, none⟩) := e2
    exact ⟨_, _, er, rfl, hB, fun e => absurd her e, fun _ => ⟨c1, c2, b1, b2, rfl, rfl, t1, t2⟩⟩
  · obtain ⟨rfl, rfl, h⟩ := h1 her
    exact ⟨none, none, er, rfl, hB, fun _ => ⟨rfl, rfl, h⟩, fun e => absurd e her⟩
theorem dyn_done {F q : Nat} {l d : List Int} {w3 w4 : World} {x1 x2 : Option Addr} {er : Int} (hdt : dynTabs F s p = tablesR l d (rPure (l, d)) s q) (hM : Mv b rb w w3 og og) (hS : SS w3 b rb db og s q M L fs fd)
    (hfl : ∀ k ∈ Foot b rb og, k < w.heap.size) (hft : w.heap.size ∉ Foot b rb og) (hr : w.heap.size < w3.heap.size) (hB : But [] w3.drew w4) (hP : GotP w3.drew l d x1 x2 er w4) :
    GotD w b rb db og s M L fs fd (dynTabs F s p) (.returned (.tuple #[.agg #[.pointer x1, .pointer x2], .int .i64 er])) ((w4.setCell ⟨w.heap.size, 0, none⟩ (.pointer x1)).setCell ⟨w.heap.size, 1, none⟩ (.pointer x2)) := by
  have hB3 : But [] w3 w4 := ((But.refl [] w3).drew).trans hB
  have hdb := hS.hd
  have hbl := hfl b (by simp [Foot])
  have hM4 : Mv b rb w w4 og og := hM.trans (Mv.of hB3 (by simp))
  have hMf : Mv b rb w ((w4.setCell ⟨w.heap.size, 0, none⟩ (.pointer x1)).setCell ⟨w.heap.size, 1, none⟩ (.pointer x2)) og og := ⟨(hM4.but.setCell (.inr (Nat.le_refl _)) _).setCell (.inr (Nat.le_refl _)) _, hM4.own⟩
  have hbf : But [w.heap.size] w4 ((w4.setCell ⟨w.heap.size, 0, none⟩ (.pointer x1)).setCell ⟨w.heap.size, 1, none⟩ (.pointer x2)) := ((But.refl [w.heap.size] w4).setCell (.inl (by simp)) _).setCell (.inl (by simp)) _
  have hSf := (hS.but hB3 (by simp)).away hbf (fun k hk => by
    obtain rfl : k = w.heap.size := by simpa using hk
    exact ⟨hft, by omega⟩)
  by_cases her : er = 0
  · obtain ⟨c1, c2, b1, b2, rfl, rfl, t1, t2⟩ := hP.2 her
    have kk := fun (bt : Nat) (l : List Int) (t : NewT w3.drew.heap.size w4 bt l) (F : List Nat) (hF : ∀ k ∈ F, k < w.heap.size) => (t.but hbf (fun k hk => by
      obtain rfl : k = w.heap.size := by simpa using hk
      exact hr)).keep (F := F) (fun k hk => by have := hF k hk; show k < w3.heap.size; omega)
    exact ⟨_, _, er, q, l, d, rfl, hMf, fun e => absurd her e, fun _ => ⟨by rw [hdt, tables_goes c1 c2]; rfl, hSf, c1, c2, b1, b2, rfl, rfl, kk _ _ t1, kk _ _ t2⟩⟩
  · obtain ⟨rfl, rfl, h⟩ := hP.1 her
    refine ⟨_, _, er, q, l, d, rfl, hMf, fun _ => ⟨?_, rfl, rfl⟩, fun e => absurd e her⟩
    rw [hdt]
    rcases h with h | ⟨h1, h⟩
    · rw [tables_err1 (by rw [h]; exact her), h]
    · rw [tables_err2 h1 (by rw [h]; exact her), h]
theorem and31 (v : Nat) : Go.bits .and .i64 (v : Int) 31 = ((v % 32 : Nat) : Int) := by
  have := i64_mask (v : Int) 5 (by omega)
  simpa using this
set_option maxHeartbeats 1000000 in
theorem dynamicTables_any (h : SS w b rb db og s p M L fs fd) (hG : Keep (Foot b rb og) w GL) {F : Nat} (hF : 8 * s.size - p < F) :
    Calls Tryd.prog 83 #[.pointer (some ⟨b, 0, none⟩)] w (GotD w b rb db og s M L fs fd (dynTabs F s p)) := by
  have h1 := h.alloc (.cells #[.pointer none, .pointer none] 75)
  have m1 := Mv.alloc (b := b) (rb := rb) (w := w) (og := og) (.cells #[.pointer none, .pointer none] 75)
  have hI := Is.fresh w 75 #[.pointer none, .pointer none]
  have hin := h1.inCell
  have hbt := h1.bits 14
  have hfl := foot_lt h
  have hft := foot_ne h
  have hdb := h.hd
  have hp8 := h.rs.1
  have HBT := Lib.hid hbt
  have HM := Lib.hid m1
  have HI := Lib.hid hI
  have HG := Lib.hid hG
  have HFL := Lib.hid hfl
  have HFT := Lib.hid hft
  have HP8 := Lib.hid hp8
  have HF := Lib.hid hF
  clear h h1 m1 hI hbt hfl hft hG hp8 hF
  go_enter Tryd.func83, Tryd.ntmps83
  go_wp2_with fail
  refine HBT.out.mono ?_
  rintro e w1 ⟨v, er, q, rfl, hMv, he1, he2⟩
  have hI1 := HI.out.but hMv.but HFT.out
  have hMW := HM.out.trans hMv
  have g0 : w1.cell? ⟨w.heap.size, 0, none⟩ = some (.pointer none) := hI1.cell 0
  have g1 : w1.cell? ⟨w.heap.size, 1, none⟩ = some (.pointer none) := hI1.cell 1
  have f0 : w1.frozen? ⟨w.heap.size, 0, none⟩ = false := hI1.free 0
  have f1 : w1.frozen? ⟨w.heap.size, 1, none⟩ = false := hI1.free 1
  have HE1 := Lib.hid he1
  have HE2 := Lib.hid he2
  have HI1 := Lib.hid hI1
  have HMW := Lib.hid hMW
  clear hMv he1 he2 hI1 hMW HBT HM HI
  by_cases her : er = 0
  · obtain ⟨hr, hS⟩ := HE2.out her
    have hv := rBits_lt hr
    have hadv := rBits_adv 14 s p v q HP8.out hr
    obtain ⟨a, ha⟩ : ∃ a, a = v % 32 := ⟨_, rfl⟩
    obtain ⟨bb, hbb⟩ : ∃ bb, bb = v / 32 % 32 := ⟨_, rfl⟩
    obtain ⟨cc, hcc⟩ : ∃ cc, cc = v / 1024 := ⟨_, rfl⟩
    have hdt : dynTabs F s p = rBind (rSmall (4 + cc)) (fun small => rBind (lenG small (a + 257 + (bb + 1)) F []) fun ls => tablesR (ls.take (a + 257)) (ls.drop (a + 257)) (rPure (ls.take (a + 257), ls.drop (a + 257)))) s q := by
      rw [ha, hbb, hcc]; exact bind_val hr
    have a1 := and31 v
    rw [← ha] at a1
    have a2 := and31 (v / 32)
    rw [← hbb, show (((v / 32 : Nat) : Int)) = (v : Int) / 32 by omega] at a2
    have a3 : (v : Int) / 1024 = (cc : Int) := by omega
    have ha31 : a ≤ 31 := by omega
    have hb31 : bb ≤ 31 := by omega
    have hc15 : cc ≤ 15 := by have : v < 16384 := hv; omega
    have hsm := smallI hS (HMW.out.keep HG.out) (i := 4 + (cc : Int)) (4 + cc) (by omega) (by omega)
    have HSM := Lib.hid hsm
    have HDT := Lib.hid hdt
    have HADV := Lib.hid hadv
    clear hr hS hv hadv ha hbb hcc hdt hsm HE1 HE2
    subst her
    go_wp2_with fail
    refine HSM.out.mono ?_
    rintro e w2 ⟨pv, er, q2, small, rfl, hMv, he1, he2⟩
    have hI2 := HI1.out.but hMv.but HFT.out
    have hMW := HMW.out.trans hMv
    have g0 : w2.cell? ⟨w.heap.size, 0, none⟩ = some (.pointer none) := hI2.cell 0
    have g1 : w2.cell? ⟨w.heap.size, 1, none⟩ = some (.pointer none) := hI2.cell 1
    have f0 : w2.frozen? ⟨w.heap.size, 0, none⟩ = false := hI2.free 0
    have f1 : w2.frozen? ⟨w.heap.size, 1, none⟩ = false := hI2.free 1
    have HE1 := Lib.hid he1
    have HE2 := Lib.hid he2
    have HI2 := Lib.hid hI2
    have HMW2 := Lib.hid hMW
    have hsz1 := HMW.out.but.size
    have hrl := HI1.out.lt
    clear hMv he1 he2 hI2 hMW HSM HI1 HMW
    by_cases her : er = 0
    · obtain ⟨hr, hS, hcs, bt, rfl, hT⟩ := HE2.out her
      have h19 := rSmall_len hr
      have hadv := rSmall_adv (4 + cc) s q small q2 HADV.out.2 hr
      have hdt : dynTabs F s p = rBind (lenG small (a + 257 + (bb + 1)) F []) (fun ls => tablesR (ls.take (a + 257)) (ls.drop (a + 257)) (rPure (ls.take (a + 257), ls.drop (a + 257)))) s q2 := by
        rw [HDT.out]; exact bind_val hr
      have hKT := hT.keep (F := Foot b rb og) (fun k hk => by have := HFL.out k hk; omega)
      have hrd := readI hS (HMW2.out.keep HG.out) hKT hcs h19 (i := 257 + (a : Int) + (1 + (bb : Int))) (a + 257 + (bb + 1)) (by omega) (by omega) (F := F) (by have := HADV.out; have := HF.out; omega)
      have hfl2 : w.heap.size ≤ w2.heap.size := HMW2.out.but.size
      have HRD := Lib.hid hrd
      have HDT2 := Lib.hid hdt
      clear hr hS hcs hT h19 hadv hdt hKT hrd HE1 HE2 HDT
      subst her
      go_wp2_with fail
      refine HRD.out.mono ?_
      rintro e w3 ⟨lv, er, q3, ls, rfl, hMv, he1, he2⟩
      have hI3 := HI2.out.but hMv.but HFT.out
      have hMW := HMW2.out.trans hMv
      have g0 : w3.cell? ⟨w.heap.size, 0, none⟩ = some (.pointer none) := hI3.cell 0
      have g1 : w3.cell? ⟨w.heap.size, 1, none⟩ = some (.pointer none) := hI3.cell 1
      have f0 : w3.frozen? ⟨w.heap.size, 0, none⟩ = false := hI3.free 0
      have f1 : w3.frozen? ⟨w.heap.size, 1, none⟩ = false := hI3.free 1
      have HE1 := Lib.hid he1
      have HE2 := Lib.hid he2
      have HI3 := Lib.hid hI3
      have HMW3 := Lib.hid hMW
      clear hMv he1 he2 hI3 hMW HRD HI2
      by_cases her : er = 0
      · obtain ⟨hr, hS, hO⟩ := HE2.out her
        have hll := lenG_len small _ s _ _ _ _ _ (Nat.zero_le _) hr
        obtain ⟨gl, cl, rfl, hcl1, hcl2, hIl⟩ := own_form hO (by omega)
        rw [hll] at hcl1 hIl
        obtain ⟨sy, hsy⟩ : ∃ sy, sy = a + 257 := ⟨_, rfl⟩
        obtain ⟨tt, htt⟩ : ∃ tt, tt = a + 257 + (bb + 1) := ⟨_, rfl⟩
        rw [hll]
        rw [← htt] at hcl1 hIl ⊢
        have hIa := hIl.take (k := sy) (by omega)
        have hIb := hIl.drop (k := sy) (by omega)
        have hdt : dynTabs F s p = tablesR (ls.take sy) (ls.drop sy) (rPure (ls.take sy, ls.drop sy)) s q3 := by
          rw [HDT2.out, hsy]; exact bind_val hr
        have HDT3 := Lib.hid hdt
        have HS3 := Lib.hid hS
        have hmk := makeTables_pt (w := w3.drew) (cA := cl) (cB := cl - sy) (A := some ⟨gl, 0, none⟩) (B := some ⟨gl, sy, none⟩) hIa hIb (by omega) (by omega) (fun e => by cases e) (fun e => by cases e)
        have HMK := Lib.hid hmk
        have e257 : (257 : Int) + (a : Int) = (sy : Int) := by omega
        have hst : sy < tt := by omega
        have hsc : sy < cl := by omega
        have hb0 : (0 : Int) ≤ (sy : Int) := by omega
        have n1 : ¬ cl = sy := by omega
        have hcl3 : tt ≤ cl := hcl1
        clear hr hS hO hll hIl hIa hIb hdt hmk HE1 HE2 HDT2 hsy htt
        subst her
        have hrl3 := HI3.out.lt
        go_upto_region 12 with (fail)
        go_region_with (go_at_call 97; refine HMK.out.mono ?_; rintro e w4 ⟨x1, x2, er, rfl, hB, hP⟩; have hI4 := HI3.out.but (((But.refl [] w3).drew).trans hB) (by simp); have q0 : w4.cell? ⟨w.heap.size, 0, none⟩ = some (.pointer none) := hI4.cell 0; have q1 : w4.cell? ⟨w.heap.size, 1, none⟩ = some (.pointer none) := hI4.cell 1; have q2 : w4.frozen? ⟨w.heap.size, 0, none⟩ = false := hI4.free 0; have q3 : w4.frozen? ⟨w.heap.size, 1, none⟩ = false := hI4.free 1; have HB := Lib.hid hB; have HP := Lib.hid hP; have HI4 := Lib.hid hI4; clear hB hP hI4)
        all_goals
          go_wp2
          have hend := dyn_done HDT3.out HMW3.out HS3.out HFL.out HFT.out hrl3 HB.out HP.out
          have c := pair_in (p1 := .pointer x1) (p2 := .pointer x2) HI4.out
          generalize ((w4.setCell ⟨w.heap.size, 0, none⟩ (.pointer x1)).setCell ⟨w.heap.size, 1, none⟩ (.pointer x2)) = wf at *
          have c0 : wf.cell? ⟨w.heap.size, 0, none⟩ = some (.pointer x1) := c.1.cell 0
          have c1 : wf.cell? ⟨w.heap.size, 1, none⟩ = some (.pointer x2) := c.1.cell 1
          exact bodyPost_ret (v := .tuple #[.agg #[.pointer x1, .pointer x2], .int .i64 er]) (by simp [results, Tryd.results83, go_sem, c0, c1]) rfl hend
      · have d2 : (er != 0) = true := by simpa using her
        have HER := Lib.hid her
        clear her
        go_wp2
        have hend := GotD.err (r := dynTabs F s p) (db := db) (s := s) (M := M) (L := L) (fs := fs) (fd := fd) (x := .pointer none) (y := .pointer none) HMW3.out (er := er) (by rw [HDT2.out]; exact bind_err (HE1.out HER.out)) HER.out
        have c := pair_in (p1 := .pointer none) (p2 := .pointer none) HI3.out
        generalize ((w3.setCell ⟨w.heap.size, 0, none⟩ (.pointer none)).setCell ⟨w.heap.size, 1, none⟩ (.pointer none)) = wf at *
        have c0 : wf.cell? ⟨w.heap.size, 0, none⟩ = some (.pointer none) := c.1.cell 0
        have c1 : wf.cell? ⟨w.heap.size, 1, none⟩ = some (.pointer none) := c.1.cell 1
        exact bodyPost_ret (v := .tuple #[.agg #[.pointer none, .pointer none], .int .i64 er]) (by simp [results, Tryd.results83, go_sem, c0, c1]) rfl hend
    · have d2 : (er != 0) = true := by simpa using her
      have HER := Lib.hid her
      clear her
      go_wp2
      have hend := GotD.err (r := dynTabs F s p) (db := db) (s := s) (M := M) (L := L) (fs := fs) (fd := fd) (x := .pointer none) (y := .pointer none) HMW2.out (er := er) (by rw [HDT.out]; exact bind_err (HE1.out HER.out)) HER.out
      have c := pair_in (p1 := .pointer none) (p2 := .pointer none) HI2.out
      generalize ((w2.setCell ⟨w.heap.size, 0, none⟩ (.pointer none)).setCell ⟨w.heap.size, 1, none⟩ (.pointer none)) = wf at *
      have c0 : wf.cell? ⟨w.heap.size, 0, none⟩ = some (.pointer none) := c.1.cell 0
      have c1 : wf.cell? ⟨w.heap.size, 1, none⟩ = some (.pointer none) := c.1.cell 1
      exact bodyPost_ret (v := .tuple #[.agg #[.pointer none, .pointer none], .int .i64 er]) (by simp [results, Tryd.results83, go_sem, c0, c1]) rfl hend
  · have d2 : (er != 0) = true := by simpa using her
    have HER := Lib.hid her
    clear her
    go_wp2
    have hend := GotD.err (r := dynTabs F s p) (db := db) (s := s) (M := M) (L := L) (fs := fs) (fd := fd) (x := .pointer none) (y := .pointer none) HMW.out (er := er) (bind_err (HE1.out HER.out)) HER.out
    have c := pair_in (p1 := .pointer none) (p2 := .pointer none) HI1.out
    generalize ((w1.setCell ⟨w.heap.size, 0, none⟩ (.pointer none)).setCell ⟨w.heap.size, 1, none⟩ (.pointer none)) = wf at *
    have c0 : wf.cell? ⟨w.heap.size, 0, none⟩ = some (.pointer none) := c.1.cell 0
    have c1 : wf.cell? ⟨w.heap.size, 1, none⟩ = some (.pointer none) := c.1.cell 1
    exact bodyPost_ret (v := .tuple #[.agg #[.pointer none, .pointer none], .int .i64 er]) (by simp [results, Tryd.results83, go_sem, c0, c1]) rfl hend
end
end Go.Proofs.YtjeeiodpdfbgmaaDoor
namespace Go.Proofs.YtjeeiodpdfbgmaaDoor
set_option maxRecDepth 100000
open Go Go.RowKit
section
variable {w w' : World} {b rb db : Nat} {og : Option Nat} {s : ByteArray} {p : Nat} {M : Int} {L : List UInt8} {fs fd : Option Nat}
/-- The tables of fixed blocks, where they have been made. -/
def FX (w : World) (F : List Nat) (fs fd : Option Nat) : Prop :=
  (fs = none ∧ fd = none) ∨ ∃ f1 f2, fs = some f1 ∧ fd = some f2 ∧ Keep F w (fun w' => TT w' f1 fixL) ∧ Keep F w (fun w' => TT w' f2 fixD)
theorem FX.mv {og og' : Option Nat} {X : List Nat} (h : FX w (X ++ Foot b rb og) fs fd) (hM : Mv b rb w w' og og') : FX w' (X ++ Foot b rb og') fs fd := by
  rcases h with h | ⟨f1, f2, h1, h2, h3, h4⟩
  · exact .inl h
  · exact .inr ⟨f1, f2, h1, h2, hM.keepX h3, hM.keepX h4⟩
theorem FX.step {F F' : List Nat} (h : FX w F fs fd) (hB : But F w w') (hF : ∀ i ∈ F', i ∈ F ∨ w.heap.size ≤ i) : FX w' F' fs fd := by
  rcases h with h | ⟨f1, f2, h1, h2, h3, h4⟩
  · exact .inl h
  · exact .inr ⟨f1, f2, h1, h2, h3.step hB hF, h4.step hB hF⟩
def GotF (X : List Nat) (w : World) (b rb db : Nat) (og : Option Nat) (s : ByteArray) (p : Nat) (M : Int) (L : List UInt8) (e : Ending) (w' : World) : Prop :=
  ∃ f1 f2, e = .returned (.tuple #[.agg #[ptr (some f1), ptr (some f2)], .int .i64 0]) ∧ Mv b rb w w' og og ∧ SS w' b rb db og s p M L (some f1) (some f2) ∧ FX w' (X ++ Foot b rb og) (some f1) (some f2)
/-- The stream with its tables of fixed blocks. -/
theorem SS.fix (h : SS w b rb db og s p M L fs fd) (f1 f2 : Nat) :
    SS ((w.setCell ⟨b, 3, none⟩ (ptr (some f1))).setCell ⟨b, 4, none⟩ (ptr (some f2))) b rb db og s p M L (some f1) (some f2) ∧ Mv b rb w ((w.setCell ⟨b, 3, none⟩ (ptr (some f1))).setCell ⟨b, 4, none⟩ (ptr (some f2))) og og := by
  have hlt := h.lt
  have hd := h.hd
  have hr := h.hr
  have hout := h.out
  obtain ⟨ov, h1, h2, h3⟩ := h.cells
  have hB : But [b] w ((w.setCell ⟨b, 3, none⟩ (ptr (some f1))).setCell ⟨b, 4, none⟩ (ptr (some f2))) := ((But.refl [b] w).setCell (.inl (by simp)) _).setCell (.inl (by simp)) _
  refine ⟨⟨h.rs.but hB (by simp; omega) (by simp; omega), hd, hr, h.hs, h.hM, h.hL, ov, ?_, ownsRow_but h2 hB fun g hg hk => ?_, h3⟩, Mv.of hB fun k hk => .inl ?_⟩
  · simpa using (h1.put 3 (ptr (some f1))).put 4 (ptr (some f2))
  · have := hout g (h3 ▸ hg)
    simp at hk; omega
  · simp at hk; subst hk; simp [Foot]
set_option maxHeartbeats 1000000 in
theorem fixedTables_any {X : List Nat} (h : SS w b rb db og s p M L fs fd) (hX : ∀ k ∈ X, k < w.heap.size) (hF : FX w (X ++ Foot b rb og) fs fd) :
    Calls Tryd.prog 82 #[.pointer (some ⟨b, 0, none⟩)] w (GotF X w b rb db og s p M L) := by
  have h1 := h.alloc (.cells #[.pointer none, .pointer none] 75)
  have m1 := Mv.alloc (b := b) (rb := rb) (w := w) (og := og) (.cells #[.pointer none, .pointer none] 75)
  have hI := Is.fresh w 75 #[.pointer none, .pointer none]
  have hF1 := hF.mv m1
  have hwb := h.lt
  have hfl := foot_lt h
  have HXL := Lib.hid hX
  clear hX
  have hb0 := but_alloc w (.cells #[.pointer none, .pointer none] 75)
  rcases hF with ⟨rfl, rfl⟩ | ⟨f1, f2, rfl, rfl, hf1, hf2⟩
  · obtain ⟨ov, hi, _, _⟩ := h1.cells
    have k3 : (w.alloc (.cells #[.pointer none, .pointer none] 75)).cell? ⟨b, 3, none⟩ = some (.pointer none) := hi.cell 3
    have HS := Lib.hid h1
    have HM := Lib.hid m1
    have HI := Lib.hid hI
    have HB0 := Lib.hid hb0
    have HFL := Lib.hid hfl
    clear h h1 m1 hI hi hF1 hb0 hfl
    go_enter Tryd.func82, Tryd.ntmps82
    go_wp2_with fail
    refine (repeated_any 8 (n := 144) _ (by omega) (by omega)).mono ?_
    rintro e w1 ⟨g1, c1, rfl, hO1, hB1⟩
    have HO1 := Lib.hid hO1
    have HB1 := Lib.hid hB1
    clear hO1 hB1
    go_wp2_with fail
    refine (repeated_any 9 (n := 112) _ (by omega) (by omega)).mono ?_
    rintro e w2 ⟨g2, c2, rfl, hO2, hB2⟩
    have HO2 := Lib.hid hO2
    have HB2 := Lib.hid hB2
    clear hO2 hB2
    go_wp2_with fail
    refine (repeated_any 7 (n := 24) _ (by omega) (by omega)).mono ?_
    rintro e w3 ⟨g3, c3, rfl, hO3, hB3⟩
    have HO3 := Lib.hid hO3
    have HB3 := Lib.hid hB3
    clear hO3 hB3
    go_wp2_with fail
    refine (repeated_any 8 (n := 8) _ (by omega) (by omega)).mono ?_
    rintro e w4 ⟨g4, c4, rfl, hO4, hB4⟩
    have HO4 := Lib.hid hO4
    have HB4 := Lib.hid hB4
    clear hO4 hB4
    have hI4 := HO4.out.ints
    have hI3 := HO3.out.ints.but HB4.out (by simp)
    have hI2 := HO2.out.ints.but (HB3.out.trans HB4.out) (by simp)
    have hI1 := HO1.out.ints.but ((HB2.out.trans HB3.out).trans HB4.out) (by simp)
    have hB14 := ((HB1.out.trans HB2.out).trans HB3.out).trans HB4.out
    have hhd := heads4 (t := 22) (c1 := c1) (c2 := c2) (c3 := c3) (c4 := c4) hI1 hI2 hI3 hI4 (by omega) (by omega) (by omega) (by omega)
    have hcc := concat_any (c := 4) hhd (by rw [fixL_flat]; decide +kernel) (by rw [fixL_flat]; decide +kernel) (by simp)
    rw [fixL_flat] at hcc
    have HCC := Lib.hid hcc
    have HB14 := Lib.hid (hB14.alloc (.cells #[.slice (some ⟨g1, 0, none⟩) 144 c1, .slice (some ⟨g2, 0, none⟩) 112 c2, .slice (some ⟨g3, 0, none⟩) 24 c3, .slice (some ⟨g4, 0, none⟩) 8 c4] 22))
    clear hI1 hI2 hI3 hI4 hB14 hhd hcc HO1 HO2 HO3 HO4 HB1 HB2 HB3 HB4
    go_wp2_with fail
    refine HCC.out.mono ?_
    rintro e w5 ⟨v5, rfl, hO5, hB5⟩
    have hB15 := HB14.out.trans hB5
    obtain ⟨A5, c5, rfl, hI5⟩ := own_some hO5 (by decide +kernel)
    have HI5 := Lib.hid hI5
    have HB15 := Lib.hid hB15
    clear HCC HB14 hO5 hB5 hI5 hB15
    rw [show fixL.length = 288 from by decide +kernel] at *
    go_wp2_with fail
    refine (repeated_any 5 (n := 32) _ (by omega) (by omega)).mono ?_
    rintro e w6 ⟨g6, c6, rfl, hO6, hB6⟩
    have hI6 := hO6.ints
    have hI5 := HI5.out.but hB6 (by simp)
    have hB16 := HB15.out.trans hB6
    have hmt := makeTables_any (cA := c5) (cB := c6) hI5 hI6 (by omega) (by omega) (fun e => by cases e) (fun e => by cases e)
    have HMT := Lib.hid hmt
    have HB16 := Lib.hid hB16
    clear hO6 hB6 hI6 hI5 hB16 hmt HI5 HB15
    go_wp2_with fail
    refine HMT.out.mono ?_
    rintro e w7 ⟨p1, p2, er, rfl, hB7, he1, he2⟩
    have her : er = 0 := Classical.byContradiction fun hne => by
      rcases (he1 hne).2.2 with h | ⟨_, h⟩
      · exact hne (h.symm.trans chk_fixL)
      · exact hne (h.symm.trans chk_fixD)
    subst her
    obtain ⟨_, _, b1, b2, e1, e2, hT1, hT2⟩ := he2 rfl
    obtain rfl : p1 = .pointer (some ⟨b1, 0, none⟩) := e1
    obtain rfl : p2 = .pointer (some ⟨b2, 0, none⟩) := e2
    have hBa := HB16.out.trans hB7
    have hSa := HS.out.but hBa (by simp)
    have hIa := HI.out.but hBa (by simp)
    have hsz6 := HB16.out.size
    obtain ⟨ov7, hi7, _, _⟩ := hSa.cells
    have k3 : w7.cell? ⟨b, 3, none⟩ = some (.pointer none) := hi7.cell 3
    have k4 : w7.cell? ⟨b, 4, none⟩ = some (.pointer none) := hi7.cell 4
    have l3 : w7.frozen? ⟨b, 3, none⟩ = false := hi7.free 3
    have l4 : w7.frozen? ⟨b, 4, none⟩ = false := hi7.free 4
    have k0 : w7.cell? ⟨w.heap.size, 0, none⟩ = some (.pointer none) := hIa.cell 0
    have k1 : w7.cell? ⟨w.heap.size, 1, none⟩ = some (.pointer none) := hIa.cell 1
    have l0 : w7.frozen? ⟨w.heap.size, 0, none⟩ = false := hIa.free 0
    have l1 : w7.frozen? ⟨w.heap.size, 1, none⟩ = false := hIa.free 1
    have hbl := hSa.lt
    have hrl := hIa.lt
    have hne : b ≠ w.heap.size := by omega
    have hne' : w.heap.size ≠ b := by omega
    have HSa := Lib.hid hSa
    have HIa := Lib.hid hIa
    have HT1 := Lib.hid hT1
    have HT2 := Lib.hid hT2
    have HBa := Lib.hid hBa
    clear he1 he2 hB7 hBa hSa hIa hi7 hT1 hT2 HMT
    go_wp2
    obtain ⟨s8, _⟩ := HSa.out.fix b1 b2
    have hbw : But [] w w7 := HB0.out.trans HBa.out
    have hb8 : But [b] w7 ((w7.setCell ⟨b, 3, none⟩ (.pointer (some ⟨b1, 0, none⟩))).setCell ⟨b, 4, none⟩ (.pointer (some ⟨b2, 0, none⟩))) := ((But.refl [b] w7).setCell (.inl (by simp)) _).setCell (.inl (by simp)) _
    have hbf : But (Foot b rb og) w ((w7.setCell ⟨b, 3, none⟩ (.pointer (some ⟨b1, 0, none⟩))).setCell ⟨b, 4, none⟩ (.pointer (some ⟨b2, 0, none⟩))) := ((hbw.more (by simp)).setCell (.inl (by simp [Foot])) _).setCell (.inl (by simp [Foot])) _
    have i8 := HIa.out.but hb8 (by simp; omega)
    change SS ((w7.setCell ⟨b, 3, none⟩ (.pointer (some ⟨b1, 0, none⟩))).setCell ⟨b, 4, none⟩ (.pointer (some ⟨b2, 0, none⟩))) b rb db og s p M L (some b1) (some b2) at s8
    have hb9' : But [b, w.heap.size] w7 ((((w7.setCell ⟨b, 3, none⟩ (.pointer (some ⟨b1, 0, none⟩))).setCell ⟨b, 4, none⟩ (.pointer (some ⟨b2, 0, none⟩))).setCell ⟨w.heap.size, 0, none⟩ (.pointer (some ⟨b1, 0, none⟩))).setCell ⟨w.heap.size, 1, none⟩ (.pointer (some ⟨b2, 0, none⟩))) :=
      ((hb8.more (by simp)).setCell (.inl (by simp)) _).setCell (.inl (by simp)) _
    generalize ((w7.setCell ⟨b, 3, none⟩ (.pointer (some ⟨b1, 0, none⟩))).setCell ⟨b, 4, none⟩ (.pointer (some ⟨b2, 0, none⟩))) = w8 at *
    obtain ⟨i9, hb9⟩ := pair_in (p1 := .pointer (some ⟨b1, 0, none⟩)) (p2 := .pointer (some ⟨b2, 0, none⟩)) i8
    have s9 := s8.away hb9 (fun k hk => by
      have hd := s8.hd
      obtain rfl : k = w.heap.size := by simpa using hk
      exact ⟨fun h => by have := HFL.out _ h; omega, by omega⟩)
    have hbf9 : But (Foot b rb og) w ((w8.setCell ⟨w.heap.size, 0, none⟩ (.pointer (some ⟨b1, 0, none⟩))).setCell ⟨w.heap.size, 1, none⟩ (.pointer (some ⟨b2, 0, none⟩))) := (hbf.setCell (.inr (Nat.le_refl _)) _).setCell (.inr (Nat.le_refl _)) _
    generalize ((w8.setCell ⟨w.heap.size, 0, none⟩ (.pointer (some ⟨b1, 0, none⟩))).setCell ⟨w.heap.size, 1, none⟩ (.pointer (some ⟨b2, 0, none⟩))) = w9 at *
    have i10 := i9.alloc (.cells #[.pointer (some ⟨b1, 0, none⟩), .pointer (some ⟨b2, 0, none⟩)] 75)
    have s10 := s9.alloc (.cells #[.pointer (some ⟨b1, 0, none⟩), .pointer (some ⟨b2, 0, none⟩)] 75)
    have hbf10 := hbf9.alloc (.cells #[.pointer (some ⟨b1, 0, none⟩), .pointer (some ⟨b2, 0, none⟩)] 75)
    have hb10 := hb9'.alloc (.cells #[.pointer (some ⟨b1, 0, none⟩), .pointer (some ⟨b2, 0, none⟩)] 75)
    generalize w9.alloc (.cells #[.pointer (some ⟨b1, 0, none⟩), .pointer (some ⟨b2, 0, none⟩)] 75) = wf at *
    have hlo : w.heap.size + 1 ≤ w6.heap.size := by simpa using hsz6
    have hkp : ∀ k ∈ [b, w.heap.size], k < w6.heap.size := fun k hk => by
      rcases List.mem_cons.1 hk with e | e
      · omega
      · simp at e; omega
    have t1 := (HT1.out.but hb10 hkp).keep (F := X ++ Foot b rb og) (fun k hk => by rcases List.mem_append.1 hk with hk | hk; (have := HXL.out k hk; omega); (have := HFL.out k hk; omega))
    have t2 := (HT2.out.but hb10 hkp).keep (F := X ++ Foot b rb og) (fun k hk => by rcases List.mem_append.1 hk with hk | hk; (have := HXL.out k hk; omega); (have := HFL.out k hk; omega))
    have c0 : wf.cell? ⟨w.heap.size, 0, none⟩ = some (.pointer (some ⟨b1, 0, none⟩)) := i10.cell 0
    have c1 : wf.cell? ⟨w.heap.size, 1, none⟩ = some (.pointer (some ⟨b2, 0, none⟩)) := i10.cell 1
    refine bodyPost_ret (v := .tuple #[.agg #[.pointer (some ⟨b1, 0, none⟩), .pointer (some ⟨b2, 0, none⟩)], .int .i64 0]) (by simp [results, Tryd.results82, go_sem, c0, c1]) rfl ?_
    exact ⟨b1, b2, rfl, ⟨hbf10, fun g hg => .inl hg⟩, s10, .inr ⟨b1, b2, rfl, rfl, t1, t2⟩⟩
  · obtain ⟨ov, hi, _, _⟩ := h1.cells
    have hi3 : (w.alloc (.cells #[.pointer none, .pointer none] 75)).cell? ⟨b, 3, none⟩ = some (.pointer (some ⟨f1, 0, none⟩)) := hi.cell 3
    have hi4 : (w.alloc (.cells #[.pointer none, .pointer none] 75)).cell? ⟨b, 4, none⟩ = some (.pointer (some ⟨f2, 0, none⟩)) := hi.cell 4
    have ha : But [] w (w.alloc (.cells #[.pointer (some ⟨f1, 0, none⟩), .pointer (some ⟨f2, 0, none⟩)] 75)) := but_alloc w _
    have m2 : Mv b rb w (w.alloc (.cells #[.pointer (some ⟨f1, 0, none⟩), .pointer (some ⟨f2, 0, none⟩)] 75)) og og := Mv.of ha (by simp)
    have s2 := h.alloc (.cells #[.pointer (some ⟨f1, 0, none⟩), .pointer (some ⟨f2, 0, none⟩)] 75)
    have i2 := Is.fresh w 75 #[.pointer (some ⟨f1, 0, none⟩), .pointer (some ⟨f2, 0, none⟩)]
    have t1 := m2.keepX hf1
    have t2 := m2.keepX hf2
    have HS := Lib.hid s2
    have HM := Lib.hid m2
    have HI := Lib.hid i2
    have HT1 := Lib.hid t1
    have HT2 := Lib.hid t2
    clear h h1 m1 hI hi hF1 hb0 hfl ha m2 s2 i2 t1 t2 hf1 hf2
    go_enter Tryd.func82, Tryd.ntmps82
    go_wp2
    have c0 := HI.out.cell 0
    have c1 := HI.out.cell 1
    refine bodyPost_ret (v := .tuple #[.agg #[.pointer (some ⟨f1, 0, none⟩), .pointer (some ⟨f2, 0, none⟩)], .int .i64 0]) (by simp [results, Tryd.results82, go_sem, c0, c1]) rfl ?_
    exact ⟨f1, f2, rfl, HM.out, HS.out, .inr ⟨f1, f2, rfl, rfl, HT1.out, HT2.out⟩⟩
end
end Go.Proofs.YtjeeiodpdfbgmaaDoor
