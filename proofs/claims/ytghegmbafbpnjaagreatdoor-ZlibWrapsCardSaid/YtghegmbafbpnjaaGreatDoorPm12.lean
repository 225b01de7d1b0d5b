/- Several texts in one: MkT, SmT, Rpt, RdL (what Unwraps, Wraps reach of them). -/
import Derived.Test.YtghegmbafbpnjaaGreatDoorPm01
import Derived.Test.YtghegmbafbpnjaaGreatDoorPm02
import Derived.Test.YtghegmbafbpnjaaGreatDoorPm03
import Derived.Test.YtghegmbafbpnjaaGreatDoorPm04
import Derived.Test.YtghegmbafbpnjaaGreatDoorPm05
import Derived.Test.YtghegmbafbpnjaaGreatDoorPm06
import Derived.Test.YtghegmbafbpnjaaGreatDoorPm07
import Derived.Test.YtghegmbafbpnjaaGreatDoorPm08
import Derived.Test.YtghegmbafbpnjaaGreatDoorPm09
import Derived.Test.YtghegmbafbpnjaaGreatDoorPm10
import Derived.Test.YtghegmbafbpnjaaGreatDoorPm11
import Derived.Below
import Derived.BigQuiet
import Derived.BigRegion
import Derived.Deep.AppendLies
import Derived.Deep.CutRange
import Derived.Deep.DeepCutAuto
import Derived.Deep.Draws
import Derived.Deep.LoopGhost
import Derived.Deep.QuietTactic
import Derived.Deep.RegionLaw
import Derived.Deep.RegionWith
import Derived.Deep.Slices
import Derived.Laws.BitsAllLaws
import Derived.Laws.BitsLemmas
import Derived.Laws.CopyOwn
import Derived.Laws.IdiomStrings
import Derived.Laws.OwnMore
import Derived.Laws.Rows
import Derived.Lib.AppendStr
import Derived.Lib.Hide
import Derived.Lib.Strings
import Derived.LoopIn
import Derived.LoopNIn
import Derived.OneCell
import Derived.OpenShut
import Derived.Outline
import Derived.OwnWalk
import Derived.OwnWalkIn
import Derived.ProofKit
import Derived.RangeFuncBound
import Derived.RangeFuncCalls
import Derived.RangeFuncLeaves
import Derived.RangeFuncNested
import Derived.RegionTactic
import Derived.Shelf.Abstract
import Derived.Shelf.RegionOpen
import Derived.Shelf.SlSortCmp.QuietGrown
import Derived.StillTailTactics
import Derived.TacticsInMore
import Derived.Test.YtghegmbafbpnjaaGreatDoorChecked
import Derived.WalkKit
import Derived.WalkLawsBesides
import Derived.WalkSpells
set_option maxRecDepth 100000
set_option linter.unusedVariables false
namespace Go.Proofs.YtghegmbafbpnjaaGreatDoor
set_option maxRecDepth 100000
open Go Go.RowKit
/-- Tables that a call has just made, or an error. -/
def GotT (w : World) (l d : List Int) (e : Ending) (w' : World) : Prop :=
  ∃ (p1 p2 : Value) (er : Int), e = .returned (.tuple #[.agg #[p1, p2], .int .i64 er]) ∧ But [] w w' ∧ (er ≠ 0 → p1 = .pointer none ∧ p2 = .pointer none ∧ (chk l = er ∨ (chk l = 0 ∧ chk d = er))) ∧
    (er = 0 → chk l = 0 ∧ chk d = 0 ∧ ∃ b1 b2, p1 = ptr (some b1) ∧ p2 = ptr (some b2) ∧ NewT w.heap.size w' b1 l ∧ NewT w.heap.size w' b2 d)
theorem NewT.lower {lo lo' b : Nat} {w : World} {l : List Int} (h : NewT lo w b l) (hl : lo' ≤ lo) : NewT lo' w b l := by
  obtain ⟨Ao, co, Al, cl, Ac, cc, h1, h2, h3, h4, h5, h6, h7, h8⟩ := h
  exact ⟨Ao, co, Al, cl, Ac, cc, h1, h2, h3, h4, by omega, fun a e => Nat.le_trans hl (h6 a e), fun a e => Nat.le_trans hl (h7 a e), fun a e => Nat.le_trans hl (h8 a e)⟩

/-- What a pair of tables in a block of the call's own reads as. -/
theorem pair_put {w w2 : World} {k : Nat} {t : TypeId} {x y p1 p2 : Value} (hI : Is w2 k t #[x, y]) (hB : But [] w w2) (hk : w.heap.size ≤ k) :
    Is ((w2.setCell ⟨k, 0, none⟩ p1).setCell ⟨k, 1, none⟩ p2) k t #[p1, p2] ∧ But [] w ((w2.setCell ⟨k, 0, none⟩ p1).setCell ⟨k, 1, none⟩ p2) ∧ But [k] w2 ((w2.setCell ⟨k, 0, none⟩ p1).setCell ⟨k, 1, none⟩ p2) := by
  refine ⟨?_, ?_, ?_⟩
  · simpa using (hI.put 0 p1).put 1 p2
  · exact (hB.setCell (.inr hk) _).setCell (.inr hk) _
  · exact ((But.refl [k] w2).setCell (.inl (by simp)) _).setCell (.inl (by simp)) _
theorem pair_in {w : World} {k : Nat} {t : TypeId} {x y p1 p2 : Value} (hI : Is w k t #[x, y]) :
    Is ((w.setCell ⟨k, 0, none⟩ p1).setCell ⟨k, 1, none⟩ p2) k t #[p1, p2] ∧ But [k] w ((w.setCell ⟨k, 0, none⟩ p1).setCell ⟨k, 1, none⟩ p2) :=
  ⟨by simpa using (hI.put 0 p1).put 1 p2, ((But.refl [k] w).setCell (.inl (by simp)) _).setCell (.inl (by simp)) _⟩
theorem but_alloc (w : World) (o : Obj) : But [] w (w.alloc o) := (But.refl [] w).alloc o

set_option maxHeartbeats 1000000 in
theorem makeTables_any {w : World} {A B : Option Addr} {n m cA cB : Nat} {l d : List Int} (hl : Ints w A n l) (hd : Ints w B m d) (hn : n * 8 ≤ 140737488351232) (hm : m * 8 ≤ 140737488351232)
    (hA : A = none → cA = 0) (hB : B = none → cB = 0) :
    Calls Tryz.prog 110 #[.slice A n cA, .slice B m cB] w (GotT w l d) := by
  have hB0 : But [] w (w.alloc (.cells #[.pointer none, .pointer none] 46)) := (But.refl [] w).alloc _
  have hI := Is.fresh w 46 #[.pointer none, .pointer none]
  have hl1 := hl.but hB0 (by simp)
  have hd1 := hd.but hB0 (by simp)
  have hn1 : n ≤ maxLen := by unfold maxLen; omega
  have hm1 : m ≤ maxLen := by unfold maxLen; omega
  by_cases hc : chk l = 0
  · have hmk := make_new (cap := cA) hl1 hn hA hc
    have HMK := Lib.hid hmk
    have HI := Lib.hid hI
    have HD := Lib.hid hd1
    have HC := Lib.hid hc
    have HHB := Lib.hid hB
    have HB0 := Lib.hid hB0
    clear hmk hl hd hl1 hd1 hA hc hI hB hB0
    go_enter Tryz.func110, Tryz.ntmps110
    go_wp2_with fail
    refine HMK.out.mono ?_
    rintro e w1 ⟨b1, rfl, hT1, hB1⟩
    have hI1 := HI.out.but hB1 (by simp)
    have hd2 := HD.out.but hB1 (by simp)
    have hB01 := HB0.out.trans hB1
    by_cases hc2 : chk d = 0
    · have hmk2 := make_new (cap := cB) hd2 hm HHB.out hc2
      have HMK2 := Lib.hid hmk2
      have HI1 := Lib.hid hI1
      have HT1 := Lib.hid hT1
      have HB01 := Lib.hid hB01
      have HC2 := Lib.hid hc2
      clear hmk2 hI1 hT1 hB01 hB1 hd2 hc2 HMK
      go_wp2_with fail
      refine HMK2.out.mono ?_
      rintro e w2 ⟨b2, rfl, hT2, hB2⟩
      have hI2 := HI1.out.but hB2 (by simp)
      have g0 : w2.cell? ⟨w.heap.size, 0, none⟩ = some (.pointer none) := hI2.cell 0
      have g1 : w2.cell? ⟨w.heap.size, 1, none⟩ = some (.pointer none) := hI2.cell 1
      have f0 : w2.frozen? ⟨w.heap.size, 0, none⟩ = false := hI2.free 0
      have f1 : w2.frozen? ⟨w.heap.size, 1, none⟩ = false := hI2.free 1
      obtain ⟨q1, q2, q3⟩ := pair_put (p1 := .pointer (some ⟨b1, 0, none⟩)) (p2 := .pointer (some ⟨b2, 0, none⟩)) hI2 (HB01.out.trans hB2) (Nat.le_refl _)
      have t1 := ((HT1.out.but hB2 (by simp)).but q3 (by simp)).lower (lo' := w.heap.size) (by simp)
      have t2 := (hT2.but q3 (by have := HB01.out.size; have := HI1.out.lt; simp; omega)).lower (lo' := w.heap.size) (by have := HB01.out.size; omega)
      have HQ1 := Lib.hid q1
      have HQ2 := Lib.hid q2
      have HT1' := Lib.hid t1
      have HT2 := Lib.hid t2
      clear hI2 hT2 hB2 q1 q2 q3 t1 t2 HT1
      go_wp2
      generalize ((w2.setCell ⟨w.heap.size, 0, none⟩ (.pointer (some ⟨b1, 0, none⟩))).setCell ⟨w.heap.size, 1, none⟩ (.pointer (some ⟨b2, 0, none⟩))) = wf at *
      have c0 : wf.cell? ⟨w.heap.size, 0, none⟩ = some (.pointer (some ⟨b1, 0, none⟩)) := HQ1.out.cell 0
      have c1 : wf.cell? ⟨w.heap.size, 1, none⟩ = some (.pointer (some ⟨b2, 0, none⟩)) := HQ1.out.cell 1
      refine bodyPost_ret (v := .tuple #[.agg #[.pointer (some ⟨b1, 0, none⟩), .pointer (some ⟨b2, 0, none⟩)], .int .i64 0]) (by simp [results, Tryz.results110, go_sem, c0, c1]) rfl ?_
      exact ⟨_, _, 0, rfl, HQ2.out, fun e => absurd rfl e, fun _ => ⟨HC.out, HC2.out, b1, b2, rfl, rfl, HT1'.out, HT2.out⟩⟩
    · have hmk2 := make_err (cap := cB) hd2 hm1 hc2
      have hx : (chk d != 0) = true := by simpa using hc2
      obtain ⟨x, hxe⟩ : ∃ x, chk d = x := ⟨_, rfl⟩
      rw [hxe] at hmk2 hx hc2
      have HXE := Lib.hid hxe
      have HNE := Lib.hid hc2
      have HMK2 := Lib.hid hmk2
      have HI1 := Lib.hid hI1
      have HB01 := Lib.hid hB01
      clear hmk2 hI1 hT1 hB01 hB1 hd2 hc2 HMK hxe
      go_wp2_with fail
      refine HMK2.out.mono ?_
      rintro e w2 ⟨rfl, rfl⟩
      have hI2 := HI1.out
      have g0 : w1.cell? ⟨w.heap.size, 0, none⟩ = some (.pointer none) := hI2.cell 0
      have g1 : w1.cell? ⟨w.heap.size, 1, none⟩ = some (.pointer none) := hI2.cell 1
      have f0 : w1.frozen? ⟨w.heap.size, 0, none⟩ = false := hI2.free 0
      have f1 : w1.frozen? ⟨w.heap.size, 1, none⟩ = false := hI2.free 1
      obtain ⟨q1, q2, q3⟩ := pair_put (p1 := .pointer none) (p2 := .pointer none) hI2 HB01.out (Nat.le_refl _)
      have HQ1 := Lib.hid q1
      have HQ2 := Lib.hid q2
      clear hI2 q1 q2 q3
      go_wp2
      generalize ((w1.setCell ⟨w.heap.size, 0, none⟩ (.pointer none)).setCell ⟨w.heap.size, 1, none⟩ (.pointer none)) = wf at *
      have c0 : wf.cell? ⟨w.heap.size, 0, none⟩ = some (.pointer none) := HQ1.out.cell 0
      have c1 : wf.cell? ⟨w.heap.size, 1, none⟩ = some (.pointer none) := HQ1.out.cell 1
      refine bodyPost_ret (v := .tuple #[.agg #[.pointer none, .pointer none], .int .i64 x]) (by simp [results, Tryz.results110, go_sem, c0, c1]) rfl ?_
      exact ⟨_, _, x, rfl, HQ2.out, fun _ => ⟨rfl, rfl, .inr ⟨HC.out, HXE.out⟩⟩, fun e => absurd e HNE.out⟩
  · have hmk2 := make_err (cap := cA) hl1 hn1 hc
    have hx : (chk l != 0) = true := by simpa using hc
    obtain ⟨x, hxe⟩ : ∃ x, chk l = x := ⟨_, rfl⟩
    rw [hxe] at hmk2 hx hc
    have HXE := Lib.hid hxe
    have HNE := Lib.hid hc
    have HMK2 := Lib.hid hmk2
    have HI1 := Lib.hid hI
    clear hmk2 hI hl hd hl1 hd1 hA hB hB0 hc hxe
    go_enter Tryz.func110, Tryz.ntmps110
    go_wp2_with fail
    refine HMK2.out.mono ?_
    rintro e w2 ⟨rfl, rfl⟩
    go_wp2
    have c0 : (w.alloc (.cells #[.pointer none, .pointer none] 46)).cell? ⟨w.heap.size, 0, none⟩ = some (.pointer none) := HI1.out.cell 0
    have c1 : (w.alloc (.cells #[.pointer none, .pointer none] 46)).cell? ⟨w.heap.size, 1, none⟩ = some (.pointer none) := HI1.out.cell 1
    have HB0 := Lib.hid (but_alloc w (.cells #[.pointer none, .pointer none] 46))
    refine bodyPost_ret (v := .tuple #[.agg #[.pointer none, .pointer none], .int .i64 x]) (by simp [results, Tryz.results110, go_sem, c0, c1]) rfl ?_
    exact ⟨_, _, x, rfl, HB0.out, fun _ => ⟨rfl, rfl, .inl HXE.out⟩, fun e => absurd e HNE.out⟩
end Go.Proofs.YtghegmbafbpnjaaGreatDoor
namespace Go.Proofs.YtghegmbafbpnjaaGreatDoor
set_option maxRecDepth 100000
open Go Go.RowKit
/-- What the program's variables hold. -/
structure GL (w : World) : Prop where
  order : ∀ i, i < 19 → w.cell? ⟨1, i, none⟩ = some (.int .i64 (ordS.getD i 0 : Nat))
  bits : w.cell? ⟨2, 0, none⟩ = some (.int .i64 2) ∧ w.cell? ⟨2, 1, none⟩ = some (.int .i64 3) ∧ w.cell? ⟨2, 2, none⟩ = some (.int .i64 7)
  least : w.cell? ⟨3, 0, none⟩ = some (.int .i64 3) ∧ w.cell? ⟨3, 1, none⟩ = some (.int .i64 3) ∧ w.cell? ⟨3, 2, none⟩ = some (.int .i64 11)
theorem GL.but {w w' : World} (h : GL w) (hB : But [] w w') : GL w' :=
  ⟨fun i hi => hB.cell (h.order i hi) (by simp), ⟨hB.cell h.bits.1 (by simp), hB.cell h.bits.2.1 (by simp), hB.cell h.bits.2.2 (by simp)⟩, ⟨hB.cell h.least.1 (by simp), hB.cell h.least.2.1 (by simp), hB.cell h.least.2.2 (by simp)⟩⟩

section
variable {w w' : World} {b rb db : Nat} {og : Option Nat} {s : ByteArray} {p : Nat} {M : Int} {L : List UInt8} {fs fd : Option Nat}
theorem foot_ne (h : SS w b rb db og s p M L fs fd) : w.heap.size ∉ Foot b rb og := fun hk => by
  have h1 := h.lt
  have h2 := h.hr
  unfold Foot at hk
  rcases List.mem_cons.1 hk with e | hk
  · omega
  rcases List.mem_cons.1 hk with e | hk
  · omega
  have := (h.out w.heap.size (by simpa using hk)).2
  omega
def rSmall (told : Nat) : Rd (List Int) := rBind (smallG (ordS.take told) (List.replicate 19 0)) fun small => rWhen (chk small ≠ 0) (chk small) (rPure small)
def GotS (w : World) (b rb db : Nat) (og : Option Nat) (s : ByteArray) (M : Int) (L : List UInt8) (fs fd : Option Nat) (r : Except Int (List Int × Nat)) (e : Ending) (w' : World) : Prop :=
  ∃ (pv : Value) (er : Int) (q : Nat) (small : List Int), e = .returned (.tuple #[pv, .int .i64 er]) ∧ Mv b rb w w' og og ∧ (er ≠ 0 → r = .error er) ∧
    (er = 0 → r = .ok (small, q) ∧ SS w' b rb db og s q M L fs fd ∧ chk small = 0 ∧ ∃ bt, pv = .pointer (some ⟨bt, 0, none⟩) ∧ NewT w.heap.size w' bt small)
theorem ordS_lt {i : Nat} (h : i < 19) : ordS.getD i 0 < 19 := by
  have : ∀ i, i < 19 → ordS.getD i 0 < 19 := by decide
  exact this i h
theorem ordS_drop {told k : Nat} (h : k < told) (ht : told ≤ 19) : (ordS.take told).drop k = ordS.getD k 0 :: (ordS.take told).drop (k + 1) := by
  have hl : (ordS.take told).length = told := by rw [List.length_take]; show min told 19 = told; omega
  rw [List.drop_eq_getElem_cons (by omega), List.getElem_take, List.getD_eq_getElem?_getD, List.getElem?_eq_getElem (show k < ordS.length by show k < 19; omega)]
  rfl
theorem small_step {k v q q2 : Nat} {ks : List Nat} {acc : List Int} (h : rBits 3 s q = .ok (v, q2)) : smallG (k :: ks) acc s q = smallG ks (acc.set k (v : Nat)) s q2 := bind_val h
theorem small_stop {k q : Nat} {er : Int} {ks : List Nat} {acc : List Int} (h : rBits 3 s q = .error er) : smallG (k :: ks) acc s q = .error er := bind_err h
/-- A row of numbers of type t in block B. -/
def Row (w : World) (B : Nat) (t : TypeId) (l : List Int) : Prop := Is w B t (l.map (Value.int .i64)).toArray
theorem Row.ints {B : Nat} {t : TypeId} {l : List Int} (h : Row w B t l) : Ints w (some ⟨B, 0, none⟩) l.length l :=
  ⟨rfl, fun _ => ⟨B, 0, rfl, Is.lt h, fun i hi => by
    have := Is.cell h (0 + i)
    rw [this, Nat.zero_add]
    simp [hi]⟩⟩
theorem Row.set {B : Nat} {t : TypeId} {l : List Int} (h : Row w B t l) (i : Nat) (x : Int) : Row (w.setCell ⟨B, i, none⟩ (.int .i64 x)) B t (l.set i x) := by
  unfold Row at h ⊢
  have := h.put i (.int .i64 x)
  rw [List.map_set]
  simpa using this
theorem Row.at {B : Nat} {t : TypeId} {l : List Int} (h : Row w B t l) {i : Nat} (hi : i < l.length) : w.cell? ⟨B, i, none⟩ = some (.int .i64 (l.getD i 0)) := by
  have := Is.cell h i
  rw [this, List.getD_eq_getElem?_getD, List.getElem?_eq_getElem hi]
  simp [hi]
theorem Row.but {B : Nat} {t : TypeId} {l : List Int} {S : List Nat} (h : Row w B t l) (hB : But S w w') (hS : B ∉ S) : Row w' B t l := Is.but h hB hS

set_option maxHeartbeats 1000000 in
theorem smallTable_any (h : SS w b rb db og s p M L fs fd) (hG : Keep (Foot b rb og) w GL) (told : Nat) (ht : told ≤ 19) :
    Calls Tryz.prog 111 #[.pointer (some ⟨b, 0, none⟩), .int .i64 told] w (GotS w b rb db og s M L fs fd (rSmall told s p)) := by
  have hwb := h.lt
  have hb1 := but_alloc w (.cells (List.replicate 19 (Value.int .i64 0)).toArray 154)
  have h1 := h.alloc (.cells (List.replicate 19 (Value.int .i64 0)).toArray 154)
  have m1 := Mv.alloc (b := b) (rb := rb) (w := w) (og := og) (.cells (List.replicate 19 (Value.int .i64 0)).toArray 154)
  have hI := Is.fresh w 154 (List.replicate 19 (Value.int .i64 0)).toArray
  have hfl := foot_ne h
  have hdb := h.hd
  have HS := Lib.hid h1
  have HM := Lib.hid m1
  have HI := Lib.hid hI
  have HG := Lib.hid hG
  have HFL := Lib.hid hfl
  clear h hG hb1 h1 m1 hI hfl
  go_enter Tryz.func111, Tryz.ntmps111
  go_wp2
  go_loopw [11] (fun iv wr => ∃ (k q : Nat) (acc : List Int), k ≤ told ∧ iv = .int .i64 k ∧ acc.length = 19 ∧ Hid (smallG ((ordS.take told).drop k) acc s q = smallG (ordS.take told) (List.replicate 19 0) s p) ∧ SS wr b rb db og s q M L fs fd ∧ Mv b rb w wr og og ∧ Row wr w.heap.size 154 acc) (fun iv _ => told - (intOf iv).toNat)
  case atStart => exact ⟨0, p, List.replicate 19 0, Nat.zero_le _, rfl, by decide, by rfl, HS.out, HM.out, HI.out⟩
  case round =>
    obtain ⟨k, q, acc, hk, rfl, hal, HR, hS, hMv, hRow⟩ := hrel
    have HMV := Lib.hid hMv
    have HROW := Lib.hid hRow
    have HAL := Lib.hid hal
    have hin := hS.inCell
    by_cases hlt : k < told
    · have hbt := hS.bits 3
      have hds := ordS_drop hlt ht
      have hol := ordS_lt (i := k) (by omega)
      obtain ⟨oi, hoi⟩ : ∃ oi, oi = ordS.getD k 0 := ⟨_, rfl⟩
      rw [← hoi] at hds hol
      have HBT := Lib.hid hbt
      have HDS := Lib.hid hds
      have HOI := Lib.hid hoi
      clear hbt hds hoi hS hMv hRow hal HS HM HI
      go_wp2_with fail
      refine HBT.out.mono ?_
      rintro e w2 ⟨v, er, q2, rfl, hMv2, he1, he2⟩
      have hRow2 := HROW.out.but hMv2.but HFL.out
      have HE1 := Lib.hid he1
      have HE2 := Lib.hid he2
      have hMW := HMV.out.trans hMv2
      have HMW := Lib.hid hMW
      by_cases her : er = 0
      · obtain ⟨hr, hS2⟩ := HE2.out her
        have hgl := HG.out w2 HMW.out.but
        have c0 := hgl.order k (by omega)
        rw [← HOI.out] at c0
        have c1 : w2.cell? ⟨w.heap.size, oi, none⟩ = some (.int .i64 (acc.getD oi 0))   := hRow2.at (by have := HAL.out; omega)
        have f1 : w2.frozen? ⟨w.heap.size, oi, none⟩ = false := Is.free hRow2 oi
        have b0 : (0 : Int) ≤ (oi : Int) := by omega
        have b1 : (oi : Int) < 19 := by omega
        have b2 : (0 : Int) ≤ (k : Int) := by omega
        have b3 : (k : Int) < 19 := by omega
        have HRR := Lib.hid hr
        have HS2 := Lib.hid hS2
        have HRW := Lib.hid hRow2
        clear hr hS2 hRow2 HE1 HE2 he1 he2 hgl hMW hMv2
        subst her
        go_wp2
        go_roundw
        case rel =>
          refine ⟨k + 1, q2, acc.set oi (v : Int), by omega, by go_num, by rw [List.length_set]; exact HAL.out, ?_, HS2.out.away ((But.refl [w.heap.size] w2).setCell (.inl (by simp)) _) (fun x hx => ?_), ⟨HMW.out.but.setCell (.inr (Nat.le_refl _)) _, HMW.out.own⟩, HRW.out.set oi (v : Int)⟩
          · show _ = _
            rw [← HR.out, HDS.out]
            exact (small_step HRR.out).symm
          · obtain rfl : x = w.heap.size := by simpa using hx
            exact ⟨HFL.out, by omega⟩
        case measure => simp [intOf]; omega
      · have d2 : (er != 0) = true := by simpa using her
        have HER := Lib.hid her
        clear her he1 he2 hMv2 hMW hRow2
        go_wp2
        go_ret2
        refine ⟨.pointer none, er, 0, [], rfl, HMW.out, fun _ => ?_, fun e => absurd e HER.out⟩
        unfold rSmall
        refine bind_err ?_
        rw [← HR.out, HDS.out]
        exact small_stop (HE1.out HER.out)
    · obtain rfl : k = told := by omega
      have hok : smallG (ordS.take k) (List.replicate 19 0) s p = .ok (acc, q) := by
        rw [← HR.out, List.drop_of_length_le (by rw [List.length_take]; omega)]; rfl
      have hrs : rSmall k s p = rWhen (chk acc ≠ 0) (chk acc) (rPure acc) s q := bind_val hok
      have hI := hRow.ints
      rw [hal] at hI
      have HRS := Lib.hid hrs
      have HS2 := Lib.hid hS
      have hlt2 := HMV.out.but.size
      clear hok hrs hS hMv hRow hal HS HM HI HR hin
      by_cases hc : chk acc = 0
      · have hmk := make_new (cap := 19) hI (by omega) (fun e => by cases e) hc
        have HMK := Lib.hid hmk
        have HC := Lib.hid hc
        clear hmk hc hI
        go_wp2_with fail
        refine HMK.out.mono ?_
        rintro e w3 ⟨bt, rfl, hT, hB⟩
        have hM3 : Mv b rb wr w3 og og := Mv.of hB (by simp)
        have HT := Lib.hid hT
        have HM3 := Lib.hid (HMV.out.trans hM3)
        have HS3 := Lib.hid (HS2.out.but hB (by simp))
        clear hT hB hM3
        go_wp2
        go_ret2
        refine ⟨_, 0, q, acc, rfl, HM3.out, fun e => absurd rfl e, fun _ => ⟨by rw [HRS.out, when_not (by simpa using HC.out)]; rfl, HS3.out, HC.out, bt, rfl, HT.out.lower hlt2⟩⟩
      · have hmk := make_err (cap := 19) hI (by unfold maxLen; omega) hc
        obtain ⟨x, hx⟩ : ∃ x, chk acc = x := ⟨_, rfl⟩
        rw [hx] at hmk hc
        have HMK := Lib.hid hmk
        have HC := Lib.hid hc
        have HX := Lib.hid hx
        clear hmk hc hI hx
        go_wp2_with fail
        refine HMK.out.mono ?_
        rintro e w3 ⟨rfl, rfl⟩
        go_wp2
        go_ret2
        refine ⟨.pointer none, x, 0, [], rfl, HMV.out, fun _ => ?_, fun e => absurd e HC.out⟩
        rw [HRS.out, when_yes (by rw [HX.out]; exact HC.out), HX.out]
end
end Go.Proofs.YtghegmbafbpnjaaGreatDoor
namespace Go.Proofs.YtghegmbafbpnjaaGreatDoor
set_option maxRecDepth 100000
open Go Go.RowKit
section
variable {w0 w w' : World} {b rb db : Nat} {og : Option Nat} {s : ByteArray} {p : Nat} {M : Int} {L : List UInt8} {fs fd : Option Nat}
def repBits (t : Nat) : Nat := if t = 16 then 2 else if t = 17 then 3 else 7
def repLeast (t : Nat) : Nat := if t = 16 then 3 else if t = 17 then 3 else 11
def rRep (t : Nat) (acc : List Int) : Rd (List Int) := rWhen (t = 16 ∧ acc.length = 0) 12 (rBind (rBits (repBits t)) fun x => rPure (acc ++ List.replicate (repLeast t + x) (if t = 16 then acc.getD (acc.length - 1) 0 else 0)))
/-- A step told lengths of the call's own, or an error. -/
def GotL (w0 : World) (b rb db : Nat) (og : Option Nat) (s : ByteArray) (M : Int) (L : List UInt8) (fs fd : Option Nat) (r : Except Int (List Int × Nat)) (e : Ending) (w' : World) : Prop :=
  ∃ (v : Value) (er : Int) (q : Nat) (acc : List Int), e = .returned (.tuple #[v, .int .i64 er]) ∧ Mv b rb w0 w' og og ∧ (er ≠ 0 → r = .error er) ∧
    (er = 0 → r = .ok (acc, q) ∧ SS w' b rb db og s q M L fs fd ∧ OwnI w' w0.heap.size v acc)

theorem repeatedI (x : Int) {n : Nat} {i : Int} (hi : i = n) (w : World) (hn0 : 0 < n) (hn : n ≤ 100000) :
    Calls Tryz.prog 109 #[.int .i64 x, .int .i64 i] w fun e w' => ∃ gg cc, e = .returned (.slice (some ⟨gg, 0, none⟩) n cc) ∧ OwnI w' w.heap.size (.slice (some ⟨gg, 0, none⟩) n cc) (List.replicate n x) ∧ But [] w w' := by
  subst hi; exact repeated_any x w hn0 hn
theorem own_free {base : Nat} {v : Value} {l : List Int} {S : List Nat} (h : OwnI w base v l) (hS : ∀ k ∈ S, k < base) : ∀ k ∈ S, v.ownBlock ≠ some k := fun k hk e => by
  have := (World.ownsRow.lt h k e).1
  have := hS k hk
  omega
set_option maxHeartbeats 1000000 in
theorem repeat0 {t : Nat} {v : Value} {acc : List Int} (ht : t = 17 ∨ t = 18) (h : SS w b rb db og s p M L fs fd) (hG : Keep (Foot b rb og) w0 GL) (hM : Mv b rb w0 w og og) (hO : OwnI w w0.heap.size v acc) (ha : acc.length ≤ 400) (hfl : ∀ k ∈ Foot b rb og, k < w0.heap.size) :
    Calls Tryz.prog 125 #[.pointer (some ⟨b, 0, none⟩), .int .i64 t, v] w (GotL w0 b rb db og s M L fs fd (rRep t acc s p)) := by
  have hr : rRep t acc s p = rBind (rBits (repBits t)) (fun x => rPure (acc ++ List.replicate (repLeast t + x) 0)) s p := by
    unfold rRep
    rw [when_not (by omega)]
    simp only [if_neg (show ¬ t = 16 by omega)]
  have hin := h.inCell
  have hbt := h.drew.bits (repBits t)
  have hg := hG w hM.but
  have hrb : repBits t ≤ 7 := by unfold repBits; split <;> (try split) <;> omega
  have hrl : 3 ≤ repLeast t ∧ repLeast t ≤ 11 := by unfold repLeast; split <;> (try split) <;> omega
  have k1 := hg.bits
  have hk : ∀ x : World, GL x → x.cell? ⟨2, t - 16, none⟩ = some (.int .i64 (repBits t : Nat)) ∧ x.cell? ⟨3, t - 16, none⟩ = some (.int .i64 (repLeast t : Nat)) := fun x hx => by
    rcases ht with rfl | rfl
    · exact ⟨hx.bits.2.1, hx.least.2.1⟩
    · exact ⟨hx.bits.2.2, hx.least.2.2⟩
  have hcell := (hk w hg).1
  obtain ⟨kd, hkd⟩ : ∃ kd, kd = t - 16 := ⟨_, rfl⟩
  rw [← hkd] at hcell hk
  have hkt : (t : Int) - 16 = (kd : Int) := by omega
  have hkw : IntKind.i64.wrap (kd : Int) = (kd : Int) := IntWalk.i64_in _ (by omega)
  have b0 : (0 : Int) ≤ (kd : Int) := by omega
  have b1 : (kd : Int) < 3 := by omega
  have d16 : ((t : Int) == 16) = false := by simp; omega
  obtain ⟨nb, hnb⟩ : ∃ nb, nb = repBits t := ⟨_, rfl⟩
  obtain ⟨nl, hnl⟩ : ∃ nl, nl = repLeast t := ⟨_, rfl⟩
  rw [← hnb] at hr hbt hrb hk hcell
  rw [← hnl] at hr hrl hk
  have HR := Lib.hid hr
  have HBT := Lib.hid hbt
  have HG := Lib.hid hG
  have HK := Lib.hid hk
  have HM := Lib.hid hM
  have HO := Lib.hid hO
  have HA := Lib.hid ha
  have hbw := hM.but.size
  have HC := Lib.hid hcell
  have HIN := Lib.hid hin
  have HKD := Lib.hid hkd
  have HFL := Lib.hid hfl
  obtain ⟨i0, hi0, hz0, hz1, hz2⟩ := info_parts info_int
  clear h hG hM hO hr hbt hg k1 hk ha hnb hnl hkd hcell hin hfl ht
  go_enter Tryz.func125, Tryz.ntmps125
  go_upto_region 7 with (fail)
  go_cut [10, 11] (fun v10 v11 wc => ∃ (x : Nat) (er : Int) (q : Nat), v10 = .int .i64 x ∧ v11 = .int .i64 er ∧ Hid (Mv b rb w wc og og) ∧ Hid (er ≠ 0 → rBits nb s p = .error er) ∧ Hid (er = 0 → rBits nb s p = .ok (x, q) ∧ SS wc b rb db og s q M L fs fd))
  case first =>
    have hin : w.drew.cell? ⟨b, 0, none⟩ = some (.pointer (some ⟨rb, 0, none⟩)) := HIN.out
    have hcell : w.drew.cell? ⟨2, kd, none⟩ = some (.int .i64 (nb : Nat)) := HC.out
    go_region_with (go_at_call 87; refine HBT.out.mono ?_; rintro e w1 ⟨x, er, q, rfl, hMv, he1, he2⟩; have HMV := Lib.hid hMv; have HE1 := Lib.hid he1; have HE2 := Lib.hid he2; clear hMv he1 he2)
    all_goals
      (try go_wp2)
      go_meet
      exact ⟨_, _, _, rfl, rfl, Mv.drew.trans HMV.out, HE1.out, HE2.out⟩
  case rest =>
    obtain ⟨x, er, q, rfl, rfl, HMV, HE1, HE2⟩ := hcut
    obtain ⟨w1, rfl⟩ : ∃ w1 : World, w1 = wc := ⟨_, rfl⟩
    clear HBT HIN HC
    by_cases her : er = 0
    · obtain ⟨hrb1, hS⟩ := HE2.out her
      have hx := rBits_lt hrb1
      have hx2 : x < 2 ^ 7 := Nat.lt_of_lt_of_le hx (Nat.pow_le_pow_right (by decide) hrb)
      have HRB := Lib.hid hrb1
      have HS := Lib.hid hS
      have hMW := HM.out.trans HMV.out
      have hl1 := (HK.out w1 (HG.out w1 hMW.but)).2
      have hw1 := HMV.out.but.size
      have hrep := repeatedI 0 (n := nl + x) (i := (nl : Int) + (x : Int)) (by omega) w1 (by omega) (by omega)
      have hO1 : OwnI w1 w0.heap.size v acc := HO.out.but HMV.out.but (own_free HO.out HFL.out)
      have HREP := Lib.hid hrep
      have HO1 := Lib.hid hO1
      have HMW := Lib.hid hMW
      clear hrb1 hS hMW hrep hO1 HE1 HE2 hx
      subst her
      go_wp2_with fail
      refine HREP.out.mono ?_
      rintro e w2 ⟨gg, cc, rfl, hOr, hB2⟩
      have hO2 := HO1.out.but hB2 (by simp)
      have hnw := hOr.ints.news (by omega)
      have hsz := hB2.size
      have hm2 : Mv b rb w1 w2 og og := Mv.of hB2 (by simp)
      obtain ⟨nn, hnn⟩ : ∃ nn, nn = nl + x := ⟨_, rfl⟩
      obtain ⟨la, hla⟩ : ∃ la, la = acc.length := ⟨_, rfl⟩
      have hnb : nn ≤ 200 := by omega
      have hlb : la ≤ 400 := by have := HA.out; omega
      rw [← hnn] at hnw ⊢
      have ho := hO2
      unfold OwnI at ho
      rw [← hla] at ho
      have HOX := Lib.hid ho
      have HNW := Lib.hid hnw
      have HNN := Lib.hid hnn
      have HLA := Lib.hid hla
      have HM2 := Lib.hid (HMW.out.trans hm2)
      have HS2 := Lib.hid (HS.out.but hB2 (by simp))
      have hbs : w0.heap.size ≤ w2.heap.size := by omega
      have hre : (List.replicate nn (0 : Int)).length = nn := List.length_replicate
      clear hOr hB2 hO2 hnw hm2 hnn hla ho HREP HO1 HS HMW hx2 hl1
      go_wp2_with (at_builtin; go_loud (refine wpList_append_own _ rfl _ _ 58 rfl w0.heap.size 3 i0 (.int .i64 0) 1 8 Tryz.underlying58 hi0 hz0 hz1 hz2 rfl (by decide) v la (acc.map (.int .i64)) rfl HOX.out ⟨gg, 0, none⟩ nn cc ((List.replicate nn (0 : Int)).map (.int .i64)) rfl (by simp) HNW.out ?c2 ?c3 ?c4 hbs ?_))
      case c2 => intro u hu; obtain ⟨x, _, rfl⟩ := List.mem_map.1 hu; rfl
      case c3 => unfold maxLen; omega
      case c4 => omega
      intro v' w3 hown hgrow _
      have hO3 : OwnI w3 w0.heap.size v' (acc ++ List.replicate nn 0) := by
        unfold OwnI
        rw [List.length_append, ← HLA.out, List.length_replicate, List.map_append, List.map_replicate]
        exact hown
      have hb3 := HM2.out.but.grown hgrow (fun g e => .inr (World.ownsRow.lt HOX.out g e).1)
      have hs3 := HS2.out.away (S := v.ownBlock.toList) ((But.refl _ w2).grown hgrow (fun g e => .inl (by simp [e]))) (fun k hk => by
        have h1 := (World.ownsRow.lt HOX.out k (by simpa using hk)).1
        have h2 := HS2.out.hd
        have h3 := HFL.out b (by simp [Foot])
        exact ⟨fun h => by have := HFL.out k h; omega, by omega⟩)
      have HO3 := Lib.hid hO3
      have HB3 := Lib.hid hb3
      have HS3 := Lib.hid hs3
      clear hown hgrow hO3 hb3 hs3
      go_wp2
      go_ret2
      refine ⟨_, 0, q, _, rfl, ⟨HB3.out, fun g e => .inl e⟩, fun e => absurd rfl e, fun _ => ⟨?_, HS3.out, HO3.out⟩⟩
      rw [HR.out, bind_val HRB.out, HNN.out]; rfl
    · have d2 : (er != 0) = true := by simpa using her
      have HER := Lib.hid her
      clear her
      go_wp2
      go_ret2
      exact ⟨.slice none 0 0, er, 0, [], rfl, HM.out.trans HMV.out, fun _ => by rw [HR.out, bind_err (HE1.out HER.out)], fun e => absurd e HER.out⟩
set_option maxHeartbeats 1000000 in
theorem repeat16 {v : Value} {acc : List Int} (h0 : 0 < acc.length) (h : SS w b rb db og s p M L fs fd) (hG : Keep (Foot b rb og) w0 GL) (hM : Mv b rb w0 w og og) (hO : OwnI w w0.heap.size v acc) (ha : acc.length ≤ 400) (hfl : ∀ k ∈ Foot b rb og, k < w0.heap.size) :
    Calls Tryz.prog 125 #[.pointer (some ⟨b, 0, none⟩), .int .i64 16, v] w (GotL w0 b rb db og s M L fs fd (rRep 16 acc s p)) := by
  obtain ⟨lv, hlv⟩ : ∃ lv, lv = acc.getD (acc.length - 1) 0 := ⟨_, rfl⟩
  have hr : rRep 16 acc s p = rBind (rBits 2) (fun x => rPure (acc ++ List.replicate (3 + x) lv)) s p := by
    unfold rRep
    rw [when_not (by omega), hlv]
    rfl
  obtain ⟨A, cA, rfl, hIA⟩ := own_some hO h0
  obtain ⟨li, hli⟩ : ∃ li, li = acc.length - 1 := ⟨_, rfl⟩
  obtain ⟨gA, oA, eA, _, hlc⟩ := hIA.at (i := li) (by omega)
  obtain rfl : A = ⟨gA, oA, none⟩ := by injection eA
  have hlv2 : acc[li]'(by omega) = lv := by rw [hlv, ← hli, List.getD_eq_getElem?_getD, List.getElem?_eq_getElem (by omega)]; rfl
  rw [hlv2] at hlc
  have hin := h.inCell
  have hbt := h.drew.bits 2
  have hg := hG w hM.but
  have hcell := hg.bits.1
  have hgl : ∀ x : World, GL x → x.cell? ⟨3, 0, none⟩ = some (.int .i64 3) := fun x hx => hx.least.1
  have HR := Lib.hid hr
  have HBT := Lib.hid hbt
  have HG := Lib.hid hG
  have HK := Lib.hid hgl
  have HM := Lib.hid hM
  have HO := Lib.hid hO
  have HA := Lib.hid ha
  have hbw := hM.but.size
  have HC := Lib.hid hcell
  have HIN := Lib.hid hin
  have HFL := Lib.hid hfl
  obtain ⟨i0, hi0, hz0, hz1, hz2⟩ := info_parts info_int
  obtain ⟨la0, hla0⟩ : ∃ la0, la0 = acc.length := ⟨_, rfl⟩
  have HLA0 := Lib.hid hla0.symm
  rw [← hla0] at HO
  have hl1 : 1 ≤ la0 := by omega
  have hl2 : la0 ≤ 400 := by omega
  have hli2 : (la0 : Int) - 1 = (li : Int) := by omega
  have hliw : IntKind.i64.wrap (li : Int) = (li : Int) := IntWalk.i64_in _ (by omega)
  have c0 : (0 : Int) ≤ (li : Int) := by omega
  have c1 : (li : Int) < (la0 : Int) := by omega
  have hz : ((la0 : Int) == 0) = false := by simp; omega
  have HH0 := Lib.hid h0
  rw [← hla0]
  clear h hG hM hO hr hbt hg hgl ha hcell hin hfl hIA eA hlv2 hlv hla0 hli h0
  go_enter Tryz.func125, Tryz.ntmps125
  go_upto_region 7 with (fail)
  go_cut [10, 11] (fun v10 v11 wc => ∃ (x : Nat) (er : Int) (q : Nat), v10 = .int .i64 x ∧ v11 = .int .i64 er ∧ Hid (Mv b rb w wc og og) ∧ Hid (er ≠ 0 → rBits 2 s p = .error er) ∧ Hid (er = 0 → rBits 2 s p = .ok (x, q) ∧ SS wc b rb db og s q M L fs fd))
  case first =>
    have hin : w.drew.cell? ⟨b, 0, none⟩ = some (.pointer (some ⟨rb, 0, none⟩)) := HIN.out
    have hcell : w.drew.cell? ⟨2, 0, none⟩ = some (.int .i64 2) := HC.out
    go_region_with (go_at_call 87; refine HBT.out.mono ?_; rintro e w1 ⟨x, er, q, rfl, hMv, he1, he2⟩; have HMV := Lib.hid hMv; have HE1 := Lib.hid he1; have HE2 := Lib.hid he2; clear hMv he1 he2)
    all_goals
      (try go_wp2)
      go_meet
      exact ⟨_, _, _, rfl, rfl, Mv.drew.trans HMV.out, HE1.out, HE2.out⟩
  case rest =>
    obtain ⟨x, er, q, rfl, rfl, HMV, HE1, HE2⟩ := hcut
    obtain ⟨w1, rfl⟩ : ∃ w1 : World, w1 = wc := ⟨_, rfl⟩
    clear HBT HIN HC
    by_cases her : er = 0
    · obtain ⟨hrb1, hS⟩ := HE2.out her
      have hx := rBits_lt hrb1
      have hx2 : x < 2 ^ 7 := Nat.lt_of_lt_of_le hx (Nat.pow_le_pow_right (by decide) (by omega))
      have HRB := Lib.hid hrb1
      have HS := Lib.hid hS
      have hMW := HM.out.trans HMV.out
      have hlt3 := HK.out w1 (HG.out w1 hMW.but)
      have hw1 := HMV.out.but.size
      have hrep := repeatedI lv (n := 3 + x) (i := 3 + (x : Int)) (by omega) w1 (by omega) (by omega)
      have hO1 : OwnI w1 w0.heap.size (.slice (some ⟨gA, oA, none⟩) la0 cA) acc := HO.out.but HMV.out.but (own_free HO.out HFL.out)
      have HREP := Lib.hid hrep
      have HO1 := Lib.hid hO1
      have HMW := Lib.hid hMW
      clear hrb1 hS hMW hrep hO1 HE1 HE2 hx
      subst her
      go_wp2_with fail
      refine HREP.out.mono ?_
      rintro e w2 ⟨gg, cc, rfl, hOr, hB2⟩
      have hO2 := HO1.out.but hB2 (by simp)
      have hnw := hOr.ints.news (by omega)
      have hsz := hB2.size
      have hm2 : Mv b rb w1 w2 og og := Mv.of hB2 (by simp)
      obtain ⟨nn, hnn⟩ : ∃ nn, nn = 3 + x := ⟨_, rfl⟩
      obtain ⟨la, hla⟩ : ∃ la, la = acc.length := ⟨_, rfl⟩
      have hnb : nn ≤ 200 := by omega
      have hlb : la ≤ 400 := by have := HA.out; omega
      rw [← hnn] at hnw ⊢
      have ho := hO2
      unfold OwnI at ho
      rw [← hla] at ho
      have HOX := Lib.hid ho
      have HNW := Lib.hid hnw
      have HNN := Lib.hid hnn
      have HLA := Lib.hid hla
      have HM2 := Lib.hid (HMW.out.trans hm2)
      have HS2 := Lib.hid (HS.out.but hB2 (by simp))
      have hbs : w0.heap.size ≤ w2.heap.size := by omega
      have hre : (List.replicate nn lv).length = nn := List.length_replicate
      clear hOr hB2 hO2 hnw hm2 hnn hla ho HREP HO1 HS HMW hx2 hlt3
      go_wp2_with (at_builtin; go_loud (refine wpList_append_own _ rfl _ _ 58 rfl w0.heap.size 3 i0 (.int .i64 0) 1 8 Tryz.underlying58 hi0 hz0 hz1 hz2 rfl (by decide) (.slice (some ⟨gA, oA, none⟩) la0 cA) la (acc.map (.int .i64)) rfl HOX.out ⟨gg, 0, none⟩ nn cc ((List.replicate nn lv).map (.int .i64)) rfl (by simp) HNW.out ?c2 ?c3 ?c4 hbs ?_))
      case c2 => intro u hu; obtain ⟨x, _, rfl⟩ := List.mem_map.1 hu; rfl
      case c3 => unfold maxLen; omega
      case c4 => omega
      intro v' w3 hown hgrow _
      have hO3 : OwnI w3 w0.heap.size v' (acc ++ List.replicate nn lv) := by
        unfold OwnI
        rw [List.length_append, ← HLA.out, List.length_replicate, List.map_append, List.map_replicate]
        exact hown
      have hb3 := HM2.out.but.grown hgrow (fun g e => .inr (World.ownsRow.lt HOX.out g e).1)
      have hs3 := HS2.out.away (S := (Value.slice (some ⟨gA, oA, none⟩) la0 cA).ownBlock.toList) ((But.refl _ w2).grown hgrow (fun g e => .inl (by simp [e]))) (fun k hk => by
        have h1 := (World.ownsRow.lt HOX.out k (by simpa using hk)).1
        have h2 := HS2.out.hd
        have h3 := HFL.out b (by simp [Foot])
        exact ⟨fun h => by have := HFL.out k h; omega, by omega⟩)
      have HO3 := Lib.hid hO3
      have HB3 := Lib.hid hb3
      have HS3 := Lib.hid hs3
      clear hown hgrow hO3 hb3 hs3
      go_wp2
      go_ret2
      refine ⟨_, 0, q, _, rfl, ⟨HB3.out, fun g e => .inl e⟩, fun e => absurd rfl e, fun _ => ⟨?_, HS3.out, HO3.out⟩⟩
      rw [HR.out, bind_val HRB.out, HNN.out]; rfl
    · have d2 : (er != 0) = true := by simpa using her
      have HER := Lib.hid her
      clear her
      go_wp2
      go_ret2
      exact ⟨.slice none 0 0, er, 0, [], rfl, HM.out.trans HMV.out, fun _ => by rw [HR.out, bind_err (HE1.out HER.out)], fun e => absurd e HER.out⟩
end
end Go.Proofs.YtghegmbafbpnjaaGreatDoor
namespace Go.Proofs.YtghegmbafbpnjaaGreatDoor
set_option maxRecDepth 100000
open Go Go.RowKit
theorem nextG_lt (l : List Int) (s : ByteArray) : ∀ f n c p, (nextG l s f n c p).2.1 = 0 → (nextG l s f n c p).1 < l.length
  | 0, _, _, _, h => by rw [nextG_zero] at h; simp at h
  | f + 1, n, c, p, h => by
    rw [nextG_succ] at h ⊢
    by_cases h0 : bitsErr s p 1 = 0
    · rw [if_neg (by simpa using h0)] at h ⊢
      cases e : findS l n (2 * c + bitsVal s p 1) with
      | some i =>
        unfold findS at e
        exact List.mem_range.1 (List.mem_of_find?_eq_some e)
      | none =>
        rw [e] at h
        exact nextG_lt l s f (n + 1) _ _ h
    · rw [if_pos h0] at h; exact absurd h h0
theorem rNext_lt {l : List Int} {s : ByteArray} {p t q : Nat} (h : rNext l s p = .ok (t, q)) : t < l.length := by
  unfold rNext at h
  by_cases h0 : (nextS l s p).2.1 = 0
  · rw [if_neg (by simpa using h0)] at h
    injection h with h; injection h with h1 h2
    subst h1
    exact nextG_lt l s _ _ _ _ h0
  · rw [if_pos h0] at h; cases h
section
variable {small : List Int} {total f p p1 t q : Nat} {acc acc2 : List Int} {s : ByteArray} {e : Int}
theorem rRep_adv : Adv (rRep t acc) := by
  unfold rRep
  exact Adv.when (Adv.bind (rBits_adv _) fun x => Adv.pure _)
theorem rRep_err (h : acc.length < total) (hn : rNext small s p = .ok (t, p1)) (h1 : 16 ≤ t) (h2 : t ≤ 18) (hr : rRep t acc s p1 = .error e) : lenG small total (f + 1) acc s p = .error e := by
  rw [len_open h, bind_val hn, if_neg (by omega)]
  unfold rRep at hr
  by_cases h0 : t = 16 ∧ acc.length = 0
  · rw [when_yes h0] at hr
    rw [if_pos h0.1, when_yes h0.2]; exact hr
  · rw [when_not h0] at hr
    have hb : rBits (repBits t) s p1 = .error e := by
      unfold rBind at hr
      cases hx : rBits (repBits t) s p1 with
      | error y => rw [hx] at hr; injection hr with hr; rw [hr]
      | ok y => rw [hx] at hr; cases hr
    by_cases h16 : t = 16
    · subst h16
      rw [if_pos rfl, when_not (by omega)]; exact bind_err hb
    · by_cases h17 : t = 17
      · subst h17
        rw [if_neg (by omega), if_pos rfl]; exact bind_err hb
      · obtain rfl : t = 18 := by omega
        rw [if_neg (by omega), if_neg (by omega)]; exact bind_err hb
theorem rRep_ok (h : acc.length < total) (hn : rNext small s p = .ok (t, p1)) (h1 : 16 ≤ t) (h2 : t ≤ 18) (hr : rRep t acc s p1 = .ok (acc2, q)) :
    acc2.length ≤ acc.length + 200 ∧ lenG small total (f + 1) acc s p = if total < acc2.length then .error 12 else lenG small total f acc2 s q := by
  rw [len_open h, bind_val hn, if_neg (by omega)]
  unfold rRep at hr
  obtain ⟨h0, hr⟩ := ok_when hr
  obtain ⟨⟨x, q1⟩, hb, hr2⟩ := ok_bind hr
  have hx := rBits_lt hb
  unfold rPure at hr2
  injection hr2 with hr2
  injection hr2 with hr2 hq
  subst hq
  dsimp only at hr2 hb hx ⊢
  by_cases h16 : t = 16
  · subst h16
    rw [if_pos rfl] at hr2
    subst hr2
    rw [if_pos rfl, when_not (by omega)]
    have hx : x < 4 := hx
    refine ⟨by rw [List.length_append, List.length_replicate]; show _ ≤ _; have : repLeast 16 = 3 := rfl; omega, (bind_val hb).trans ?_⟩
    have hl : (acc ++ List.replicate (repLeast 16 + x) (acc.getD (acc.length - 1) 0)).length = acc.length + (3 + x) := by rw [List.length_append, List.length_replicate]; rfl
    rw [hl]
    by_cases hc : total < acc.length + (3 + x)
    · rw [when_yes hc, if_pos hc]
    · rw [when_not hc, if_neg hc]; rfl
  · rw [if_neg h16] at hr2
    subst hr2
    by_cases h17 : t = 17
    · subst h17
      rw [if_neg (by omega), if_pos rfl]
      have hx : x < 8 := hx
      refine ⟨by rw [List.length_append, List.length_replicate]; have : repLeast 17 = 3 := rfl; omega, (bind_val hb).trans ?_⟩
      have hl : (acc ++ List.replicate (repLeast 17 + x) (0 : Int)).length = acc.length + (3 + x) := by rw [List.length_append, List.length_replicate]; rfl
      rw [hl]
      by_cases hc : total < acc.length + (3 + x)
      · rw [when_yes hc, if_pos hc]
      · rw [when_not hc, if_neg hc]; rfl
    · obtain rfl : t = 18 := by omega
      rw [if_neg (by omega), if_neg (by omega)]
      have hx : x < 128 := hx
      refine ⟨by rw [List.length_append, List.length_replicate]; have : repLeast 18 = 11 := rfl; omega, (bind_val hb).trans ?_⟩
      have hl : (acc ++ List.replicate (repLeast 18 + x) (0 : Int)).length = acc.length + (11 + x) := by rw [List.length_append, List.length_replicate]; rfl
      rw [hl]
      by_cases hc : total < acc.length + (11 + x)
      · rw [when_yes hc, if_pos hc]
      · rw [when_not hc, if_neg hc]; rfl
theorem len_one' (h : acc.length < total) (hn : rNext small s p = .ok (t, p1)) (ht : t < 16) : lenG small total (f + 1) acc s p = lenG small total f (acc ++ [(t : Int)]) s p1 := by
  rw [len_open h, bind_val hn, if_pos ht]
theorem len_err' (h : acc.length < total) (hn : rNext small s p = .error e) : lenG small total (f + 1) acc s p = .error e := (len_open h).trans (bind_err hn)
end
section
variable {w0 w w' : World} {b rb db : Nat} {og : Option Nat} {s : ByteArray} {p : Nat} {M : Int} {L : List UInt8} {fs fd : Option Nat}
set_option maxHeartbeats 1000000 in
theorem repeat_none {v : Value} (hM : Mv b rb w0 w og og) (hO : OwnI w w0.heap.size v []) :
    Calls Tryz.prog 125 #[.pointer (some ⟨b, 0, none⟩), .int .i64 16, v] w (GotL w0 b rb db og s M L fs fd (rRep 16 [] s p)) := by
  obtain ⟨A, c, rfl, hI, _⟩ := hO.open
  have HM := Lib.hid hM
  clear hM hO hI
  go_enter Tryz.func125, Tryz.ntmps125
  go_wp2
  go_ret2
  exact ⟨.slice none 0 0, 12, 0, [], rfl, HM.out, fun _ => rfl, fun e => absurd e (by decide)⟩
theorem repeatN {t : Nat} {v : Value} {acc : List Int} (h1 : 16 ≤ t) (h2 : t ≤ 18) (h : SS w b rb db og s p M L fs fd) (hG : Keep (Foot b rb og) w0 GL) (hM : Mv b rb w0 w og og) (hO : OwnI w w0.heap.size v acc) (ha : acc.length ≤ 400) (hfl : ∀ k ∈ Foot b rb og, k < w0.heap.size) :
    Calls Tryz.prog 125 #[.pointer (some ⟨b, 0, none⟩), .int .i64 t, v] w (GotL w0 b rb db og s M L fs fd (rRep t acc s p)) := by
  by_cases h16 : t = 16
  · subst h16
    by_cases h0 : 0 < acc.length
    · exact repeat16 h0 h hG hM hO ha hfl
    · obtain rfl : acc = [] := List.eq_nil_of_length_eq_zero (by omega)
      exact repeat_none hM hO
  · exact repeat0 (by omega) h hG hM hO ha hfl

/-- At the head of a round. -/
def LenRel (small : List Int) (total f : Nat) (s : ByteArray) (R : Except Int (List Int × Nat)) (acc : List Int) (q : Nat) : Prop :=
  (acc.length ≤ total ∧ lenG small total f acc s q = R ∧ 8 * s.size - q < f) ∨ (total < acc.length ∧ R = .error 12 ∧ acc.length ≤ 600)
theorem lenRel_le {small : List Int} {total f : Nat} {R : Except Int (List Int × Nat)} {acc : List Int} {q : Nat} (h : LenRel small total f s R acc q) (ht : total ≤ 400) : acc.length ≤ 600 := by
  rcases h with ⟨h, _⟩ | ⟨_, _, h⟩ <;> omega
set_option maxHeartbeats 2000000 in
theorem readLengths_any {bt F : Nat} {small : List Int} (h : SS w b rb db og s p M L fs fd) (hG : Keep (Foot b rb og) w GL) (hT : Keep (Foot b rb og) w fun w' => TT w' bt small) (hc : chk small = 0) (h19 : small.length = 19)
    (total : Nat) (ht : total ≤ 400) (hF : 8 * s.size - p < F) :
    Calls Tryz.prog 112 #[.pointer (some ⟨b, 0, none⟩), .pointer (some ⟨bt, 0, none⟩), .int .i64 total] w (GotL w b rb db og s M L fs fd (lenG small total F [] s p)) := by
  obtain ⟨i0, hi0, hz0, hz1, hz2⟩ := info_parts info_int
  have hfl := foot_lt h
  obtain ⟨R, hR⟩ : ∃ R, R = lenG small total F [] s p := ⟨_, rfl⟩
  rw [← hR]
  have H0 : Hid (LenRel small total F s R [] p) := .inl ⟨Nat.zero_le _, hR.symm, hF⟩
  have HS := Lib.hid h
  have HG := Lib.hid hG
  have HT := Lib.hid hT
  have HC := Lib.hid hc
  have HFL := Lib.hid hfl
  have H19 := Lib.hid h19
  clear h hG hT hc hR hF hfl h19
  go_enter Tryz.func112, Tryz.ntmps112
  go_wp2
  go_loopg [8] F (fun f v wr => ∃ (acc : List Int) (q : Nat), OwnI wr w.heap.size v acc ∧ SS wr b rb db og s q M L fs fd ∧ Mv b rb w wr og og ∧ LenRel small total f s R acc q)
  case atStart => exact ⟨[], p, OwnI.nil _ _, HS.out, Mv.refl _ _ _ _, H0.out⟩
  case round =>
    obtain ⟨acc, q, hO, hS, hMv, hL⟩ := hrel
    have hl6 := lenRel_le hL ht
    obtain ⟨A, cA, rfl, hI, _⟩ := hO.open
    have HO := Lib.hid hO
    have HMV := Lib.hid hMv
    have HL := Lib.hid hL
    have hin := hS.inCell
    obtain ⟨la, hla⟩ : ∃ la, la = acc.length := ⟨_, rfl⟩
    rw [← hla] at HO hl6
    have HLA := Lib.hid hla
    clear hO hMv hL hI HS H0
    rw [← hla]
    clear hla
    by_cases hlt : la < total
    · have d1 : decide (la < total) = true := by simpa using hlt
      obtain ⟨hle, hR, hf⟩ : acc.length ≤ total ∧ lenG small total gk acc s q = R ∧ 8 * s.size - q < gk := by
        rcases HL.out with h | h
        · exact h
        · have := HLA.out; omega
      obtain ⟨f, rfl⟩ : ∃ f, gk = f + 1 := ⟨gk - 1, by omega⟩
      have hac : acc.length < total := by have := HLA.out; omega
      have hnx := hS.next HC.out (HMV.out.keep HT.out)
      have hq8 := hS.rs.1
      have HR := Lib.hid hR
      have HNX := Lib.hid hnx
      have HAC := Lib.hid hac
      have HF := Lib.hid hf
      have HQ8 := Lib.hid hq8
      clear hR hnx hS hle hac hf hq8 HL
      go_wp2_with fail
      refine HNX.out.mono ?_
      rintro e w2 ⟨t, er, q2, rfl, hMv2, he1, he2⟩
      have HM2 := Lib.hid (HMV.out.trans hMv2)
      have hO2 := HO.out.but hMv2.but (own_free HO.out HFL.out)
      have HO2 := Lib.hid hO2
      have HE1 := Lib.hid he1
      have HE2 := Lib.hid he2
      clear hMv2 he1 he2 hO2
      by_cases her : er = 0
      · obtain ⟨hr, hS2⟩ := HE2.out her
        have htl := rNext_lt hr
        have hadv := rNext_adv' small HQ8.out hr
        have ht18 : t ≤ 18 := by have := H19.out; omega
        have HRN := Lib.hid hr
        have HS2 := Lib.hid hS2
        have HADV := Lib.hid hadv
        clear hr hS2 htl hadv HE1 HE2
        subst her
        by_cases ht16 : t < 16
        · have d16 : decide ((t : Int) < 16) = true := by simp; omega
          have hstep := len_one' (f := f) HAC.out HRN.out ht16
          have HST := Lib.hid hstep
          have hsz := HM2.out.but.size
          have ho := HO2.out
          unfold OwnI at ho
          rw [← HLA.out] at ho
          have HOX := Lib.hid ho
          clear hstep ho
          go_wp2_with (at_builtin; go_loud (refine wpList_append_own _ rfl _ _ 58 rfl w.heap.size 3 i0 (.int .i64 0) 1 8 Tryz.underlying58 hi0 hz0 hz1 hz2 rfl (by decide) (.slice A la cA) la (acc.map (.int .i64)) rfl (HOX.out.alloc _) ⟨w2.heap.size, 0, none⟩ 1 1 [.int .i64 (t : Int)] rfl rfl ?c1 ?c2 ?c3 ?c4 ?c5 ?_))
          case c1 => exact World.news_of_block (cs := #[.int .i64 (t : Int)]) (t := 3) (fr := (0, 0)) (heap_alloc_new w2 _)
          case c2 => simp [Value.oneCell']
          case c3 => unfold maxLen; omega
          case c4 => omega
          case c5 => simp; omega
          intro v' w3 hown hgrow _
          have hO3 : OwnI w3 w.heap.size v' (acc ++ [(t : Int)]) := by
            unfold OwnI
            rw [List.length_append, ← HLA.out, List.map_append]
            exact hown
          have hb3 := (HM2.out.but.alloc (.cells #[.int .i64 (t : Int)] 3)).grown hgrow (fun g e => .inr (World.ownsRow.lt HOX.out g e).1)
          have hs3 := HS2.out.away (S := (Value.slice A la cA).ownBlock.toList) (((But.refl _ w2).alloc _).grown hgrow (fun g e => .inl (by simp [e]))) (fun k hk => by
            have h1 := (World.ownsRow.lt HOX.out k (by simpa using hk)).1
            have h2 := HS2.out.hd
            have h3 := HFL.out b (by simp [Foot])
            exact ⟨fun h => by have := HFL.out k h; omega, by omega⟩)
          have HO3 := Lib.hid hO3
          have HB3 := Lib.hid hb3
          have HS3 := Lib.hid hs3
          clear hown hgrow hO3 hb3 hs3
          go_wp2
          go_roundg f
          case measure => omega
          case rel =>
            refine ⟨acc ++ [(t : Int)], q2, HO3.out, HS3.out, ⟨HB3.out, fun g e => .inl e⟩, .inl ⟨?_, HST.out.symm.trans HR.out, ?_⟩⟩
            · have := HAC.out; simp; omega
            · have := HADV.out; have := HF.out; omega
        · have d16 : decide ((t : Int) < 16) = false := by simp; omega
          have hrp := repeatN (t := t) (by omega) ht18 HS2.out HG.out HM2.out HO2.out (by have := HAC.out; omega) HFL.out
          have HRP := Lib.hid hrp
          clear hrp
          go_wp2_with fail
          refine HRP.out.mono ?_
          rintro e w3 ⟨v3, er, q3, acc3, rfl, hMv3, he1, he2⟩
          have HM3 := Lib.hid hMv3
          have HE1 := Lib.hid he1
          have HE2 := Lib.hid he2
          clear hMv3 he1 he2
          by_cases her : er = 0
          · obtain ⟨hr3, hS3, hO3⟩ := HE2.out her
            have hok := rRep_ok (f := f) HAC.out HRN.out (by omega) ht18 hr3
            have hadv3 := rRep_adv s q2 acc3 q3 HADV.out.2 hr3
            have HOK := Lib.hid hok
            have HADV3 := Lib.hid hadv3
            have HS3 := Lib.hid hS3
            have HO3 := Lib.hid hO3
            clear hr3 hS3 hO3 hok hadv3 HE1 HE2
            subst her
            go_wp2
            go_roundg f
            case measure => omega
            case rel =>
              refine ⟨acc3, q3, HO3.out, HS3.out, HM3.out, ?_⟩
              obtain ⟨h1, h2⟩ := HOK.out
              have h3 := HLA.out
              rw [HR.out] at h2
              by_cases hc : total < acc3.length
              · rw [if_pos hc] at h2
                exact .inr ⟨hc, h2, by omega⟩
              · rw [if_neg hc] at h2
                exact .inl ⟨by omega, h2.symm, by have := HADV.out; have := HADV3.out; have := HF.out; omega⟩
          · have d2 : (er != 0) = true := by simpa using her
            have HER := Lib.hid her
            clear her
            go_wp2
            go_ret2
            exact ⟨.slice none 0 0, er, 0, [], rfl, HM3.out, fun _ => by rw [← HR.out]; exact rRep_err HAC.out HRN.out (by omega) ht18 (HE1.out HER.out), fun e => absurd e HER.out⟩
      · have d2 : (er != 0) = true := by simpa using her
        have HER := Lib.hid her
        clear her
        go_wp2
        go_ret2
        exact ⟨.slice none 0 0, er, 0, [], rfl, HM2.out, fun _ => by rw [← HR.out]; exact len_err' HAC.out (HE1.out HER.out), fun e => absurd e HER.out⟩
    · have d1 : decide (la < total) = false := by simpa using hlt
      have HS := Lib.hid hS
      clear hS
      by_cases hgt : total < la
      · have d2 : decide (total < la) = true := by simpa using hgt
        have hR : R = .error 12 := by
          rcases HL.out with h | h
          · have := HLA.out; omega
          · exact h.2.1
        have HR := Lib.hid hR
        clear hR hgt hlt
        go_wp2
        go_ret2
        exact ⟨.slice none 0 0, 12, 0, [], rfl, HMV.out, fun _ => HR.out, fun e => absurd e (by decide)⟩
      · have d2 : decide (total < la) = false := by simpa using hgt
        have hR : R = .ok (acc, q) := by
          rcases HL.out with ⟨h1, h2, h3⟩ | h
          · obtain ⟨f, rfl⟩ : ∃ f, gk = f + 1 := ⟨gk - 1, by omega⟩
            rw [← h2]
            exact len_done (by have := HLA.out; omega)
          · have := HLA.out; omega
        have HR := Lib.hid hR
        clear hR hgt hlt
        go_wp2
        go_ret2
        exact ⟨_, 0, q, acc, rfl, HMV.out, fun e => absurd rfl e, fun _ => ⟨HR.out, HS.out, HO.out⟩⟩
end
end Go.Proofs.YtghegmbafbpnjaaGreatDoor
