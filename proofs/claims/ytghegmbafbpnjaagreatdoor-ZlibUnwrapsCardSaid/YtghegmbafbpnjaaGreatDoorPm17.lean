/- Several texts in one: DgI, DgJ, DgB, Cat (what Unwraps, Wraps reach of them). -/
import Derived.Test.YtghegmbafbpnjaaGreatDoorPm01
import Derived.Test.YtghegmbafbpnjaaGreatDoorPm02
import Derived.Test.YtghegmbafbpnjaaGreatDoorPm03
import Derived.Test.YtghegmbafbpnjaaGreatDoorPm04
import Derived.Test.YtghegmbafbpnjaaGreatDoorPm05
import Derived.Test.YtghegmbafbpnjaaGreatDoorPm06
import Derived.Test.YtghegmbafbpnjaaGreatDoorPm07
import Derived.Test.YtghegmbafbpnjaaGreatDoorPm08
import Derived.Test.YtghegmbafbpnjaaGreatDoorPm09
import Derived.Test.YtghegmbafbpnjaaGreatDoorPm10
import Derived.Test.YtghegmbafbpnjaaGreatDoorPm11
import Derived.Test.YtghegmbafbpnjaaGreatDoorPm12
import Derived.Test.YtghegmbafbpnjaaGreatDoorPm13
import Derived.Test.YtghegmbafbpnjaaGreatDoorPm14
import Derived.Test.YtghegmbafbpnjaaGreatDoorPm15
import Derived.Test.YtghegmbafbpnjaaGreatDoorPm16
import Derived.Below
import Derived.BigQuiet
import Derived.BigRegion
import Derived.Deep.AppendLies
import Derived.Deep.CutBlock
import Derived.Deep.CutRange
import Derived.Deep.DeepCutAuto
import Derived.Deep.Draws
import Derived.Deep.LoopGhost
import Derived.Deep.QuietTactic
import Derived.Deep.RegionLaw
import Derived.Deep.RegionWith
import Derived.Deep.Slices
import Derived.Handy
import Derived.Laws.BitsAllLaws
import Derived.Laws.BitsLemmas
import Derived.Laws.CopyOwn
import Derived.Laws.IdiomStrings
import Derived.Laws.OwnMore
import Derived.Laws.Rows
import Derived.Laws.Strings2
import Derived.Laws.Strings3
import Derived.Laws.StructEq
import Derived.Lib.AppendStr
import Derived.Lib.AppendZeros
import Derived.Lib.Hide
import Derived.Lib.Strings
import Derived.LoopIn
import Derived.LoopNIn
import Derived.OneCell
import Derived.OpenShut
import Derived.Outline
import Derived.OwnWalk
import Derived.OwnWalkIn
import Derived.ProofKit
import Derived.RangeFuncBound
import Derived.RangeFuncCalls
import Derived.RangeFuncLeaves
import Derived.RangeFuncNested
import Derived.RegionTactic
import Derived.ScopeJumps
import Derived.Shelf.Abstract
import Derived.Shelf.RegionOpen
import Derived.Shelf.SlSortCmp.QuietGrown
import Derived.StillTailTactics
import Derived.TacticsInMore
import Derived.Test.YtghegmbafbpnjaaGreatDoorChecked
import Derived.WalkKit
import Derived.WalkLawsBesides
import Derived.WalkMore
import Derived.WalkSpells
set_option maxRecDepth 100000
set_option linter.unusedVariables false
set_option maxRecDepth 100000
set_option linter.unusedVariables false
namespace Go.Proofs.YtghegmbafbpnjaaGreatDoor
set_option maxRecDepth 100000
open Go Go.RowKit
theorem inc_comm (l : List Int) (i j : Nat) : Go.Proofs.YtghegmbafbpnjaaGreatDoor.inc (Go.Proofs.YtghegmbafbpnjaaGreatDoor.inc l i) j = Go.Proofs.YtghegmbafbpnjaaGreatDoor.inc (Go.Proofs.YtghegmbafbpnjaaGreatDoor.inc l j) i := by
  by_cases h : i = j
  · subst h; rfl
  · unfold Go.Proofs.YtghegmbafbpnjaaGreatDoor.inc
    rw [set_getD, set_getD, if_neg (fun e => h e.1), if_neg (fun e => h e.1.symm), List.set_comm _ _ h]
theorem tally_inc {β : Type} (f : β → Option Nat) (i : Nat) : ∀ (ts : List β) (a : List Int), tally f (Go.Proofs.YtghegmbafbpnjaaGreatDoor.inc a i) ts = Go.Proofs.YtghegmbafbpnjaaGreatDoor.inc (tally f a ts) i
  | [], _ => rfl
  | t :: ts, a => by
    rw [tally_cons, tally_cons]
    cases f t with
    | none => exact tally_inc f i ts a
    | some j => dsimp only; rw [inc_comm a i j]; exact tally_inc f i ts _
/-- The occurrences of literal and length symbols, ahead of the end. -/
def cntZ (ts : List Tk) : List Int := tally (fun t => some (symA t)) (List.replicate 286 0) ts
theorem cntZ_end (ts : List Tk) : Go.Proofs.YtghegmbafbpnjaaGreatDoor.inc (cntZ ts) 256 = cntA ts := by
  unfold cntZ cntA
  rw [← tally_inc]
  rfl
attribute [local irreducible] layTs layC layB fixL fixD toks textX cntA cntB zeroRow dynL inc lsym dsym lims
set_option maxHeartbeats 1000000 in
theorem lengths_pany {w : World} {A : Option Addr} {len cap M : Nat} {l : List Int} (hl : Ints w A len l) (hM1 : 1 ≤ M) (hM2 : M ≤ 15) (h288 : len ≤ 288) (hok : okCounts l = true) (hp : (csOf l len).length ≤ 2 ^ M) {m : Int} (hm : (M : Int) = m) :
    Calls Tryz.prog 46 #[.int .i64 m, .slice A len cap] w fun e w' => ∃ g, e = .returned (.slice (some ⟨g, 0, none⟩) len len) ∧ OwnI w' w.heap.size (.slice (some ⟨g, 0, none⟩) len len) (lims M l) ∧ But [] w w' := by
  have hc := limit_list (cap := cap) hl hM1 hM2 h288 hok hp hm
  have HC := Lib.hid hc
  clear hc hl hok hp hm
  go_enter Tryz.func46, Tryz.ntmps46
  go_wp2_with fail
  refine HC.out.mono ?_
  rintro e w1 ⟨g, rfl, hO, hB⟩
  have HO := Lib.hid hO
  have HB := Lib.hid hB
  clear hO hB
  go_wp2
  go_ret
  exact ⟨g, rfl, HO.out, HB.out⟩
section
variable {w : World}
set_option maxHeartbeats 1000000 in
theorem trimmed_pany {A : Option Addr} {n c least : Nat} {l : List Int} (hl : Ints w A n l) (hn : n ≤ 1000) (hc : n ≤ c) (hle : least ≤ n) (h1 : 1 ≤ least) :
    Calls Tryz.prog 45 #[.slice A n c, .int .i64 least] w fun e w' => e = .returned (.slice A (uptoN l least n) c) ∧ w = w' := by
  have HI := Lib.hid hl
  have HLN := Lib.hid hl.1
  obtain ⟨g, o, rfl, hgl, hcx⟩ := hl.at (show 0 < n by omega)
  clear hcx hl
  go_enter Tryz.func45, Tryz.ntmps45
  go_wp2
  go_loopw [0] (fun kv wr => ∃ k : Nat, k ≤ n ∧ least ≤ k ∧ kv = .slice (some ⟨g, o, none⟩) k c ∧ Hid (uptoN l least k = uptoN l least n) ∧ w = wr) (fun kv _ => match kv with | .slice _ k _ => k | _ => 0)
  case atStart => exact ⟨n, Nat.le_refl _, hle, rfl, Lib.hid rfl, rfl⟩
  case round =>
    obtain ⟨k, hk, hlk, rfl, HU, rfl⟩ := hrel
    obtain ⟨j, rfl⟩ : ∃ j, k = j + 1 := ⟨k - 1, by omega⟩
    obtain ⟨K, hK⟩ : ∃ K, K = j + 1 := ⟨_, rfl⟩
    have HK := Lib.hid hK
    have ee : (K : Int) - 1 = (j : Int) := by omega
    have hKj : j < K := by omega
    by_cases hgt : least < j + 1
    · obtain ⟨g2, o2, e2, _, hcell⟩ := HI.out.at (i := j) (by omega)
      injection e2 with e2
      injection e2 with e3 e4
      subst e3 e4
      have ej : l[j]'(by have := HLN.out; omega) = l.getD j 0 := by rw [List.getD_eq_getElem?_getD, List.getElem?_eq_getElem (by have := HLN.out; omega)]; rfl
      rw [ej] at hcell
      obtain ⟨x, hx⟩ : ∃ x, x = l.getD j 0 := ⟨_, rfl⟩
      rw [← hx] at hcell
      have HX := Lib.hid hx
      have d1 : decide ((least : Int) < (K : Int)) = true := by simp; omega
      have d1' : decide (least < K) = true := by simp; omega
      have b0 : (0 : Int) ≤ (j : Int) := by omega
      have b1 : (j : Int) < (K : Int) := by omega
      have b2 : (j : Int) ≤ (c : Int) := by omega
      have hKn : K ≤ n := by omega
      rw [← hK]
      clear ej hx hK
      by_cases hz : x = 0
      · have dz : (x == 0) = true := by simp [hz]
        have HN := Lib.hid (show uptoN l least j = uptoN l least n by rw [← HU.out, uptoN, if_pos ⟨hgt, by rw [← HX.out]; exact hz⟩])
        clear hz
        go_wp2
        go_roundw
        case rel => exact ⟨j, by omega, by omega, rfl, HN, by trivial⟩
        case measure => show j < K; omega
      · have dz : (x == 0) = false := by simpa using hz
        have HN := Lib.hid (show uptoN l least n = K by rw [← HU.out, uptoN, if_neg (fun h => hz (by rw [HX.out]; exact h.2)), HK.out])
        clear hz
        go_wp2
        go_ret
        exact ⟨by rw [HN.out]; rfl, rfl⟩
    · have d1 : decide ((least : Int) < (K : Int)) = false := by simp; omega
      have d1' : decide (least < K) = false := by simp; omega
      have HN := Lib.hid (show uptoN l least n = K by rw [← HU.out, uptoN, if_neg (fun h => hgt h.1), HK.out])
      rw [← hK]
      clear hK
      go_wp2
      go_ret
      exact ⟨by rw [HN.out]; rfl, rfl⟩
end
theorem length_cntZ (ts : List Tk) : (cntZ ts).length = 286 := by unfold cntZ; rw [length_tally]; simp
theorem cntZ_snoc (ts : List Tk) (t : Tk) : cntZ (ts ++ [t]) = Go.Proofs.YtghegmbafbpnjaaGreatDoor.inc (cntZ ts) (symA t) := by unfold cntZ; rw [tally_snoc]
theorem cntZ_few (ts : List Tk) (j : Nat) : 0 ≤ (cntZ ts).getD j 0 ∧ (cntZ ts).getD j 0 ≤ ts.length := by
  have h1 := tally_ge (fun t : Tk => some (symA t)) j ts (List.replicate 286 (0 : Int))
  have h2 := tally_le (fun t : Tk => some (symA t)) j ts (List.replicate 286 (0 : Int))
  have h3 := zeros_at 286 j
  unfold cntZ
  omega
theorem cntZ_nil : cntZ [] = List.replicate 286 (0 : Int) := rfl
attribute [local irreducible] cntZ
theorem run_cod (a b c : Value) (W : World) : (Instr.field 116 (.agg #[a, b, c]) 0).run Tryz.prog W = .ok a W := by kernel_rfl
/-- What count tells. -/
def GotCnt (w : World) (ts : List Tk) (e : Ending) (w' : World) : Prop := e = .returned (.tuple #[.slice (some ⟨w.heap.size, 0, none⟩) 286 286, .slice (some ⟨w.heap.size + 1, 0, none⟩) 30 30]) ∧ Row w' w.heap.size 3 (cntA ts) ∧ Row w' (w.heap.size + 1) 3 (cntB ts) ∧ But [] w w'
set_option maxHeartbeats 2000000 in
theorem count_pany (w : World) {A : Option Addr} {n c : Nat} {ts : List Tk} (hK : Tks w A n (ts.map tkI)) (hn : n ≤ 10000) (hsh : ∀ t ∈ ts, (t.1 = 0 ∧ t.2.2 ≤ 255) ∨ (t.1 ≠ 0 ∧ 3 ≤ t.1 ∧ t.1 ≤ 258 ∧ 1 ≤ t.2.1 ∧ t.2.1 ≤ 512)) :
    Calls Tryz.prog 44 #[.slice A n c] w (GotCnt w ts) := by
  have hlen : ts.length = n := by have := hK.1; rwa [List.length_map] at this
  have HLN := Lib.hid hlen
  have HK := Lib.hid hK
  have HSH := Lib.hid hsh
  have hfd := run_cod
  have hmkA : ∀ W : World, (Instr.makeSlice 58 (.int .i64 286) (.int .i64 286)).run Tryz.prog W = .ok (.slice (some ⟨W.heap.size, 0, none⟩) 286 286) (W.alloc (.cells (zeroRow 286) 3)) := fun W => run_zeros 286 (by omega) W
  have hmkB : ∀ W : World, (Instr.makeSlice 58 (.int .i64 30) (.int .i64 30)).run Tryz.prog W = .ok (.slice (some ⟨W.heap.size, 0, none⟩) 30 30) (W.alloc (.cells (zeroRow 30) 3)) := fun W => run_zeros 30 (by omega) W
  have hr0 := (row_zeros w 286).alloc (.cells (zeroRow 30) 3)
  have hr1 := row_zeros (w.alloc (.cells (zeroRow 286) 3)) 30
  have hsA : (w.alloc (.cells (zeroRow 286) 3)).heap.size = w.heap.size + 1 := by simp
  rw [hsA] at hr1
  rw [← cntZ_nil] at hr0
  rw [← cntB_nil] at hr1
  have hBW := ((But.refl [] w).alloc (.cells (zeroRow 286) 3)).alloc (.cells (zeroRow 30) 3)
  have HR0 := Lib.hid hr0
  have HR1 := Lib.hid hr1
  have HBW := Lib.hid hBW
  have hsw : w.heap.size + 1 < ((w.alloc (.cells (zeroRow 286) 3)).alloc (.cells (zeroRow 30) 3)).heap.size := by simp
  have HSW := Lib.hid hsw
  clear hlen hK hsh hr0 hr1 hsA hBW hsw
  go_enter Tryz.func44, Tryz.ntmps44
  go_wp2
  go_loopw [10] (fun iv wr => ∃ k : Nat, k ≤ n ∧ iv = .int .i64 k ∧ Hid (Row wr w.heap.size 3 (cntZ (ts.take k))) ∧ Hid (Row wr (w.heap.size + 1) 3 (cntB (ts.take k))) ∧ Hid (But [] w wr) ∧ w.heap.size + 1 < wr.heap.size) (fun iv _ => n - (intOf iv).toNat)
  case atStart => exact ⟨0, Nat.zero_le _, rfl, HR0, HR1, HBW, HSW.out⟩
  case round =>
    obtain ⟨k, hk, rfl, HA, HB, HBW2, hsw⟩ := hrel
    clear HR0 HR1 HBW hmkA hmkB
    by_cases hlt : k < n
    · have hkt : k < ts.length := by have := HLN.out; omega
      have hmem := HSH.out _ (List.getElem_mem hkt)
      have hts : ts.take (k + 1) = ts.take k ++ [ts[k]] := List.take_succ_eq_append_getElem hkt
      obtain ⟨g, o, bb, xx, zz, rfl, hg, c0, c1, c2, h1⟩ := (HK.out.but HBW2.out).at hlt
      rw [List.getElem?_map, List.getElem?_eq_getElem hkt] at h1
      injection h1 with h1
      unfold tkI at h1
      injection h1 with h2 h3
      injection h3 with h3 h4
      subst h2 h3 h4
      obtain ⟨t, ht⟩ : ∃ t, t = ts[k] := ⟨_, rfl⟩
      rw [← ht] at hmem hts c0 c1 c2
      obtain ⟨x, z, y⟩ := t
      have hna := cntZ_snoc (ts.take k) (x, z, y)
      rw [← hts] at hna
      have hlk : (ts.take k).length ≤ 10000 := by rw [List.length_take]; omega
      have HTS := Lib.hid hts
      have HNA := Lib.hid hna
      have HLA : Hid ((cntZ (ts.take k)).length = 286) := Lib.hid (length_cntZ _)
      have HLB : Hid ((cntB (ts.take k)).length = 30) := Lib.hid (length_cntB _)
      dsimp only at hmem c0 c1 c2
      have k0 : (0 : Int) ≤ (k : Int) := by omega
      have k1 : (k : Int) < (n : Int) := by omega
      obtain ⟨wb, hwb⟩ : ∃ wb, wb = wr.alloc (.cells #[.int .i64 y, .int .i64 x, .int .i64 z] 63) := ⟨_, rfl⟩
      have hIb : Is wb wr.heap.size 63 #[.int .i64 y, .int .i64 x, .int .i64 z] := by rw [hwb]; exact Is.fresh wr _ _
      have hBb : But [] wr wb := by rw [hwb]; exact (But.refl [] wr).alloc _
      have HIB := Lib.hid hIb
      have HBB := Lib.hid hBb
      have HWB := Lib.hid hwb
      clear ht hts hna hwb hIb hBb hg
      by_cases hx : x = 0
      · subst hx
        have hy : y ≤ 255 := by rcases hmem with h | h <;> omega
        have HWB : Hid (wb = wr.alloc (.cells #[.int .i64 y, .int .i64 0, .int .i64 z] 63)) := Lib.hid HWB.out
        have HIB : Hid (Is wb wr.heap.size 63 #[.int .i64 y, .int .i64 0, .int .i64 z]) := Lib.hid HIB.out
        have HSY : Hid (Calls Tryz.prog 77 #[.agg #[.int .i64 (y : Int), .int .i64 0, .int .i64 (z : Int)]] wb fun e w' => e = .returned (codVal y 0 0) ∧ But [] wb w') := Lib.hid (symbolOf_lit wb y z)
        go_wp2_with fail
        rw [← HWB.out]
        refine HSY.out.mono ?_
        rintro e wy ⟨rfl, hBy⟩
        have hBy2 := HBB.out.trans hBy
        have hAy := HA.out.but hBy2 (by simp)
        have hBBy := HB.out.but hBy2 (by simp)
        have hIy := HIB.out.but hBy (by simp)
        obtain ⟨vv, hvv⟩ : ∃ vv, vv = (cntZ (ts.take k)).getD y 0 := ⟨_, rfl⟩
        have hfew := cntZ_few (ts.take k) y
        have d0 := hAy.at (i := y) (by rw [HLA.out]; omega)
        have d1 := hAy.free y
        rw [← hvv] at d0 hfew
        have wv := wrap1 (a := vv) (by omega) (by omega)
        have b0 : (0 : Int) ≤ (y : Int) := by omega
        have b1 : (y : Int) < 286 := by omega
        have hnx := hAy.inc hvv
        rw [show Go.Proofs.YtghegmbafbpnjaaGreatDoor.inc (cntZ (ts.take k)) y = cntZ (ts.take (k + 1)) by rw [HNA.out, symA_lit rfl]] at hnx
        have hnb := hBBy.far (p := ⟨w.heap.size, y, none⟩) (by simp) (.int .i64 (vv + 1))
        rw [show cntB (ts.take k) = cntB (ts.take (k + 1)) by rw [HTS.out, cntB_lit _ _ rfl]] at hnb
        have hbw := (HBW2.out.trans hBy2).setCell (p := ⟨w.heap.size, y, none⟩) (.inr (Nat.le_refl _)) (.int .i64 (vv + 1))
        have e1 := (hIy.far (p := ⟨w.heap.size, y, none⟩) (by simp; omega) (.int .i64 (vv + 1))).cell 1
        have hsz := hBy2.size
        have hsw2 : w.heap.size + 1 < (wy.setCell ⟨w.heap.size, y, none⟩ (.int .i64 (vv + 1))).heap.size := by simp; omega
        have HNX := Lib.hid hnx
        have HNB := Lib.hid hnb
        have HBW3 := Lib.hid hbw
        have HSW3 := Lib.hid hsw2
        clear hvv hnx hnb hbw hmem hBy hBy2 hAy hBBy hIy hsw2 c0 c1 c2
        unfold codVal
        go_wp2
        go_roundw
        case rel => exact ⟨k + 1, by omega, by go_num, HNX, HNB, HBW3, HSW3.out⟩
        case measure => simp [intOf]; omega
      · obtain ⟨x3, x258, z1, z512⟩ : 3 ≤ x ∧ x ≤ 258 ∧ 1 ≤ z ∧ z ≤ 512 := by rcases hmem with h | h <;> omega
        obtain ⟨a1, a2, _, _⟩ := lsym_all x (by omega) x3
        obtain ⟨b1, _, _⟩ := dsym_all z (by omega) z1
        have HSY : Hid (Calls Tryz.prog 77 #[.agg #[.int .i64 (y : Int), .int .i64 (x : Int), .int .i64 (z : Int)]] wb fun e w' => e = .returned (codVal (lsym x) (x - lenBase (lsym x)) (lenBits (lsym x))) ∧ But [] wb w') := Lib.hid (symbolOf_mat wb x z y x3 x258)
        have HDY : Hid (∀ W : World, Calls Tryz.prog 78 #[.agg #[.int .i64 (y : Int), .int .i64 (x : Int), .int .i64 (z : Int)]] W fun e w' => e = .returned (codVal (dsym z) (z - dstBase (dsym z)) (dstBits (dsym z))) ∧ But [] W w') := Lib.hid (fun W => distanceOf_any W x z y z1 z512)
        rw [symA_mat hx] at HNA
        have hnb0 := cntB_mat (ts.take k) (x, z, y) hx
        rw [← HTS.out] at hnb0
        dsimp only at HNA hnb0
        have x0 : decide ((0 : Int) < (x : Int)) = true := by simp; omega
        have x0' : decide (0 < x) = true := by simp; omega
        obtain ⟨sx, hsx⟩ : ∃ q, q = lsym x := ⟨_, rfl⟩
        obtain ⟨dz, hdz⟩ : ∃ q, q = dsym z := ⟨_, rfl⟩
        rw [← hsx] at HSY HNA a1 a2
        simp only [← hdz] at HDY hnb0 b1
        obtain ⟨v1, hv1⟩ : ∃ q, q = x - lenBase sx := ⟨_, rfl⟩
        obtain ⟨m1, hm1⟩ : ∃ q, q = lenBits sx := ⟨_, rfl⟩
        obtain ⟨v2, hv2⟩ : ∃ q, q = z - dstBase dz := ⟨_, rfl⟩
        obtain ⟨m2, hm2⟩ : ∃ q, q = dstBits dz := ⟨_, rfl⟩
        rw [← hv1, ← hm1] at HSY
        simp only [← hv2, ← hm2] at HDY
        have HNB0 := Lib.hid hnb0
        have r0 : (0 : Int) ≤ (sx : Int) := by omega
        have r1 : (sx : Int) < 286 := by omega
        have r2 : (0 : Int) ≤ (dz : Int) := by omega
        have r3 : (dz : Int) < 30 := by omega
        clear hmem hx hsx hdz hv1 hm1 hv2 hm2 hnb0
        go_wp2_with fail
        rw [← HWB.out]
        refine HSY.out.mono ?_
        rintro e wy ⟨rfl, hBy⟩
        have hBy2 := HBB.out.trans hBy
        have hAy := HA.out.but hBy2 (by simp)
        have hBBy := HB.out.but hBy2 (by simp)
        have hIy := HIB.out.but hBy (by simp)
        obtain ⟨vv, hvv⟩ : ∃ vv, vv = (cntZ (ts.take k)).getD sx 0 := ⟨_, rfl⟩
        have hfew := cntZ_few (ts.take k) sx
        have d0 := hAy.at (i := sx) (by rw [HLA.out]; omega)
        have d1 := hAy.free sx
        rw [← hvv] at d0 hfew
        have wv := wrap1 (a := vv) (by omega) (by omega)
        have hnx := hAy.inc hvv
        rw [← HNA.out] at hnx
        have hnb := hBBy.far (p := ⟨w.heap.size, sx, none⟩) (by simp) (.int .i64 (vv + 1))
        have hbw := (HBW2.out.trans hBy2).setCell (p := ⟨w.heap.size, sx, none⟩) (.inr (Nat.le_refl _)) (.int .i64 (vv + 1))
        have hI2 := hIy.far (p := ⟨w.heap.size, sx, none⟩) (by simp; omega) (.int .i64 (vv + 1))
        have e0 := hI2.cell 0
        have e1 := hI2.cell 1
        have e2 := hI2.cell 2
        have hsz := hBy2.size
        have hsw2 : wr.heap.size ≤ (wy.setCell ⟨w.heap.size, sx, none⟩ (.int .i64 (vv + 1))).heap.size := by simp; omega
        have HNX := Lib.hid hnx
        have HNB := Lib.hid hnb
        have HBW3 := Lib.hid hbw
        have HSW3 := Lib.hid hsw2
        clear hvv hnx hnb hbw hBy hBy2 hAy hBBy hIy hI2 hsw2 c0 c1 c2 HSY
        unfold codVal
        go_wp2_with fail
        refine (HDY.out _).mono ?_
        rintro e wz ⟨rfl, hBz⟩
        have hAz := HNX.out.but hBz (by simp)
        have hBz3 := HNB.out.but hBz (by simp)
        obtain ⟨uu, huu⟩ : ∃ uu, uu = (cntB (ts.take k)).getD dz 0 := ⟨_, rfl⟩
        have hfew2 := cntB_few (ts.take k) dz
        have g0 := hBz3.at (i := dz) (by rw [HLB.out]; omega)
        have g1 := hBz3.free dz
        rw [← huu] at g0 hfew2
        have wu := wrap1 (a := uu) (by omega) (by omega)
        have hnb2 := hBz3.inc huu
        rw [← HNB0.out] at hnb2
        have hnx2 := hAz.far (p := ⟨w.heap.size + 1, dz, none⟩) (by simp) (.int .i64 (uu + 1))
        have hbw2 := (HBW3.out.trans hBz).setCell (p := ⟨w.heap.size + 1, dz, none⟩) (.inr (Nat.le_succ _)) (.int .i64 (uu + 1))
        have hsz4 := hBz.size
        have hsw4 : w.heap.size + 1 < (wz.setCell ⟨w.heap.size + 1, dz, none⟩ (.int .i64 (uu + 1))).heap.size := by have h3 := HSW3.out; have e : (wz.setCell ⟨w.heap.size + 1, dz, none⟩ (.int .i64 (uu + 1))).heap.size = wz.heap.size := (by simp); omega
        have HNX2 := Lib.hid hnx2
        have HNB2 := Lib.hid hnb2
        have HBW4 := Lib.hid hbw2
        have HSW4 := Lib.hid hsw4
        clear huu hnb2 hnx2 hbw2 hBz hAz hBz3 hsz4 hsw4 HDY d0 d1 e0 e1 e2
        unfold codVal
        go_wp2
        go_roundw
        case rel => exact ⟨k + 1, by omega, by go_num, HNX2, HNB2, HBW4, HSW4.out⟩
        case measure => simp [intOf]; omega
    · obtain rfl : k = n := by omega
      have hall : ts.take k = ts := List.take_of_length_le (by have := HLN.out; omega)
      rw [hall] at HA HB
      obtain ⟨vv, hvv⟩ : ∃ vv, vv = (cntZ ts).getD 256 0 := ⟨_, rfl⟩
      have hfew := cntZ_few ts 256
      have d0 := HA.out.at (i := 256) (by rw [length_cntZ]; omega)
      have d1 := HA.out.free 256
      have hln := HLN.out
      rw [← hvv] at d0 hfew
      have wv := wrap1 (a := vv) (by omega) (by omega)
      have hnx := HA.out.inc hvv
      rw [cntZ_end] at hnx
      have hnb := HB.out.far (p := ⟨w.heap.size, 256, none⟩) (by simp) (.int .i64 (vv + 1))
      have hbw := HBW2.out.setCell (p := ⟨w.heap.size, 256, none⟩) (.inr (Nat.le_refl _)) (.int .i64 (vv + 1))
      have HNX := Lib.hid hnx
      have HNB := Lib.hid hnb
      have HBW3 := Lib.hid hbw
      clear hvv hnx hnb hbw hall hln
      go_wp2
      go_ret2
      exact ⟨rfl, HNX.out, HNB.out, HBW3.out⟩
end Go.Proofs.YtghegmbafbpnjaaGreatDoor
set_option maxRecDepth 100000
set_option linter.unusedVariables false
namespace Go.Proofs.YtghegmbafbpnjaaGreatDoor
set_option maxRecDepth 100000
open Go Go.RowKit
attribute [local irreducible] layTs layC layB fixL fixD toks textX cntA cntB zeroRow dynL inc lsym dsym lims cntR runs
/-- How many bits stand behind a small code. -/
def extN (y : Nat) : Nat := if y = 16 then 2 else if y = 17 then 3 else if y = 18 then 7 else 0
set_option maxHeartbeats 1000000 in
theorem extraOf_pany (w : World) (y : Nat) : Calls Tryz.prog 84 #[.int .i64 y] w fun e w' => e = .returned (.int .i64 (extN y : Nat)) ∧ w = w' := by
  unfold extN
  by_cases h1 : y = 16
  · subst h1
    go_enter Tryz.func84, Tryz.ntmps84
    go_wp2
    go_ret
    exact ⟨rfl, rfl⟩
  · rw [if_neg h1]
    have d1 : ((y : Int) == 16) = false := by simp; omega
    by_cases h2 : y = 17
    · subst h2
      go_enter Tryz.func84, Tryz.ntmps84
      go_wp2
      go_ret
      exact ⟨rfl, rfl⟩
    · rw [if_neg h2]
      have d2 : ((y : Int) == 17) = false := by simp; omega
      by_cases h3 : y = 18
      · subst h3
        go_enter Tryz.func84, Tryz.ntmps84
        go_wp2
        go_ret
        exact ⟨rfl, rfl⟩
      · rw [if_neg h3]
        have d3 : ((y : Int) == 18) = false := by simp; omega
        clear h1 h2 h3
        go_enter Tryz.func84, Tryz.ntmps84
        go_wp2
        go_ret
        exact ⟨rfl, rfl⟩
set_option maxHeartbeats 1000000 in
theorem smallLengths_pany (w : World) {A : Option Addr} {n c : Nat} {R : List (Int × Nat)} (hQ : Qs w A n R) (hn : n ≤ 400) (hcd : ∀ c ∈ R, 0 ≤ c.1 ∧ c.1 ≤ 18) :
    Calls Tryz.prog 82 #[.slice A n c] w fun e w' => ∃ g, e = .returned (.slice (some ⟨g, 0, none⟩) 19 19) ∧ OwnI w' w.heap.size (.slice (some ⟨g, 0, none⟩) 19 19) (lims 7 (cntR R)) ∧ But [] w w' := by
  have HNR := Lib.hid hQ.1
  have HQS := Lib.hid hQ
  have HCD := Lib.hid hcd
  have hmkS : ∀ W : World, (Instr.makeSlice 58 (.int .i64 19) (.int .i64 19)).run Tryz.prog W = .ok (.slice (some ⟨W.heap.size, 0, none⟩) 19 19) (W.alloc (.cells (zeroRow 19) 3)) := fun W => run_zeros 19 (by omega) W
  have hr0 := row_zeros w 19
  rw [← cntR_nil] at hr0
  have HROW := Lib.hid hr0
  have HBW := Lib.hid ((But.refl [] w).alloc (.cells (zeroRow 19) 3))
  have hsw : w.heap.size < (w.alloc (.cells (zeroRow 19) 3)).heap.size := by simp
  have HSW := Lib.hid hsw
  clear hQ hcd hr0 hsw
  go_enter Tryz.func82, Tryz.ntmps82
  go_wp2
  go_loopw [9] (fun iv wr => ∃ k : Nat, k ≤ n ∧ iv = .int .i64 k ∧ Hid (Row wr w.heap.size 3 (cntR (R.take k))) ∧ Hid (But [] w wr) ∧ w.heap.size < wr.heap.size) (fun iv _ => n - (intOf iv).toNat)
  case atStart => exact ⟨0, Nat.zero_le _, rfl, HROW, HBW, HSW.out⟩
  case round =>
    obtain ⟨k, hk, rfl, HA, HBW2, hsw⟩ := hrel
    clear HROW HBW HSW hmkS
    by_cases hlt : k < n
    · have hltR : k < R.length := by rw [HNR.out]; exact hlt
      have hmem := HCD.out _ (List.getElem_mem hltR)
      have hts : R.take (k + 1) = R.take k ++ [R[k]] := List.take_succ_eq_append_getElem hltR
      obtain ⟨g, o, cc, mm, rfl, hg, c00, c01, h1⟩ := (HQS.out.but HBW2.out).at hlt
      rw [List.getElem?_eq_getElem hltR] at h1
      injection h1 with h1
      rw [h1] at hmem hts
      have hna := cntR_snoc (R.take k) (cc, mm)
      rw [← hts] at hna
      have hlk : (R.take k).length ≤ 400 := by rw [List.length_take]; omega
      dsimp only at hmem hna
      obtain ⟨y, rfl⟩ : ∃ y : Nat, cc = (y : Int) := ⟨cc.toNat, by omega⟩
      rw [Int.toNat_natCast] at hna
      have HNA := Lib.hid hna
      have HLA : Hid ((cntR (R.take k)).length = 19) := Lib.hid (length_cntR _)
      obtain ⟨vv, hvv⟩ : ∃ vv, vv = (cntR (R.take k)).getD y 0 := ⟨_, rfl⟩
      have hfew := cntR_few (R.take k) y
      have hB1 := (But.refl [] wr).alloc (.cells #[.int .i64 (y : Int), .int .i64 (mm : Int)] 124)
      have hA1 := HA.out.but hB1 (by simp)
      have d0 := hA1.at (i := y) (by rw [HLA.out]; omega)
      have d1 := hA1.free y
      rw [← hvv] at d0 hfew
      have wv := wrap1 (a := vv) (by omega) (by omega)
      have b0 : (0 : Int) ≤ (y : Int) := by omega
      have b1 : (y : Int) < 19 := by omega
      have k0 : (0 : Int) ≤ (k : Int) := by omega
      have k1 : (k : Int) < (n : Int) := by omega
      have hnx := (HA.out.inc hvv).alloc (.cells #[.int .i64 (y : Int), .int .i64 (mm : Int)] 124)
      rw [← HNA.out] at hnx
      have hbw := (HBW2.out.setCell (p := ⟨w.heap.size, y, none⟩) (.inr (Nat.le_refl _)) (.int .i64 (vv + 1))).alloc (.cells #[.int .i64 (y : Int), .int .i64 (mm : Int)] 124)
      have hsz := hB1.size
      have hsw2 : w.heap.size < ((wr.setCell ⟨w.heap.size, y, none⟩ (.int .i64 (vv + 1))).alloc (.cells #[.int .i64 (y : Int), .int .i64 (mm : Int)] 124)).heap.size := by simp; omega
      have HNX := Lib.hid hnx
      have HBW3 := Lib.hid hbw
      have HSW2 := Lib.hid hsw2
      clear hvv hnx hbw hmem hts hna h1 hg hB1 hA1 hsz hsw2 hltR
      go_wp2
      go_roundw
      case rel => exact ⟨k + 1, by omega, by go_num, HNX, HBW3, HSW2.out⟩
      case measure => simp [intOf]; omega
    · obtain rfl : k = n := by omega
      have hall : R.take k = R := List.take_of_length_le (by have := HNR.out; omega)
      rw [hall] at HA
      have hln := HNR.out
      have hI := HA.out.ints
      rw [length_cntR] at hI
      have hc := lengths_pany (cap := 19) (M := 7) (m := 7) hI (by omega) (by omega) (by omega) (okC fun j => by have := cntR_few R j; omega) (csA (length_cntR R) (by decide)) rfl
      have HC := Lib.hid hc
      clear hall hln hI hc
      go_wp2_with fail
      refine HC.out.mono ?_
      rintro e w2 ⟨g, rfl, hO, hB⟩
      have HO := Lib.hid (hO.base (b2 := w.heap.size) (Nat.le_of_lt hsw))
      have HB := Lib.hid (HBW2.out.trans hB)
      clear hO hB
      go_wp2
      go_ret
      exact ⟨g, rfl, HO.out, HB.out⟩
/-- What the program's order of the small code holds. -/
def GD (w : World) : Prop := ∀ i, i < 19 → w.cell? ⟨0, i, none⟩ = some (.int .i64 (ordS.getD i 0 : Nat))
theorem GD.but {w w' : World} (h : GD w) (hB : But [] w w') : GD w' := fun i hi => hB.cell (h i hi) (by simp)
theorem ordCells_at {j : Nat} (hj : j < 19) : ordCells.toList[j]? = some (.int .i64 (ordS.getD j 0 : Nat)) := by
  have hl : j < ordS.length := hj
  have e : ordCells.toList = ordS.map fun k => Value.int .i64 ((k : Nat) : Int) := rfl
  rw [e, List.getElem?_map, List.getD_eq_getElem?_getD, List.getElem?_eq_getElem hl]; rfl
theorem run_order {w : World} (h : GD w) : (loadVar 154 ⟨0, 0, none⟩).run Tryz.prog w = .ok (.agg ordCells) w := by
  have hl : (loadCells ⟨0, 0, none⟩ ordCells.toList.length).run Tryz.prog w = .ok ordCells.toList.toArray w :=
    run_loadCells_list (P := Tryz.prog) w ⟨0, 0, none⟩ ordCells.toList (fun j v hv => by
      have hadd : (⟨0, 0, none⟩ : Addr).add j = ⟨0, j, none⟩ := by unfold Addr.add; split <;> simp_all
      have hj : j < 19 := (List.getElem?_eq_some_iff.1 hv).1
      rw [hadd, h j hj, ← hv, ordCells_at hj])
  have hl2 : (loadCells ⟨0, 0, none⟩ 19).run Tryz.prog w = .ok ordCells w := hl
  have hi : (Tryz.prog.info? 154).map (·.size) = some 19 := by kernel_rfl
  cases hq : Tryz.prog.info? 154 with
  | none => simp [hq] at hi
  | some i =>
    have hs : i.size = 19 := by simpa [hq] using hi
    have hagg : (isAgg 154).run Tryz.prog w = .ok true w := by
      unfold isAgg
      rw [Sem.run_bind, run_underlying Tryz.underlying154 w]
      rfl
    clear hl
    simp [loadVar, Sem.run_bind, hagg, sizeOf, typeInfo, hq, hs, hl2]
theorem wpList_load_order {ops : Array Oper} {rest : List Oper} {o : Oper} {a : Act} {w : World} {Q : Exit → Act → World → Prop} (hgd : o.guard = none) (x : Operand) (ho : o.op = .load 154 x)
    (hx : a.eval x = .pointer (some ⟨0, 0, none⟩)) (hg : GD w) (h : wpList Tryz.prog ops Q rest (a.put o.dst (.agg ordCells)) w) : wpList Tryz.prog ops Q (o :: rest) a w := by
  refine wpList_plain hgd fun K hK => ?_
  unfold Oper.wp execOp
  simp only [ho, hx, Instr.loadAt, Instr.sureAddr, Sem.run_bind, Sem.run_pure, Result.andThen_ok, run_order hg]
  exact hK _ _ h
theorem run_ord_at : ∀ (i : Nat), i < 19 → ∀ W : World, (Instr.index 154 (.agg ordCells) (.int .i64 i)).run Tryz.prog W = .ok (.int .i64 (ordS.getD i 0 : Nat)) W
  | 0, _, W => by kernel_rfl
  | 1, _, W => by kernel_rfl
  | 2, _, W => by kernel_rfl
  | 3, _, W => by kernel_rfl
  | 4, _, W => by kernel_rfl
  | 5, _, W => by kernel_rfl
  | 6, _, W => by kernel_rfl
  | 7, _, W => by kernel_rfl
  | 8, _, W => by kernel_rfl
  | 9, _, W => by kernel_rfl
  | 10, _, W => by kernel_rfl
  | 11, _, W => by kernel_rfl
  | 12, _, W => by kernel_rfl
  | 13, _, W => by kernel_rfl
  | 14, _, W => by kernel_rfl
  | 15, _, W => by kernel_rfl
  | 16, _, W => by kernel_rfl
  | 17, _, W => by kernel_rfl
  | 18, _, W => by kernel_rfl
  | i + 19, h, _ => absurd h (by omega)
end Go.Proofs.YtghegmbafbpnjaaGreatDoor
set_option maxRecDepth 100000
set_option linter.unusedVariables false
namespace Go.Proofs.YtghegmbafbpnjaaGreatDoor
set_option maxRecDepth 100000
open Go Go.RowKit
/-- What the program's writer does to the world: its own blocks alone. -/
def WroteP (w w' : World) (lo b : Nat) (og : Option Nat) (r : Nat × Nat) : Prop := ∃ og', WS w' lo b og' r.1 r.2 ∧ (∀ g, og' = some g → og = some g ∨ w.heap.size ≤ g) ∧ But (b :: og.toList) w w'
section
variable {w w1 w2 w' : World} {lo b : Nat} {og : Option Nat} {r : Nat × Nat}
theorem WroteP.refl (h : WS w lo b og r.1 r.2) : WroteP w w lo b og r := ⟨og, h, fun _ h => .inl h, But.refl _ _⟩
theorem WroteP.but (h : WroteP w w' lo b og r) : But (b :: og.toList) w w' := by
  obtain ⟨_, _, _, h⟩ := h; exact h
theorem WroteP.keep {Q : World → Prop} (h : WroteP w w' lo b og r) (k : Keep (b :: og.toList) w Q) : Q w' := k w' h.but
theorem WroteP.step {r' : Nat × Nat} {og' og2 : Option Nat} (hg : ∀ g, og' = some g → og = some g ∨ w.heap.size ≤ g) (hB : But (b :: og.toList) w w1)
    (h2 : WS w' lo b og2 r'.1 r'.2) (hg2 : ∀ g, og2 = some g → og' = some g ∨ w1.heap.size ≤ g) (hB2 : But (b :: og'.toList) w1 w') : WroteP w w' lo b og r' := by
  refine ⟨og2, h2, fun g e => ?_, hB.join hB2 fun i hi => ?_⟩
  · rcases hg2 g e with h | h
    · exact hg g h
    · exact .inr (Nat.le_trans hB.size h)
  · simp only [List.mem_cons, Option.mem_toList] at hi ⊢
    rcases hi with h | h
    · exact .inl (.inl h)
    · rcases hg i h with h | h
      · exact .inl (.inr h)
      · exact .inr h
theorem WroteP.bitsI (h : WroteP w w1 lo b og r) (hlo : lo ≤ w.heap.size) (hN : r.2 ≤ 100000000000) (v n : Int) :
    Calls Tryz.prog 71 #[.pointer (some ⟨b, 0, none⟩), .int .i64 v, .int .i64 n] w1 fun e w' => e = .returned (.tuple #[]) ∧ WroteP w w' lo b og (layX r.1 r.2 v n, layN r.2 n) := by
  obtain ⟨og', hW, hg, hB⟩ := h
  refine (hW.bits (Nat.le_trans hlo hB.size) (by omega) v n).mono ?_
  rintro e w' ⟨rfl, og2, hW2, hg2, hB2⟩
  exact ⟨rfl, WroteP.step hg hB hW2 hg2 hB2⟩
theorem WroteP.bits (h : WroteP w w1 lo b og r) (hlo : lo ≤ w.heap.size) (hN : r.2 ≤ 100000000000) (v n : Nat) :
    Calls Tryz.prog 71 #[.pointer (some ⟨b, 0, none⟩), .int .i64 v, .int .i64 n] w1 fun e w' => e = .returned (.tuple #[]) ∧ WroteP w w' lo b og (layB r v n) := h.bitsI hlo hN v n
theorem WroteP.bytes (h : WroteP w w1 lo b og r) (hlo : lo ≤ w.heap.size) (hN : r.2 ≤ 100000000000) (s : ByteArray) (hs : s.size ≤ 70368744177664) :
    Calls Tryz.prog 72 #[.pointer (some ⟨b, 0, none⟩), .string s] w1 fun e w' => e = .returned (.tuple #[]) ∧ WroteP w w' lo b og (bytesX r.1 r.2 s, bytesN r.2 s) := by
  obtain ⟨og', hW, hg, hB⟩ := h
  refine (hW.bytes (Nat.le_trans hlo hB.size) (by omega) s hs).mono ?_
  rintro e w' ⟨rfl, og2, hW2, hg2, hB2⟩
  exact ⟨rfl, WroteP.step hg hB hW2 hg2 hB2⟩
theorem WroteP.text (h : WroteP w w1 lo b og r) (hN : r.2 ≤ 100000000000) : Calls Tryz.prog 40 #[.pointer (some ⟨b, 0, none⟩)] w1 fun e w' => e = .returned (.string (textX r)) ∧ But [] w1 w' := by
  obtain ⟨og', hW, hg, hB⟩ := h
  exact hW.text (by omega)
theorem WroteP.other (h : WroteP w w1 lo b og r) (hB : But [] w1 w2) : WroteP w w2 lo b og r := by
  obtain ⟨og', hF, hg, hB1⟩ := h
  exact WroteP.step hg hB1 (hF.but hB (by simp) (by simp)) (fun g e => .inl e) (hB.more (by simp))
theorem WroteP.lt (h : WroteP w w1 lo b og r) : b < w1.heap.size := by
  obtain ⟨_, h, _⟩ := h
  exact h.lt.1
/-- The writer, seen from here on. -/
theorem WroteP.rebase (h : WroteP w w1 lo b og r) (hB : But [] w1 w2) : ∃ og', WroteP w2 w2 lo b og' r ∧ (∀ k ∈ b :: og'.toList, k < w1.heap.size ∧ (k ∈ b :: og.toList ∨ w.heap.size ≤ k)) ∧
    (∀ Q : World → Prop, Keep (b :: og.toList) w Q → Keep (b :: og'.toList) w2 Q) ∧ (∀ w' r', WroteP w2 w' lo b og' r' → WroteP w w' lo b og r') := by
  obtain ⟨og', hF, hg, hB1⟩ := h
  have hB12 : But (b :: og.toList) w w2 := hB1.join hB (by simp)
  have hin : ∀ i ∈ b :: og'.toList, i ∈ b :: og.toList ∨ w.heap.size ≤ i := fun i hi => by
    simp only [List.mem_cons, Option.mem_toList] at hi ⊢
    rcases hi with h | h
    · exact .inl (.inl h)
    · rcases hg i h with h | h
      · exact .inl (.inr h)
      · exact .inr h
  refine ⟨og', WroteP.refl (hF.but hB (by simp) (by simp)), fun k hk => ⟨?_, hin k hk⟩, fun Q hQ => hQ.step hB12 hin, fun w' r' h' => ?_⟩
  · simp only [List.mem_cons, Option.mem_toList] at hk
    rcases hk with rfl | hk
    · exact hF.lt.1
    · exact (hF.lt.2 k hk).1
  · obtain ⟨og2, hW2, hg2, hB2⟩ := h'
    exact WroteP.step hg hB12 hW2 hg2 hB2
set_option maxHeartbeats 1000000 in
theorem play_one {l : List Int} {s : Nat} {bt : Nat} (hT : Keep (b :: og.toList) w fun w' => TT w' bt l) (hok : ∀ x ∈ l, 0 ≤ x ∧ x ≤ 15) (hW : WroteP w w1 lo b og r) (hlo : lo ≤ w.heap.size) (hN : r.2 ≤ 1000000000) (hh : has l s) :
    Calls Tryz.prog 79 #[.pointer (some ⟨bt, 0, none⟩), .pointer (some ⟨b, 0, none⟩), .int .i64 s] w1 fun e w' => e = .returned (.int .i64 0) ∧ WroteP w w' lo b og (layC l r s) := by
  obtain ⟨X, N⟩ := r
  have he : layC l (X, N) s = layG ((codes l).getD s 0) (l.getD s 0).toNat X N := by
    unfold layC layS; rw [if_pos hh, Int.toNat_natCast]
  rw [he]; clear he
  obtain ⟨h0, h1, h2⟩ : 0 ≤ (s : Int) ∧ (s : Int) < l.length ∧ l.getD (s : Int).toNat 0 ≠ 0 := hh
  rw [Int.toNat_natCast] at h2
  have hn : s < l.length := by omega
  have hg : l.getD s 0 = l[s] := getD_get hn
  have hcl : (codes l).length = l.length := by unfold codes; exact length_cds _ _
  have hg2 : (codes l).getD s 0 = (codes l)[s]'(by omega) := getD_get _
  have hx := hok _ (List.getElem_mem hn)
  rw [← hg] at hx
  obtain ⟨L, hL⟩ : ∃ L : Nat, l.getD s 0 = (L : Int) := ⟨(l.getD s 0).toNat, by omega⟩
  rw [hL] at hx h2 ⊢
  rw [Int.toNat_natCast]
  obtain ⟨c, hc⟩ : ∃ c, c = (codes l).getD s 0 := ⟨_, rfl⟩
  rw [← hc] at hg2 ⊢
  have hL1 : 1 ≤ L := by omega
  have hL15 : L ≤ 15 := by omega
  have s0 : (0 : Int) ≤ (s : Int) := by omega
  have s1 : (s : Int) < (l.length : Int) := by omega
  have old : ∀ W : World, But (b :: og.toList) w W → ∃ g o cl g2 o2 cc, W.cell? ⟨bt, 18, none⟩ = some (.slice (some ⟨g, o, none⟩) l.length cl) ∧ W.cell? ⟨bt, 19, none⟩ = some (.slice (some ⟨g2, o2, none⟩) l.length cc) ∧ W.cell? ⟨g, o + s, none⟩ = some (.int .i64 (L : Nat)) ∧ W.cell? ⟨g2, o2 + s, none⟩ = some (.int .i64 c) := fun W hB => by
    obtain ⟨Ao, co, Al, cl, Ac, cc, hI, _, hl, hcs⟩ := hT W hB
    obtain ⟨g, o, rfl, hgl, hc1⟩ := hl.at hn
    obtain ⟨g2, o2, rfl, hgl2, hc2⟩ := hcs.at hn
    rw [← hg, hL] at hc1
    rw [← hg2] at hc2
    exact ⟨g, o, cl, g2, o2, cc, hI.cell 18, hI.cell 19, hc1, hc2⟩
  have OLD := Lib.hid old
  obtain ⟨g, o, cl, g2, o2, cc, c0, c1, c2, c3⟩ := OLD.out _ hW.but
  have HW := Lib.hid hW
  have hz : ((L : Int) == 0) = false := by simp; omega
  have hz1 : decide ((s : Int) < 0) = false := by simp; try omega
  have hz2 : decide (l.length ≤ s) = false := by simp; omega
  clear old hg hg2 hL hcl hT hok h0 h1 h2 hx hc hW
  go_enter Tryz.func79, Tryz.ntmps79
  go_wp2
  clear c0 c1 c2 c3
  go_loopw [7] (fun iv wr => ∃ k X' N' : Nat, k ≤ L ∧ iv = .int .i64 ((k : Int) - 1) ∧ layG c k X' N' = layG c L X N ∧ N' + k = N + L ∧ WroteP w wr lo b og (X', N')) (fun iv _ => ((intOf iv) + 1).toNat)
  case atStart => exact ⟨L, X, N, Nat.le_refl _, rfl, rfl, rfl, HW.out⟩
  case round =>
    obtain ⟨k, X', N', hk, rfl, hG, hNk, hP⟩ := hrel
    clear HW
    obtain ⟨g, o, cl, g2, o2, cc, c0, c1, c2, c3⟩ := OLD.out _ hP.but
    have HP := Lib.hid hP
    have HG := Lib.hid hG
    have HNK := Lib.hid hNk
    clear hP hG hNk
    cases k with
    | zero =>
      go_wp2
      go_ret
      refine ⟨rfl, ?_⟩
      have := HG.out
      rw [← this]
      exact HP.out
    | succ k =>
      have hk1 : ((k + 1 : Nat) : Int) - 1 = (k : Int) := by omega
      rw [hk1]
      have hN2 : N ≤ 1000000000 := hN
      have hN' : N' ≤ 100000000000 := by have := HNK.out; omega
      clear hk1
      go_wp2_with fail
      refine (HP.out.bitsI hlo hN' (c / 2 ^ k) 1).mono ?_
      rintro e w2 ⟨rfl, hP2⟩
      have HP2 := Lib.hid hP2
      clear hP2 c0 c1 c2 c3
      go_wp2
      go_roundw
      case rel =>
        refine ⟨k, _, _, by omega, rfl, ?_, ?_, HP2.out⟩
        · have := HG.out; rw [layG] at this; exact this
        · have := HNK.out; rw [layN_one]; omega
      case measure => simp [intOf]
set_option maxHeartbeats 1000000 in
theorem begin_pany (h : WroteP w w1 lo b og r) (hlo : lo ≤ w.heap.size) (hN : r.2 ≤ 1000000000) {last kind : Nat} (hl : last ≤ 1) (hk : kind ≤ 2) :
    Calls Tryz.prog 38 #[.pointer (some ⟨b, 0, none⟩), .int .i64 last, .int .i64 kind] w1 fun e w' => e = .returned (.tuple #[]) ∧ WroteP w w' lo b og (layB (layB r last 1) kind 2) := by
  have h1 : (layB r last 1).2 ≤ 1000000001 := by
    rw [layB_eq (by omega) (by omega)]; show r.2 + 1 ≤ _; omega
  have H := Lib.hid h
  obtain ⟨q, hq⟩ : ∃ q, q = layB r last 1 := ⟨_, rfl⟩
  rw [← hq] at h1 ⊢
  have HQ := Lib.hid hq
  clear h hq
  go_enter Tryz.func38, Tryz.ntmps38
  go_wp2_with fail
  refine (H.out.bits hlo (by omega) last 1).mono ?_
  rintro e w2 ⟨rfl, h2⟩
  rw [← HQ.out] at h2
  have H2 := Lib.hid h2
  clear h2
  go_wp2_with fail
  refine (H2.out.bits hlo (by omega) kind 2).mono ?_
  rintro e w3 ⟨rfl, h3⟩
  have H3 := Lib.hid h3
  clear h3
  go_wp2
  go_end0
  exact ⟨rfl, H3.out⟩
set_option maxHeartbeats 1000000 in
theorem lay_pany {l : List Int} {s m e : Nat} {bt : Nat} (hT : Keep (b :: og.toList) w fun w' => TT w' bt l) (hok : ∀ x ∈ l, 0 ≤ x ∧ x ≤ 15) (hW : WroteP w w1 lo b og r) (hlo : lo ≤ w.heap.size) (hN : r.2 ≤ 100000000) (hh : has l s) (hq : (layC l r s).2 ≤ 100000000) :
    Calls Tryz.prog 76 #[.pointer (some ⟨b, 0, none⟩), .pointer (some ⟨bt, 0, none⟩), codVal s m e] w1 fun en w' => en = .returned (.tuple #[]) ∧ WroteP w w' lo b og (layB (layC l r s) m e) := by
  unfold codVal
  have hlo1 : lo ≤ w1.heap.size := Nat.le_trans hlo hW.but.size
  obtain ⟨wb, hwb⟩ : ∃ wb, wb = w1.alloc (.cells #[.int .i64 s, .int .i64 m, .int .i64 e] 116) := ⟨_, rfl⟩
  have hI : Is wb w1.heap.size 116 #[.int .i64 s, .int .i64 m, .int .i64 e] := by rw [hwb]; exact Is.fresh w1 _ _
  have hB : But [] w1 wb := by rw [hwb]; exact (But.refl [] w1).alloc _
  obtain ⟨og', hR, hlt, hKp, hback⟩ := hW.rebase hB
  have hT2 := hKp _ hT
  have hlo2 : lo ≤ wb.heap.size := Nat.le_trans hlo1 hB.size
  have hc := play_one hT2 hok hR hlo2 (by omega) hh
  obtain ⟨q, hqq⟩ : ∃ q, q = layC l r s := ⟨_, rfl⟩
  rw [← hqq] at hc hq ⊢
  have HC := Lib.hid hc
  have HI := Lib.hid hI
  have HBK := Lib.hid hback
  have HLT := Lib.hid hlt
  have HWB := Lib.hid hwb
  clear hwb hc hqq hI hB hR hlt hback hT2 hT hKp hW hh hok
  go_enter Tryz.func76, Tryz.ntmps76
  go_wp2_with fail
  rw [← HWB.out]
  refine HC.out.mono ?_
  rintro en w2 ⟨rfl, h2⟩
  have hI2 := HI.out.but h2.but (fun hk => by have := (HLT.out _ hk).1; omega)
  have c1 := hI2.cell 1
  have c2 := hI2.cell 2
  have H2 := Lib.hid h2
  clear h2 hI2
  go_wp2_with fail
  refine (H2.out.bits hlo2 (by omega) m e).mono ?_
  rintro en w3 ⟨rfl, h3⟩
  have H3 := Lib.hid (HBK.out _ _ h3)
  clear h3
  go_wp2
  go_end0
  exact ⟨rfl, H3.out⟩
end
end Go.Proofs.YtghegmbafbpnjaaGreatDoor
namespace Go.Proofs.YtghegmbafbpnjaaGreatDoor
set_option maxRecDepth 100000
open Go Go.RowKit
theorem zero_size (n : Nat) : (Builtin.zeroCells #[Value.int .i64 0] n).size = n := by simp [Builtin.zeroCells]
theorem grown_own (w : World) (n cap : Nat) (hn : n ≤ cap) (hc : cap ≤ maxLen) (fz : Nat × Nat) (hfz : fz = (0, 0)) :
    (w.drew.alloc (.cells (Builtin.zeroCells #[Value.int .i64 0] n ++ Builtin.zeroCells #[Value.int .i64 0] (cap - n)) 3 fz)).ownsRow w.heap.size 3 1 (.slice (some ⟨w.heap.size, 0, none⟩) 0 cap) 0 [] := by
  subst hfz
  refine ⟨rfl, .inr ⟨w.heap.size, cap, _, rfl, Nat.le_refl _, Is.fresh w.drew 3 _, Nat.zero_le _, hc, ?_, ?_⟩⟩
  · rw [Array.size_append, zero_size, zero_size]; omega
  · simp
set_option maxHeartbeats 1000000 in
theorem grow_nil {n : Nat} (w : World) (h0 : 0 < n) (hn : n ≤ 100000) :
    Calls Tryz.prog 73 #[.slice none 0 0, .int .i64 n] w fun e w' => ∃ c, e = .returned (.slice (some ⟨w.heap.size, 0, none⟩) 0 c) ∧ w'.ownsRow w.heap.size 3 1 (.slice (some ⟨w.heap.size, 0, none⟩) 0 c) 0 [] ∧ But [] w w' := by
  obtain ⟨i0, hi0, hz0, hz1, hz2⟩ := info_parts info_int
  have hr := fun ty => Lib.run_append_nil_zeros (P := Tryz.prog) w 58 3 ty 3 i0 _ .i64 .i64 Tryz.underlying58 Tryz.underlying3 hi0 hz0 n h0 (by omega) (by omega) (by rw [hz2]; omega)
  have hc := grownCap_ge w n 0 3
  have hc2 := grownCap_le_maxLen w n 0 3 (by unfold maxLen; omega)
  have hown := grown_own w n (grownCap w n 0 3) hc hc2 (0, 0) rfl
  have HR := Lib.hid hr
  have HOWN := Lib.hid hown
  obtain ⟨G, hG⟩ : ∃ G, G = grownCap w n 0 3 := ⟨_, rfl⟩
  have hc3 : G ≤ 9223372036854775807 := by unfold maxLen at hc2; omega
  have HGG := Lib.hid hG
  clear hr hown hc hc2 hG
  go_enter Tryz.func73, Tryz.ntmps73
  go_wp2_with (at_builtin; refine Lib.wpList_append_run _ rfl _ _ _ _ rfl _ _ rfl rfl _ _ (HR.out _) ?_)
  go_ret
  exact ⟨_, rfl, HOWN.out.drew, ((But.refl [] w).alloc _).drew⟩

/-- Slices of numbers side by side. -/
def Heads (w : World) (g : Nat) (vs : List Value) (ls : List (List Int)) : Prop :=
  vs.length = ls.length ∧ ∀ i, i < ls.length → w.cell? ⟨g, i, none⟩ = some (vs.getD i (.pointer none)) ∧ ∃ A c, vs.getD i (.pointer none) = .slice (some A) (ls.getD i []).length c ∧ Ints w (some A) (ls.getD i []).length (ls.getD i []) ∧ 0 < (ls.getD i []).length
theorem flat_take (ls : List (List Int)) (k : Nat) (h : k < ls.length) : (ls.take (k + 1)).flatten = (ls.take k).flatten ++ ls.getD k [] := by
  rw [List.take_succ_eq_append_getElem h, List.flatten_append, List.getD_eq_getElem?_getD, List.getElem?_eq_getElem h]; simp
theorem flat_le (ls : List (List Int)) (k : Nat) : (ls.take k).flatten.length ≤ ls.flatten.length := by
  have h : ls.flatten = (ls.take k).flatten ++ (ls.drop k).flatten := by rw [← List.flatten_append, List.take_append_drop]
  rw [h, List.length_append]; omega
attribute [local irreducible] Heads
set_option maxHeartbeats 1000000 in
theorem concat_any {w : World} {g c : Nat} {vs : List Value} {ls : List (List Int)} (hH : Heads w g vs ls) (h0 : 0 < ls.flatten.length) (hn : ls.flatten.length ≤ 100000) (hl : ls.length ≤ 1000) :
    Calls Tryz.prog 41 #[.slice (some ⟨g, 0, none⟩) ls.length c] w fun e w' => ∃ v, e = .returned v ∧ OwnI w' w.heap.size v ls.flatten ∧ But [] w w' := by
  obtain ⟨i0, hi0, hz0, hz1, hz2⟩ := info_parts info_int
  have HH := Lib.hid hH
  obtain ⟨N, hN⟩ : ∃ N, N = ls.length := ⟨_, rfl⟩
  rw [← hN] at hl ⊢
  have HN := Lib.hid hN
  have h00 : (ls.take 0).flatten.length = 0 := by simp
  have H00 := Lib.hid h00
  have HT := Lib.hid hn
  have HT0 := Lib.hid h0
  clear hH hN h00 h0 hn
  go_enter Tryz.func41, Tryz.ntmps41
  go_wp2
  go_loop [3, 5, 11] (fun sv _ iv => ∃ (k m : Nat), k ≤ N ∧ iv = .int .i64 k ∧ sv = .int .i64 m ∧ Hid (m = (ls.take k).flatten.length) ∧ m ≤ 100000) (fun _ _ iv => N - (intOf iv).toNat)
  case atStart => exact ⟨0, 0, Nat.zero_le _, rfl, rfl, by rfl, by omega⟩
  case round =>
    obtain ⟨k, m, hk, rfl, rfl, HM, hm⟩ := hrel
    by_cases hlt : k < N
    · have hh := HH.out
      unfold Heads at hh
      obtain ⟨hc, A, cc, hv, hI, hp⟩ := hh.2 k (by have := HN.out; omega)
      rw [hv] at hc
      have hf := flat_take ls k (by have := HN.out; omega)
      have hle := flat_le ls (k + 1)
      obtain ⟨L, hL⟩ : ∃ L, L = (ls.getD k []).length := ⟨_, rfl⟩
      have hmL : m + L = (ls.take (k + 1)).flatten.length := by rw [hf, List.length_append, HM.out, hL]
      have hmb : m + L ≤ 100000 := by have := HT.out; omega
      rw [← hL] at hc
      have HML := Lib.hid hmL
      have b1 : decide ((m : Int) + (L : Int) < 0) = false := by simp; omega
      clear hh hv hI hp hf hle hL hmL HM
      go_wp2
      go_round
      case rel => exact ⟨k + 1, m + L, by omega, by go_num, by go_num, HML.out, hmb⟩
      case measure => simp [intOf]; omega
    · obtain rfl : k = N := by omega
      have hall : m = ls.flatten.length := by rw [HM.out, HN.out, List.take_length]
      have h0 : 0 < m := by have := HT0.out; omega
      have hgr := grow_nil w h0 hm
      have HGR := Lib.hid hgr
      clear hgr hall HM
      go_wp2_with fail
      refine HGR.out.mono ?_
      rintro e w1 ⟨cg, rfl, hown, hB1⟩
      have HO := Lib.hid hown
      have HB1 := Lib.hid hB1
      clear hown hB1 HGR
      go_wp2
      go_loopw [6, 8, 27] (fun v _ iv wr => ∃ j : Nat, j ≤ k ∧ iv = .int .i64 j ∧ OwnI wr w.heap.size v (ls.take j).flatten ∧ But [] w wr) (fun _ _ iv _ => k - (intOf iv).toNat)
      case atStart => exact ⟨0, Nat.zero_le _, rfl, by unfold OwnI; exact HO.out, HB1.out⟩
      case round =>
        obtain ⟨j, hj, rfl, hOw, hBr⟩ := hrel
        have HOW := Lib.hid hOw
        have HBR := Lib.hid hBr
        clear hOw hBr HO HB1
        by_cases hlt2 : j < k
        · have hh := HH.out
          unfold Heads at hh
          obtain ⟨hc, A, cc, hv, hI, hp⟩ := hh.2 j (by have := HN.out; omega)
          rw [hv] at hc
          have hc2 := HBR.out.cell hc (by simp)
          have hI2 := hI.but HBR.out (by simp)
          have hf := flat_take ls j (by have := HN.out; omega)
          have hle := flat_le ls (j + 1)
          rw [hf, List.length_append] at hle
          obtain ⟨X, hX⟩ : ∃ X, X = ls.getD j [] := ⟨_, rfl⟩
          obtain ⟨Y, hY⟩ : ∃ Y, Y = (ls.take j).flatten := ⟨_, rfl⟩
          rw [← hX] at hc2 hI2 hf hp hle
          rw [← hY] at hf hle HOW
          obtain ⟨gA, oA, eA, _⟩ := hI2.2 hp
          obtain rfl : A = ⟨gA, oA, none⟩ := by injection eA
          have hnw := hI2.news hp
          have hsz := HBR.out.size
          obtain ⟨LX, hLX⟩ : ∃ LX, LX = X.length := ⟨_, rfl⟩
          obtain ⟨LY, hLY⟩ : ∃ LY, LY = Y.length := ⟨_, rfl⟩
          have hLL : LY + LX ≤ 100000 := by have := HT.out; omega
          rw [← hLX] at hc2
          have HF := Lib.hid hf
          have HNW := Lib.hid hnw
          have HLX := Lib.hid hLX.symm
          have HLY := Lib.hid hLY.symm
          have ho := HOW.out
          unfold OwnI at ho
          rw [← hLY] at ho
          have HOX := Lib.hid ho
          clear hh hc hv hI hp hI2 hf hle hX hY hnw eA HOW hLX hLY ho
          go_wp2_with (at_builtin; go_loud (refine wpList_append_own _ rfl _ _ 58 rfl w.heap.size 3 i0 (.int .i64 0) 1 8 Tryz.underlying58 hi0 hz0 hz1 hz2 rfl (by decide) _ LY (Y.map (.int .i64)) rfl HOX.out ⟨gA, oA, none⟩ LX cc (X.map (.int .i64)) rfl (by simp; exact HLX.out) HNW.out ?c2 ?c3 ?c4 hsz ?_))
          case c2 => intro u hu; obtain ⟨x, _, rfl⟩ := List.mem_map.1 hu; rfl
          case c3 => unfold maxLen; omega
          case c4 => omega
          intro v' w2 hown hgrow _
          have hO2 : OwnI w2 w.heap.size v' (Y ++ X) := by
            unfold OwnI
            rw [List.length_append, HLX.out, HLY.out, List.map_append]
            exact hown
          have hB2 := HBR.out.grown hgrow (fun g e => .inr (World.ownsRow.lt HOX.out g e).1)
          have HO2 := Lib.hid hO2
          have HB2 := Lib.hid hB2
          clear hown hgrow hO2 hB2
          go_wp2
          go_roundw
          case rel => exact ⟨j + 1, by omega, by go_num, by rw [HF.out]; exact HO2.out, HB2.out⟩
          case measure => simp [intOf]; omega
        · obtain rfl : j = k := by omega
          have ho := HOW.out
          rw [HN.out, List.take_length] at ho
          have HOX := Lib.hid ho
          clear ho
          go_wp2
          go_ret
          exact ⟨_, rfl, HOX.out, HBR.out⟩
end Go.Proofs.YtghegmbafbpnjaaGreatDoor
