/- Several texts in one: DpF, DpI, DpJ, DpG, DpH (what DiskDies, DiskLasts, DiskNil, DiskPlays reach of them). -/
import Derived.Test.YtchpincoddghfaaK01
import Derived.Test.YtchpincoddghfaaK02
import Derived.Test.YtchpincoddghfaaK03
import Derived.Below
import Derived.BigQuiet
import Derived.BigRegion
import Derived.Deep.AppendLies
import Derived.Deep.Cut
import Derived.Deep.CutBlock
import Derived.Deep.CutRange
import Derived.Deep.DeepCutAuto
import Derived.Deep.Draws
import Derived.Deep.Onto
import Derived.Deep.QuietTactic
import Derived.Deep.RegionLaw
import Derived.Deep.RegionWith
import Derived.Handy
import Derived.Laws.BitsAllLaws
import Derived.Laws.BitsLemmas
import Derived.Laws.BytesArg
import Derived.Laws.IdiomStrings
import Derived.Laws.MakeOwn
import Derived.Laws.OwnMore
import Derived.Laws.Rows
import Derived.Lib.AppendStr
import Derived.Lib.Hide
import Derived.MapViews
import Derived.Maps.AppendAt
import Derived.Maps.Ext
import Derived.Maps.OwnOps
import Derived.Maps.OwnSet
import Derived.OrdersHeld
import Derived.OrdersIn
import Derived.Outline
import Derived.OwnWalk
import Derived.OwnWalkIn
import Derived.RangeFuncCalls
import Derived.RegionTactic
import Derived.Shelf.SlIterI.Nil
import Derived.Shelf.SortM.Plain
import Derived.Shelf.SortM.SortNone
import Derived.TacticsInMore
import Derived.Test.YtchpincoddghfaaChecked
import Derived.WalkKit
import Derived.WideKeyArgs2
set_option maxRecDepth 100000
set_option linter.unusedVariables false
set_option maxRecDepth 100000
set_option linter.unusedVariables false
namespace Go.Proofs.Ytchpincoddghfaa
set_option maxRecDepth 100000
open Go Go.RowKit Go.Maps
set_option maxHeartbeats 1000000 in
theorem psync16_any (w : World) {b : Nat} {S : List Nat} {σ : D16} (h : PD w b S σ) (hs : σ.steps < 900000000000000) (ha : σ.armed ≤ 9223372036854775807) (n : Int) :
    Calls Try.prog 13 #[.pointer (some ⟨b, 0, none⟩), .int .i64 n] w fun e w' => e = .returned (.int .i64 (syncs16 σ n).2) ∧ Left PD w b S (syncs16 σ n).1 w' := by
  have HC : Hid (∀ w0, w0 = (w.alloc (.cells #[.pointer (some ⟨b, 0, none⟩)] 23)).alloc (.cells #[.int .i64 n] 3) → Calls Try.prog 39 #[.pointer (some ⟨b, 0, none⟩), .int .i64 n, .func (.func 40) #[] #[.pointer (some ⟨w.heap.size, 0, none⟩), .pointer (some ⟨w.heap.size + 1, 0, none⟩)]] w0 fun e w' => e = .returned (.int .i64 (syncs16 σ n).2) ∧ Left PD w b S (syncs16 σ n).1 w') := Lib.hid fun w0 hw0 => by
    have hB : But [] w w0 := by rw [hw0]; exact ((But.refl [] w).alloc _).alloc _
    have hd : Is w0 w.heap.size 23 #[.pointer (some ⟨b, 0, none⟩)] := by rw [hw0]; exact (Is.fresh w _ _).alloc _
    have hn : Is w0 (w.heap.size + 1) 3 #[.int .i64 n] := by
      rw [hw0]
      have := Is.fresh (w.alloc (.cells #[.pointer (some ⟨b, 0, none⟩)] 23)) 3 #[.int .i64 n]
      simpa using this
    refine (pchange_sync w0 (h.but hB (fun _ _ => by simp)) hs ha n (fun l => sync16 l n.toNat) (syncs16 σ n) (fun e => by unfold syncs16; rw [if_pos e]) (fun e e2 => by unfold syncs16; rw [if_neg (fun h => h e), if_pos e2])
      (fun e e2 => by unfold syncs16; rw [if_neg (fun h => h e), if_neg (by rw [e2]; decide)]; rfl) (fun k e hh => by rw [e, Int.toNat_natCast]; exact sync16_not hh) w.heap.size (w.heap.size + 1) fun w1 f v hB1 h1 hf hnf hv => ?_).mono fun e w' hh => ⟨hh.1, PD.of_left (hB.more (fun _ e => by cases e)) hh.2⟩
    subst hnf
    rw [Int.toNat_natCast]
    exact psync1_any w1 h1 hf hv (hd.but hB1 fun e => by have := h.lt _ e; omega) (hn.but hB1 fun e => by have := h.lt _ e; omega) f.syn
  clear h
  go_enter Try.func13, Try.ntmps13
  go_wp2_with fail
  refine (HC.out _ rfl).mono ?_
  rintro e w' ⟨rfl, hL⟩
  have HL := Lib.hid hL
  clear hL
  go_wp2
  go_ret
  exact ⟨rfl, HL.out⟩
set_option maxHeartbeats 1000000 in
theorem pdrop16_any (w : World) {b : Nat} {S : List Nat} {σ : D16} (h : PD w b S σ) (hs : σ.steps < 900000000000000) (ha : σ.armed ≤ 9223372036854775807) (n : Int) :
    Calls Try.prog 17 #[.pointer (some ⟨b, 0, none⟩), .int .i64 n] w fun e w' => e = .returned (.int .i64 (drops16 σ n).2) ∧ Left PD w b S (drops16 σ n).1 w' := by
  have HC : Hid (∀ w0, w0 = (w.alloc (.cells #[.pointer (some ⟨b, 0, none⟩)] 23)).alloc (.cells #[.int .i64 n] 3) → Calls Try.prog 39 #[.pointer (some ⟨b, 0, none⟩), .int .i64 n, .func (.func 43) #[] #[.pointer (some ⟨w.heap.size, 0, none⟩), .pointer (some ⟨w.heap.size + 1, 0, none⟩)]] w0 fun e w' => e = .returned (.int .i64 (drops16 σ n).2) ∧ Left PD w b S (drops16 σ n).1 w') := Lib.hid fun w0 hw0 => by
    have hB : But [] w w0 := by rw [hw0]; exact ((But.refl [] w).alloc _).alloc _
    have hd : Is w0 w.heap.size 23 #[.pointer (some ⟨b, 0, none⟩)] := by rw [hw0]; exact (Is.fresh w _ _).alloc _
    have hn : Is w0 (w.heap.size + 1) 3 #[.int .i64 n] := by
      rw [hw0]
      have := Is.fresh (w.alloc (.cells #[.pointer (some ⟨b, 0, none⟩)] 23)) 3 #[.int .i64 n]
      simpa using this
    refine (pchange_drop w0 (h.but hB (fun _ _ => by simp)) hs ha n (fun l => drop16 l n.toNat) (drops16 σ n) (fun e => by unfold drops16; rw [if_pos e]) (fun e e2 => by unfold drops16; rw [if_neg (fun h => h e), if_pos e2])
      (fun e e2 => by unfold drops16; rw [if_neg (fun h => h e), if_neg (by rw [e2]; decide)]; rfl) (fun k e hh => by rw [e, Int.toNat_natCast]; exact drop16_not hh) w.heap.size (w.heap.size + 1) fun w1 f v hB1 h1 hf hnf hv => ?_).mono fun e w' hh => ⟨hh.1, PD.of_left (hB.more (fun _ e => by cases e)) hh.2⟩
    subst hnf
    rw [Int.toNat_natCast]
    exact pdrop1_any w1 h1 hf hv (hd.but hB1 fun e => by have := h.lt _ e; omega) (hn.but hB1 fun e => by have := h.lt _ e; omega) f.syn
  clear h
  go_enter Try.func17, Try.ntmps17
  go_wp2_with fail
  refine (HC.out _ rfl).mono ?_
  rintro e w' ⟨rfl, hL⟩
  have HL := Lib.hid hL
  clear hL
  go_wp2
  go_ret
  exact ⟨rfl, HL.out⟩
set_option maxHeartbeats 1000000 in
theorem psync16_nil (w : World) (n : Int) : Calls Try.prog 13 #[.pointer none, .int .i64 n] w fun e w' => e = .returned (.int .i64 2) ∧ But [] w w' := by
  have HC : Hid (∀ w0, But [] w w0 → ∀ fv, Calls Try.prog 39 #[.pointer none, .int .i64 n, fv] w0 fun e w' => e = .returned (.int .i64 2) ∧ But [] w w') := Lib.hid fun w0 hB fv => (pchange_any_nil w0 n fv).mono fun e w' hh => ⟨hh.1, hh.2 ▸ hB⟩
  have HB := Lib.hid (((But.refl [] w).alloc (.cells #[.pointer none] 23)).alloc (.cells #[.int .i64 n] 3))
  go_enter Try.func13, Try.ntmps13
  go_wp2_with fail
  refine (HC.out _ HB.out _).mono ?_
  rintro e w' ⟨rfl, hL⟩
  have HL := Lib.hid hL
  clear hL
  go_wp2
  go_ret
  exact ⟨rfl, HL.out⟩
set_option maxHeartbeats 1000000 in
theorem pdrop16_nil (w : World) (n : Int) : Calls Try.prog 17 #[.pointer none, .int .i64 n] w fun e w' => e = .returned (.int .i64 2) ∧ But [] w w' := by
  have HC : Hid (∀ w0, But [] w w0 → ∀ fv, Calls Try.prog 39 #[.pointer none, .int .i64 n, fv] w0 fun e w' => e = .returned (.int .i64 2) ∧ But [] w w') := Lib.hid fun w0 hB fv => (pchange_any_nil w0 n fv).mono fun e w' hh => ⟨hh.1, hh.2 ▸ hB⟩
  have HB := Lib.hid (((But.refl [] w).alloc (.cells #[.pointer none] 23)).alloc (.cells #[.int .i64 n] 3))
  go_enter Try.func17, Try.ntmps17
  go_wp2_with fail
  refine (HC.out _ HB.out _).mono ?_
  rintro e w' ⟨rfl, hL⟩
  have HL := Lib.hid hL
  clear hL
  go_wp2
  go_ret
  exact ⟨rfl, HL.out⟩
set_option maxHeartbeats 1000000 in
theorem pcut16_nil (w : World) (n z : Int) : Calls Try.prog 15 #[.pointer none, .int .i64 n, .int .i64 z] w fun e w' => e = .returned (.int .i64 2) ∧ But [] w w' := by
  have HC : Hid (∀ w0, But [] w w0 → Calls Try.prog 34 #[.pointer none, .int .i64 n] w0 fun e w' => e = .returned (.int .i64 2) ∧ But [] w w') := Lib.hid fun w0 hB => (pcheck16_nil w0 n).mono fun e w' hh => ⟨hh.1, hh.2 ▸ hB⟩
  have HB := Lib.hid ((((But.refl [] w).alloc (.cells #[.pointer none] 23)).alloc (.cells #[.int .i64 n] 3)).alloc (.cells #[.int .i64 z] 3))
  go_enter Try.func15, Try.ntmps15
  go_wp2_with fail
  refine (HC.out _ HB.out).mono ?_
  rintro e w' ⟨rfl, hL⟩
  have HL := Lib.hid hL
  clear hL
  go_wp2
  go_ret
  exact ⟨rfl, HL.out⟩
set_option maxHeartbeats 1000000 in
theorem pcut16_any (w : World) {b : Nat} {S : List Nat} {σ : D16} (h : PD w b S σ) (hs : σ.steps < 900000000000000) (ha : σ.armed ≤ 9223372036854775807) (n z : Int) :
    Calls Try.prog 15 #[.pointer (some ⟨b, 0, none⟩), .int .i64 n, .int .i64 z] w fun e w' => e = .returned (.int .i64 (cuts16 σ n z).2) ∧ Left PD w b S (cuts16 σ n z).1 w' := by
  obtain ⟨w0, hw0⟩ : ∃ x, x = ((w.alloc (.cells #[.pointer (some ⟨b, 0, none⟩)] 23)).alloc (.cells #[.int .i64 n] 3)).alloc (.cells #[.int .i64 z] 3) := ⟨_, rfl⟩
  have hB : But [] w w0 := by rw [hw0]; exact (((But.refl [] w).alloc _).alloc _).alloc _
  have h0 := h.but hB (fun _ _ => by simp)
  have hd : Is w0 w.heap.size 23 #[.pointer (some ⟨b, 0, none⟩)] := by rw [hw0]; exact ((Is.fresh w _ _).alloc _).alloc _
  have hn : Is w0 (w.heap.size + 1) 3 #[.int .i64 n] := by
    rw [hw0]
    have := (Is.fresh (w.alloc (.cells #[.pointer (some ⟨b, 0, none⟩)] 23)) 3 #[.int .i64 n]).alloc (.cells #[.int .i64 z] 3)
    simpa using this
  have hz : Is w0 (w.heap.size + 2) 3 #[.int .i64 z] := by
    rw [hw0]
    have := Is.fresh ((w.alloc (.cells #[.pointer (some ⟨b, 0, none⟩)] 23)).alloc (.cells #[.int .i64 n] 3)) 3 #[.int .i64 z]
    simpa using this
  have HW := Lib.hid (pcheck16_any w0 h0 n)
  by_cases hw : wrong16 σ n = 0
  · obtain ⟨hde, hn0, hn1⟩ := wrong16_ok hw
    obtain ⟨k, rfl⟩ : ∃ k : Nat, n = (k : Int) := ⟨n.toNat, by omega⟩
    rw [hw] at HW
    obtain ⟨mb, sl, hI, hF⟩ := h0.row
    obtain ⟨v, s, hlk, hown, _, hfile, hno⟩ := hF.got h.ok.rise k
    obtain ⟨A, c, rfl, _⟩ := own_sliceF hown
    have hl := (hF.butX ((But.refl [] w0).drew) (fun _ _ => by simp) (fun _ _ _ _ => by simp)).look h.ok.rise (n := k) (by omega)
    rw [hlk] at hl
    obtain ⟨L, hL⟩ : ∃ x, x = (get16 σ.l k).length := ⟨_, rfl⟩
    rw [← hL] at hl
    have hfld : ∀ u v W, (Instr.field 60 (.agg #[u, v]) 0).run Try.prog W = .ok u W := by intros; kernel_rfl
    have c1 := hI.cell 1
    have hb := hI.lt
    have d0 := hd.cell 0
    have n0 := hn.cell 0
    have z0 := hz.cell 0
    have ld := hd.lt
    have ln := hn.lt
    have lz := hz.lt
    by_cases hz0 : z < 0
    · have HR : Hid (cuts16 σ (k : Int) z = (σ, 1)) := Lib.hid (by unfold cuts16; rw [if_neg (fun h => h hw), if_pos (.inl hz0)])
      rw [HR.out]
      have HL : Hid (Left PD w b S σ w0.drew) := Lib.hid (h.left hB.drew)
      clear hfile hno hF hI h h0 hown hlk hd hn hz hde hL hw HR hB
      go_enter Try.func15, Try.ntmps15
      go_wp2_with fail
      rw [← hw0]
      clear hw0
      refine HW.out.mono ?_
      rintro e wz ⟨rfl, rfl⟩
      go_wp2
      go_region
      go_wp2
      go_ret
      exact ⟨rfl, HL.out⟩
    · obtain ⟨zz, rfl⟩ : ∃ zz : Nat, z = (zz : Int) := ⟨z.toNat, by omega⟩
      by_cases hlt : L < zz
      · have HR : Hid (cuts16 σ (k : Int) (zz : Int) = (σ, 1)) := Lib.hid (by unfold cuts16; rw [if_neg (fun h => h hw), if_pos (.inr (by rw [Int.toNat_natCast]; omega))])
        rw [HR.out]
        have HL : Hid (Left PD w b S σ w0.drew) := Lib.hid (h.left hB.drew)
        have i0 : decide ((zz : Int) < 0) = false := by simp
        have i1 : (L : Int) < (zz : Int) := by omega
        clear hfile hno hF hI h h0 hown hlk hd hn hz hde hL hw HR hB hz0
        go_enter Try.func15, Try.ntmps15
        go_wp2_with fail
        rw [← hw0]
        clear hw0
        refine HW.out.mono ?_
        rintro e wz ⟨rfl, rfl⟩
        go_wp2
        go_region
        go_wp2
        go_ret
        exact ⟨rfl, HL.out⟩
      · have HC : Hid (Calls Try.prog 39 #[.pointer (some ⟨b, 0, none⟩), .int .i64 (k : Nat), .func (.func 42) #[] #[.pointer (some ⟨w.heap.size, 0, none⟩), .pointer (some ⟨w.heap.size + 1, 0, none⟩), .pointer (some ⟨w.heap.size + 2, 0, none⟩)]] w0.drew fun e w' => e = .returned (.int .i64 (cuts16 σ (k : Int) (zz : Int)).2) ∧ Left PD w b S (cuts16 σ (k : Int) (zz : Int)).1 w') := Lib.hid (by
          have hnb : ¬ ((zz : Int) < 0 ∨ ((get16 σ.l (k : Int).toNat).length : Int) < (zz : Int)) := by rw [Int.toNat_natCast]; omega
          refine (pchange_cut w0.drew (h0.but (But.refl [] w0).drew (fun _ _ => by simp)) hs ha (k : Int) (fun l => cut16 l k zz) (cuts16 σ (k : Int) (zz : Int)) (fun e => absurd hw e) (fun e e2 => by unfold cuts16; rw [if_neg (fun h => h e), if_neg hnb, if_pos e2])
            (fun e e2 => by unfold cuts16; rw [if_neg (fun h => h e), if_neg hnb, if_neg (by rw [e2]; decide), Int.toNat_natCast, Int.toNat_natCast]; rfl) (fun k' e hh => cut16_not (by rw [show k = k' by omega]; exact hh)) w.heap.size (w.heap.size + 1) (w.heap.size + 2) fun w1 f v hB1 h1 hf hnf hv => ?_).mono fun e w' hh => ⟨hh.1, PD.of_left ((hB.more (fun _ e => by cases e)).drew) hh.2⟩
          obtain rfl : k = f.num := by omega
          obtain ⟨_, _, hgf⟩ := hfile f hf rfl
          have hd1 := hd.drew.but hB1 fun e => by have := h.lt _ e; omega
          exact pcut1_any w1 h1 hf (by rw [← hgf]; omega) hd1 (hn.drew.but hB1 fun e => by have := h.lt _ e; omega) (hz.drew.but hB1 fun e => by have := h.lt _ e; omega) f.syn)
        have i0 : decide ((zz : Int) < 0) = false := by simp
        have i1 : ¬ (L : Int) < (zz : Int) := by omega
        clear hfile hno hF hI h h0 hown hlk hd hn hz hde hL hw hB hz0 hlt
        go_enter Try.func15, Try.ntmps15
        go_wp2_with fail
        rw [← hw0]
        clear hw0
        refine HW.out.mono ?_
        rintro e wz ⟨rfl, rfl⟩
        go_wp2
        go_region
        go_wp2_with fail
        refine HC.out.mono ?_
        rintro e w' ⟨rfl, hL⟩
        have HL := Lib.hid hL
        clear hL
        go_wp2
        go_ret
        exact ⟨rfl, HL.out⟩
  · have HR : Hid (cuts16 σ n z = (σ, wrong16 σ n)) := Lib.hid (by unfold cuts16; rw [if_pos hw])
    rw [HR.out]
    have HL : Hid (Left PD w b S σ w0) := Lib.hid (h.left hB)
    obtain ⟨r, hr⟩ : ∃ r, r = wrong16 σ n := ⟨_, rfl⟩
    rw [← hr] at HW hw ⊢
    have q1 : (r != 0) = true := by simpa using hw
    have q2 : (r = 0) = False := by simpa using hw
    clear hr h h0 hB hd hn hz hw HR
    go_enter Try.func15, Try.ntmps15
    go_wp2_with fail
    rw [← hw0]
    clear hw0
    refine HW.out.mono ?_
    rintro e wz ⟨rfl, rfl⟩
    go_wp2
    go_ret
    exact ⟨rfl, HL.out⟩
end Go.Proofs.Ytchpincoddghfaa
set_option maxRecDepth 100000
set_option linter.unusedVariables false
namespace Go.Proofs.Ytchpincoddghfaa
set_option maxRecDepth 100000
open Go Go.RowKit Go.Maps
theorem run_append_s16 {P : Program} (w : World) (base : Nat) (t u ty e : TypeId) (i : TypeInfo) (ht : P.underlying t = some (.slice e)) (hu : P.underlying u = some .string) (hi : P.info? e = some i) (hz : i.zero = some (.int .u8 0))
    (hsize : i.size = 1) (hby : i.bytes = 1) (v : Value) (n : Nat) (xs : List Value) (hown : w.ownsRow base e 1 v n xs) (s : ByteArray) (hbound : n + s.size ≤ 140737488355328) (hbase : base ≤ w.heap.size) :
    ∃ v' w', (Builtin.append_ #[t, u] ty #[v, .string s]).run P w = .ok v' w' ∧ w'.ownsRow base e 1 v' (n + s.size) (xs ++ Lib.strCells s) ∧ w.grownBy w' v.ownBlock ∧ (∀ g, v'.ownBlock = some g → v.ownBlock = some g ∨ w.heap.size ≤ g) := by
  obtain ⟨v', w', hr, ho, hg, hn⟩ := Lib.run_append_own_string (P := P) w base t u ty e i ht hu hi hz hsize hby v n xs hown s (by unfold maxLen; omega) hbound hbase
  refine ⟨v', w', hr, ho, hg, fun g eg => ?_⟩
  have hok : ∀ {a : Value} {wa : World}, (Builtin.append_ #[t, u] ty #[v, .string s]).run P w = .ok a wa → v' = a := fun h => (Result.ok.inj (hr.symm.trans h)).1
  rcases hown.2 with ⟨rfl, rfl⟩ | ⟨g0, cap, cur, rfl, hbg, hgc, hnc, hcm, hcs, htake⟩
  · by_cases h0 : s.size = 0
    · rw [hn.2 ⟨rfl, h0⟩] at eg; simp [Value.ownBlock] at eg
    · have h := hok (run_append_nil_string (P := P) w t u ty e i (.int .u8 0) ht hu hi hz s (by omega) (by omega) (by rw [hby]; omega))
      rw [h] at eg
      simp [Value.ownBlock] at eg
      exact .inr (by omega)
  · by_cases hroom : n + s.size ≤ cap
    · have h := hok (Lib.run_append_room_string (P := P) w t u ty e i ht hu hi hsize g0 n cap cur hgc s hroom (by omega))
      rw [h] at eg
      exact .inl eg
    · have holds : ∀ j x, xs[j]? = some x → w.cell? ((⟨g0, 0, none⟩ : Addr).add j) = some x := hown.cells (g := g0) rfl
      have h := hok (Lib.run_append_grow_string (P := P) w t u ty e i (.int .u8 0) ht hu hi hz ⟨g0, 0, none⟩ n cap xs (by rw [hsize]; exact hown.1) holds s (by omega) (by omega) (by rw [hby]; exact growslice_fits (by omega) (by omega)))
      rw [h] at eg
      simp [Value.ownBlock] at eg
      exact .inr (by omega)
theorem wpList_append_s16 (w : World) {ops : Array Oper} {rest : List Oper} {o : Oper} {a : Act} {Q : Exit → Act → World → Prop} (hgd : o.guard = none) (sl x : Operand)
    (ho : o.op = .call { callee := .builtin .append, args := #[sl, x], argTypes := #[58, 9] })
    (v : Value) (L : List UInt8) (hs : a.eval sl = v) (hown : OwnF w 0 v L) (s : ByteArray) (hx : a.eval x = .string s) (hbound : L.length + s.size ≤ 140737488355328)
    (h : ∀ A c w', OwnF w' 0 (.slice A (L.length + s.size) c) (L ++ s.data.toList) → w.grownBy w' v.ownBlock → (∀ g, (Value.slice A (L.length + s.size) c).ownBlock = some g → v.ownBlock = some g ∨ w.heap.size ≤ g) → wpList Try.prog ops Q rest (a.put o.dst (.slice A (L.length + s.size) c)) w') : wpList Try.prog ops Q (o :: rest) a w := by
  refine wpList_plain hgd fun K hK => ?_
  obtain ⟨i, hi, hz, hsize, hby⟩ : ∃ i, Try.prog.info? 5 = some i ∧ i.zero = some (.int .u8 0) ∧ i.size = 1 ∧ i.bytes = 1 := ⟨_, rfl, rfl, rfl, rfl⟩
  obtain ⟨v', w', hr, h2, h3, h4⟩ := run_append_s16 (P := Try.prog) w 0 58 9 o.type 5 i Try.underlying58 Try.underlying9 hi hz hsize hby v L.length (cellsF L) hown s hbound (Nat.zero_le _)
  obtain ⟨A, c, rfl, _⟩ := own_sliceF h2
  unfold Oper.wp execOp
  simp only [ho, resolve, invoke, builtin, Sem.run_bind, Sem.run_pure, Result.andThen_ok, List.map_toArray, List.map_cons, List.map_nil, hs, hx, hr]
  have hl : (L ++ s.data.toList).length = L.length + s.size := by rw [List.length_append, Array.length_toList]; rfl
  refine hK _ _ (h A c w' ?_ h3 h4)
  unfold OwnF
  rw [hl, cellsF_append]
  exact h2
theorem mem_put16 {l : List F16} {k : Nat} {s : List UInt8} {y : Nat} (hr : l.Pairwise fun a b => a.num < b.num) (h1 : ∀ f ∈ l, f.num = k → y = f.syn ∧ get16 l k = f.data) (h2 : has16 l k = false → y = 0 ∧ get16 l k = []) :
    ∀ f, f ∈ put16 l k s ↔ f = ⟨k, get16 l k ++ s, y⟩ ∨ (f ∈ l ∧ f.num ≠ k) := by
  intro f
  unfold put16
  cases hh : has16 l k with
  | true =>
    obtain ⟨g, hg, hgk⟩ := has16_iff.1 hh
    obtain ⟨e1, e2⟩ := h1 g hg hgk
    rw [if_pos rfl, mem_map16 (G := fun f => { f with data := f.data ++ s }) hr hg hgk, e1, e2, ← hgk]
  | false =>
    obtain ⟨e1, e2⟩ := h2 hh
    have hne := has16_not hh
    rw [if_neg (by decide), e1, e2, List.nil_append, List.mem_append, List.mem_cons]
    constructor
    · rintro (h | h | h)
      · exact .inr ⟨List.mem_of_mem_take h, hne f (List.mem_of_mem_take h)⟩
      · exact .inl h
      · exact .inr ⟨List.mem_of_mem_drop h, hne f (List.mem_of_mem_drop h)⟩
    · rintro (h | ⟨h, _⟩)
      · exact .inr (.inl h)
      · rw [← List.take_append_drop (at16 l k) l, List.mem_append] at h
        exact h.imp id .inr
set_option maxHeartbeats 1000000 in
/-- From the appended bytes on. -/
theorem app16 {wa w1 w2 : World} {b m : Nat} {S : List Nat} {σ : D16} {sl : Nat → Value} (hok : Ok16 σ) (hb : b ∈ S) (hlt : ∀ x ∈ S, x < wa.heap.size)
    (hI : Is wa b 54 #[.int .i64 (σ.limit : Nat), .map (some m), .int .i64 (size16 σ.l : Nat), .int .i64 (σ.steps : Nat), .int .i64 (σ.armed : Nat), .bool σ.dead]) (hF : Fl wa (some m) sl S σ.l) {k : Nat} (hk : k ≤ 65535)
    {A A' : Option Addr} {n c c' s : Nat} (hlk : lk16 sl σ.l k = .agg #[.slice A n c, .int .i64 (s : Nat)]) {str : List UInt8} (hfit : size16 σ.l + str.length ≤ σ.limit)
    (hown : OwnF w1 0 (.slice A' (n + str.length) c') (get16 σ.l k ++ str)) (hgrow : (wa.alloc (.cells #[.slice A n c, .int .i64 (s : Nat)] 60)).grownBy w1 (Value.slice A n c).ownBlock)
    (hblk : ∀ g, (Value.slice A' (n + str.length) c').ownBlock = some g → (Value.slice A n c).ownBlock = some g ∨ (wa.alloc (.cells #[.slice A n c, .int .i64 (s : Nat)] 60)).heap.size ≤ g)
    (hw2 : w2 = w1.setCell ⟨wa.heap.size, 0, none⟩ (.slice A' (n + str.length) c')) :
    Is w1 wa.heap.size 60 #[.slice A n c, .int .i64 (s : Nat)] ∧ Is w2 wa.heap.size 60 #[.slice A' (n + str.length) c', .int .i64 (s : Nat)] ∧
    Is w2 b 54 #[.int .i64 (σ.limit : Nat), .map (some m), .int .i64 (size16 σ.l : Nat), .int .i64 (σ.steps : Nat), .int .i64 (σ.armed : Nat), .bool σ.dead] ∧
    ∃ w3, (Instr.mapUpdate 52 (.map (some m)) (.int .i64 (k : Nat)) (.agg #[.slice A' (n + str.length) c', .int .i64 (s : Nat)])).run Try.prog w2.drew = .ok () w3 ∧
      Is w3 b 54 #[.int .i64 (σ.limit : Nat), .map (some m), .int .i64 (size16 σ.l : Nat), .int .i64 (σ.steps : Nat), .int .i64 (σ.armed : Nat), .bool σ.dead] ∧
      ∃ S', PD (w3.setCell ⟨b, 2, none⟩ (.int .i64 ((size16 σ.l + str.length : Nat) : Int))) b S' (with16 σ (put16 σ.l k str)) ∧ But S wa (w3.setCell ⟨b, 2, none⟩ (.int .i64 ((size16 σ.l + str.length : Nat) : Int))) ∧ ∀ x ∈ S', x ∈ S ∨ wa.heap.size ≤ x := by
  obtain ⟨v, s', hlk', hown0, hvS, hfile, hno⟩ := hF.got hok.rise k
  rw [hlk] at hlk'
  obtain ⟨rfl, rfl⟩ : Value.slice A n c = v ∧ s = s' := by
    have e := Value.agg.inj hlk'
    have e1 := congrArg (fun a : Array Value => a[0]?) e
    have e2 := congrArg (fun a : Array Value => a[1]?) e
    simp at e1 e2
    exact ⟨e1, by omega⟩
  have hoff := hF.off hI (by decide)
  have hmoff := own_map_ne hown0 (hF.hasmap m rfl).2
  -- what the append may have written
  have hT : But (Value.slice A n c).ownBlock.toList wa w1 := ((But.refl _ wa).alloc _).grown hgrow fun g e => .inl (by simp [e])
  have hvlt : ∀ g, (Value.slice A n c).ownBlock = some g → g < wa.heap.size := fun g e => hlt g (hvS g e)
  have hbx : Is w1 wa.heap.size 60 #[.slice A n c, .int .i64 (s : Nat)] := (Is.fresh wa _ _).grown hgrow fun e => by have := hvlt _ e.symm; omega
  have hbx2 : Is w2 wa.heap.size 60 #[.slice A' (n + str.length) c', .int .i64 (s : Nat)] := by rw [hw2]; exact hbx.put 0 _
  have hT2 : But (Value.slice A n c).ownBlock.toList wa w2 := by rw [hw2]; exact hT.setCell (.inr (Nat.le_refl _)) _
  have hvb : ∀ g, (Value.slice A n c).ownBlock = some g → g ≠ b := fun g e => by
    cases hh : has16 σ.l k with
    | true =>
      obtain ⟨f, hf, hfk⟩ := has16_iff.1 hh
      obtain ⟨e1, _, _⟩ := hfile f hf hfk
      rw [e1, ← hfk] at e
      exact hoff.2 f hf g e
    | false => rw [(hno hh).1] at e; cases e
  have hvother : ∀ f ∈ σ.l, f.num ≠ k → ∀ g, (Value.slice A n c).ownBlock = some g → (sl f.num).ownBlock ≠ some g := fun f hf hne g e => by
    cases hh : has16 σ.l k with
    | true =>
      obtain ⟨f', hf', hfk⟩ := has16_iff.1 hh
      obtain ⟨e1, _, _⟩ := hfile f' hf' hfk
      rw [e1, ← hfk] at e
      exact hF.apart f' hf' f hf (by rw [hfk]; exact Ne.symm hne) g e
    | false => rw [(hno hh).1] at e; cases e
  have hI2 : Is w2 b 54 #[.int .i64 (σ.limit : Nat), .map (some m), .int .i64 (size16 σ.l : Nat), .int .i64 (σ.steps : Nat), .int .i64 (σ.armed : Nat), .bool σ.dead] := hI.but hT2 fun e => by
    rw [Option.mem_toList] at e
    exact hvb b e rfl
  have hown2 : OwnF w2.drew 0 (.slice A' (n + str.length) c') (get16 σ.l k ++ str) := by
    have : But [wa.heap.size] w1 w2.drew := by rw [hw2]; exact ((But.refl _ w1).setCell (.inl (by simp)) _).drew
    refine hown.butS this fun g e => ?_
    have : g ≠ wa.heap.size := by
      rintro rfl
      rcases hblk _ e with h1 | h1
      · have := hvlt _ h1; omega
      · simp at h1; omega
    simpa using this
  have hmem := mem_put16 (s := str) (y := s) hok.rise (fun f hf e => ⟨(hfile f hf e).2.1, (hfile f hf e).2.2⟩) (fun e => ⟨(hno e).2.1, (hno e).2.2⟩)
  have hr' := put16_rise (n := k) (s := str) hok.rise
  have hsz := size16_put (n := k) (s := str) hok.rise
  have hok' : Ok16 (with16 σ (put16 σ.l k str)) := ⟨hr', fun f hf => by
    rcases (hmem f).1 hf with rfl | ⟨hf, _⟩
    · show s ≤ (get16 σ.l k ++ str).length
      rw [List.length_append]
      cases hh : has16 σ.l k with
      | true =>
        obtain ⟨f', hf', hfk⟩ := has16_iff.1 hh
        obtain ⟨_, e1, e2⟩ := hfile f' hf' hfk
        have := hok.syn f' hf'
        rw [e1, e2]; omega
      | false => rw [(hno hh).2.1]; exact Nat.zero_le _
    · exact hok.syn f hf, fun f hf => by
    rcases (hmem f).1 hf with rfl | ⟨hf, _⟩
    · exact hk
    · exact hok.num f hf, by show size16 (put16 σ.l k str) ≤ σ.limit; rw [hsz]; exact hfit, hok.lim⟩
  obtain ⟨w3, hrun, hF3, hB3⟩ := hF.storeT (x := ⟨k, get16 σ.l k ++ str, s⟩) (l' := put16 σ.l k str) (v := .slice A' (n + str.length) c') (S' := S ++ (Value.slice A' (n + str.length) c').ownBlock.toList) hT2.drew
    (fun e => by rw [Option.mem_toList] at e; exact hmoff m e rfl)
    (fun f hf hne g e e2 => by rw [Option.mem_toList] at e2; exact hvother f hf hne g e2 e)
    (fun y hy => List.mem_append_left _ hy) hok.rise hr' hok.few hmem hk hown2
    (fun g e => ⟨List.mem_append_right _ (by rw [e]; simp), fun f hf hne e2 => by
      rcases hblk g e with h1 | h1
      · exact hvother f hf hne g h1 e2
      · have := hlt g ((hF.own f hf).2 g e2)
        simp at h1; omega⟩)
  have hmb : m ≠ b := hoff.1 m rfl
  have hI3 := hI2.drew.but hB3 (by simpa using Ne.symm hmb)
  refine ⟨hbx, hbx2, hI2, w3, hrun, hI3, S ++ (Value.slice A' (n + str.length) c').ownBlock.toList, ?_, ?_, fun x hx => ?_⟩
  · have hB4 : But [b] w3 (w3.setCell ⟨b, 2, none⟩ (.int .i64 ((size16 σ.l + str.length : Nat) : Int))) := (But.refl _ _).setCell (.inl (by simp)) _
    refine ⟨hok', List.mem_append_left _ hb, fun x hx => ?_, some m, sl16 sl k (.slice A' (n + str.length) c'), ?_, ?_⟩
    · have h12 : wa.heap.size ≤ w3.heap.size := Nat.le_trans hT2.size hB3.size
      rcases List.mem_append.1 hx with hx | hx
      · have := hlt x hx; simp; omega
      · rw [Option.mem_toList] at hx
        have := (World.ownsRow.lt hown2 x hx).2
        have h13 := hB3.size
        simp at this h13 ⊢; omega
    · have := hI3.put 2 (.int .i64 ((size16 σ.l + str.length : Nat) : Int))
      show Is _ b _ #[_, _, .int .i64 (size16 (put16 σ.l k str) : Nat), _, _, _]
      rw [hsz]
      exact this
    · have ho3 := hF3.off hI3 (by decide)
      exact hF3.butX hB4 (fun m e => by simpa using ho3.1 m e) fun f hf g e => by simpa using ho3.2 f hf g e
  · refine But.setCell ?_ (.inl hb) _
    refine (hT2.drew.more fun x hx => ?_).trans (hB3.more fun x hx => ?_)
    · rw [Option.mem_toList] at hx
      exact hvS x hx
    · rw [List.mem_singleton.1 hx]
      exact (hF.hasmap m rfl).1
  · rcases List.mem_append.1 hx with hx | hx
    · exact .inl hx
    · rw [Option.mem_toList] at hx
      rcases hblk x hx with h1 | h1
      · exact .inl (hvS x h1)
      · exact .inr (by simp at h1; omega)
end Go.Proofs.Ytchpincoddghfaa
set_option maxRecDepth 100000
set_option linter.unusedVariables false
namespace Go.Proofs.Ytchpincoddghfaa
set_option maxRecDepth 100000
open Go Go.RowKit Go.Maps
set_option maxHeartbeats 1000000 in
theorem pappend16_nil (w : World) (n : Int) (s : ByteArray) : Calls Try.prog 10 #[.pointer none, .int .i64 n, .string s] w fun e w' => e = .returned (.int .i64 2) ∧ But [] w w' := by
  have HW := Lib.hid (pcheck16_nil w n)
  go_enter Try.func10, Try.ntmps10
  go_wp2_with fail
  refine HW.out.mono ?_
  rintro e wz ⟨rfl, rfl⟩
  go_wp2
  go_ret
  exact ⟨rfl, But.refl [] _⟩
theorem map_some16 (m : Nat) (W : World) : (binOp BinOp.eql 52 (.map (some m)) (.map none)).run Try.prog W = .ok (.bool false) W := by kernel_rfl
theorem make_map16 (W : World) : (Instr.makeMap 52 none).run Try.prog W = .ok (.map (some W.heap.size)) (W.alloc (.map #[] 0)) := rfl
theorem map_none16 (W : World) : (binOp BinOp.eql 52 (.map none) (.map none)).run Try.prog W = .ok (.bool true) W := by kernel_rfl
/-- All that is wanted behind the making of the map. -/
theorem app16_fin {w wa : World} {b m : Nat} {S Sa : List Nat} {σ : D16} {sl : Nat → Value} (hok : Ok16 σ) (hde : σ.dead = false) (hs : σ.steps < 900000000000000) (ha : σ.armed ≤ 9223372036854775807) (hb : b ∈ Sa) (hlt : ∀ x ∈ Sa, x < wa.heap.size)
    (hI : Is wa b 54 #[.int .i64 (σ.limit : Nat), .map (some m), .int .i64 (size16 σ.l : Nat), .int .i64 (σ.steps : Nat), .int .i64 (σ.armed : Nat), .bool σ.dead]) (hF : Fl wa (some m) sl Sa σ.l) {k : Nat} (hk : k ≤ 65535) {str : List UInt8} (hfit : size16 σ.l + str.length ≤ σ.limit)
    (hB : But S w wa) (hS : ∀ x ∈ Sa, x ∈ S ∨ w.heap.size ≤ x) :
    ∃ (A : Option Addr) (n c s : Nat), n = (get16 σ.l k).length ∧ n ≤ 16777216 ∧ (Instr.lookup 52 (.map (some m)) (.int .i64 (k : Nat)) false).run Try.prog wa = .ok (.agg #[.slice A n c, .int .i64 (s : Nat)]) wa ∧
      OwnF (wa.alloc (.cells #[.slice A n c, .int .i64 (s : Nat)] 60)) 0 (.slice A n c) (get16 σ.l k) ∧
      ∀ A' c' w1, OwnF w1 0 (.slice A' (n + str.length) c') (get16 σ.l k ++ str) → (wa.alloc (.cells #[.slice A n c, .int .i64 (s : Nat)] 60)).grownBy w1 (Value.slice A n c).ownBlock →
        (∀ g, (Value.slice A' (n + str.length) c').ownBlock = some g → (Value.slice A n c).ownBlock = some g ∨ (wa.alloc (.cells #[.slice A n c, .int .i64 (s : Nat)] 60)).heap.size ≤ g) →
        w1.cell? ⟨wa.heap.size, 0, none⟩ = some (.slice A n c) ∧ w1.frozen? ⟨wa.heap.size, 0, none⟩ = false ∧ wa.heap.size < w1.heap.size ∧
        ∀ w2, w2 = w1.setCell ⟨wa.heap.size, 0, none⟩ (.slice A' (n + str.length) c') → w2.cell? ⟨wa.heap.size, 0, none⟩ = some (.slice A' (n + str.length) c') ∧ w2.cell? ⟨wa.heap.size, 1, none⟩ = some (.int .i64 (s : Nat)) ∧ wa.heap.size < w2.heap.size ∧ w2.cell? ⟨b, 1, none⟩ = some (.map (some m)) ∧ b < w2.heap.size ∧
        ∃ w3, (Instr.mapUpdate 52 (.map (some m)) (.int .i64 (k : Nat)) (.agg #[.slice A' (n + str.length) c', .int .i64 (s : Nat)])).run Try.prog w2.drew = .ok () w3 ∧
          w3.cell? ⟨b, 2, none⟩ = some (.int .i64 (size16 σ.l : Nat)) ∧ w3.frozen? ⟨b, 2, none⟩ = false ∧ b < w3.heap.size ∧
          Calls Try.prog 35 #[.pointer (some ⟨b, 0, none⟩)] (w3.setCell ⟨b, 2, none⟩ (.int .i64 ((size16 σ.l + str.length : Nat) : Int))) fun e w' => e = .returned (.int .i64 (if (step16 σ).dead then 50 else 0)) ∧ Left PD w b S { step16 σ with l := put16 σ.l k str } w' := by
  obtain ⟨v, s, hlk, hown, _, hfile, hno⟩ := hF.got hok.rise k
  obtain ⟨A, c, rfl, _⟩ := own_sliceF hown
  have hl := hF.look hok.rise (n := k) hk
  rw [hlk] at hl
  have hle : (get16 σ.l k).length ≤ 16777216 := by
    cases hh : has16 σ.l k with
    | true =>
      obtain ⟨f, hf, hfk⟩ := has16_iff.1 hh
      rw [(hfile f hf hfk).2.2]
      have := size16_mem hf
      have := hok.size
      have := hok.lim
      omega
    | false => rw [(hno hh).2.2]; exact Nat.zero_le _
  refine ⟨A, _, c, s, rfl, hle, hl, hown.but ((But.refl [] wa).alloc _), fun A' c' w1 h1 h2 h3 => ?_⟩
  have h0 := app16 (w2 := w1.setCell ⟨wa.heap.size, 0, none⟩ (.slice A' ((get16 σ.l k).length + str.length) c')) hok hb hlt hI hF hk hlk hfit h1 h2 h3 rfl
  refine ⟨h0.1.cell 0, h0.1.free 0, h0.1.lt, fun w2 hw2 => ?_⟩
  obtain ⟨h4, h5, h6, w3, hrun, h7, S', h8, h9, h10⟩ := app16 hok hb hlt hI hF hk hlk hfit h1 h2 h3 hw2
  refine ⟨h5.cell 0, h5.cell 1, h5.lt, h6.cell 1, h6.lt, w3, hrun, h7.cell 2, h7.free 2, h7.lt, ?_⟩
  refine (pstep16_any _ h8 hde hs ha).mono fun e w' hh => ⟨hh.1, S', hh.2.1, ?_, fun x hx => ?_⟩
  · have hB9 : But S w _ := hB.over16 h9 hS
    exact hB9.over16 hh.2.2 fun x hx => by
      rw [List.mem_singleton.1 hx]
      exact hS b hb
  · rcases h10 x hx with h | h
    · exact hS x h
    · exact .inr (Nat.le_trans hB.size h)
theorem wpList_append_s16n (w : World) {ops : Array Oper} {rest : List Oper} {o : Oper} {a : Act} {Q : Exit → Act → World → Prop} (hgd : o.guard = none) (sl x : Operand)
    (ho : o.op = .call { callee := .builtin .append, args := #[sl, x], argTypes := #[58, 9] })
    (v : Value) (L : List UInt8) (hs : a.eval sl = v) (hown : OwnF w 0 v L) (s : ByteArray) (hx : a.eval x = .string s) (n ln : Nat) (hn : n = L.length) (hln : ln = s.size) (hbound : n + ln ≤ 140737488355328)
    (h : ∀ A c w', Hid (OwnF w' 0 (.slice A (n + ln) c) (L ++ s.data.toList)) → Hid (w.grownBy w' v.ownBlock) → Hid (∀ g, (Value.slice A (n + ln) c).ownBlock = some g → v.ownBlock = some g ∨ w.heap.size ≤ g) → wpList Try.prog ops Q rest (a.put o.dst (.slice A (n + ln) c)) w') : wpList Try.prog ops Q (o :: rest) a w := by
  subst hn hln
  exact wpList_append_s16 w hgd sl x ho v L hs hown s hx hbound fun A c w' h1 h2 h3 => h A c w' (Lib.hid h1) (Lib.hid h2) (Lib.hid h3)
set_option maxHeartbeats 2000000 in
theorem pappend16_any (w : World) {b : Nat} {S : List Nat} {σ : D16} (h : PD w b S σ) (hs : σ.steps < 900000000000000) (ha : σ.armed ≤ 9223372036854775807) (n : Int) (s : ByteArray) (hsl : s.size ≤ 140737488355328) :
    Calls Try.prog 10 #[.pointer (some ⟨b, 0, none⟩), .int .i64 n, .string s] w fun e w' => e = .returned (.int .i64 (append16 σ n s.data.toList).2) ∧ Left PD w b S (append16 σ n s.data.toList).1 w' := by
  have HW := Lib.hid (pcheck16_any w h n)
  obtain ⟨str, hstr⟩ : ∃ x, x = s.data.toList := ⟨_, rfl⟩
  have hlen : str.length = s.size := by rw [hstr, Array.length_toList]; rfl
  have HStr := Lib.hid hstr
  rw [← hstr]
  by_cases h0 : wrong16 σ n = 0
  · obtain ⟨hd, hn0, hn1⟩ := wrong16_ok h0
    obtain ⟨k, rfl⟩ : ∃ k : Nat, n = (k : Int) := ⟨n.toNat, by omega⟩
    rw [h0] at HW
    obtain ⟨mb, sl, hI, hF⟩ := h.row
    have hsz := h.ok.size
    have hlim := h.ok.lim
    obtain ⟨c0, c1, c2, c3, c4, c5, hb⟩ := hI.cells6
    obtain ⟨sz, hsze⟩ : ∃ x, x = size16 σ.l := ⟨_, rfl⟩
    obtain ⟨lim, hlime⟩ : ∃ x, x = σ.limit := ⟨_, rfl⟩
    obtain ⟨ln, hln⟩ : ∃ x, x = s.size := ⟨_, rfl⟩
    obtain ⟨df, hdf⟩ : ∃ x, x = lim - sz := ⟨_, rfl⟩
    rw [← hsze] at c2
    rw [← hlime] at c0
    rw [← hsze, ← hlime] at hsz
    rw [← hlime] at hlim
    have e1 : (lim : Int) - (sz : Int) = (df : Int) := by omega
    have v1 := wrapI_in (show df < 1000000000000000 by omega)
    by_cases hov : df < s.size
    · have HR : Hid (append16 σ (k : Int) str = (σ, 51)) := Lib.hid (by unfold append16; rw [if_neg (fun e => e h0), if_pos (by rw [hlen, ← hsze, ← hlime]; omega)])
      rw [HR.out]
      have i1 : (df : Int) < (s.size : Int) := by omega
      have HL : Hid (Left PD w b S σ w.drew) := Lib.hid (h.left (But.refl [] w).drew)
      clear hI hF h h0 hd hsz hlim hsze hlime hln hdf HR hstr hov c1 c3 c4 c5
      go_enter Try.func10, Try.ntmps10
      go_wp2_with fail
      refine HW.out.mono ?_
      rintro e wz ⟨rfl, rfl⟩
      go_wp2
      go_region
      go_wp2
      go_ret
      exact ⟨rfl, HL.out⟩
    · have i1 : ¬ (df : Int) < (s.size : Int) := by omega
      have hfit : size16 σ.l + str.length ≤ σ.limit := by rw [hlen, ← hsze, ← hlime]; omega
      have HR : Hid (append16 σ (k : Int) str = ({ step16 σ with l := put16 σ.l k str }, if (step16 σ).dead then 50 else 0)) := Lib.hid (by unfold append16; rw [if_neg (fun e => e h0), if_neg (by omega), Int.toNat_natCast])
      rw [HR.out]
      cases hm : mb with
      | some m =>
        rw [hm] at hI hF c1
        obtain ⟨A, n, c, y, hn, hn16, hl, hown, hap⟩ := app16_fin (w := w) (wa := w.drew) (S := S) h.ok hd hs ha h.mem h.lt hI.drew (hF.butX (But.refl [] w).drew (fun _ _ => by simp) (fun _ _ _ _ => by simp)) (k := k) (by omega) hfit (But.refl S w).drew (fun x hx => .inl hx)
        obtain ⟨τ, hτ⟩ : ∃ x : D16, x = { step16 σ with l := put16 σ.l k str } := ⟨_, rfl⟩
        obtain ⟨re, hre⟩ : ∃ x : Int, x = if (step16 σ).dead then 50 else 0 := ⟨_, rfl⟩
        rw [← hτ, ← hre] at hap ⊢
        have HAP := Lib.hid hap
        have HOWN := Lib.hid hown
        obtain ⟨L, hL⟩ : ∃ x, x = get16 σ.l k := ⟨_, rfl⟩
        rw [← hL] at hn HAP HOWN
        obtain ⟨wa, hwa⟩ : ∃ x, x = w.drew := ⟨_, rfl⟩
        rw [← hwa] at HAP HOWN hl
        have k1 := Lib.hid (show wa.cell? ⟨b, 1, none⟩ = some (.map (some m)) by rw [hwa]; exact c1)
        have kb := Lib.hid (show b < wa.heap.size by rw [hwa]; exact hb)
        have HN := Lib.hid hn
        have HLN := Lib.hid (hlen.trans hln.symm)
        obtain ⟨tot, htot⟩ : ∃ x, x = size16 σ.l + str.length := ⟨_, rfl⟩
        rw [← htot] at HAP
        rw [hlen, ← hln] at HAP
        have hlb : ln ≤ 16777216 := by omega
        have e2 : (sz : Int) + (s.size : Int) = (tot : Int) := by omega
        have v2 := wrapI_in (show tot < 1000000000000000 by omega)
        rw [← hsze] at HAP
        have HSS := Lib.hid hln
        have i2 : decide (df < s.size) = false := by simpa using hov
        have im := map_some16 m
        have HEQ := Lib.hid HStr.out
        clear hI hF h h0 hd hsz hlim hlime hdf HR hstr hov c1 c3 c4 c5 hn hap hown hL hfit hlen hln htot hsze hm HStr hτ hre
        go_enter Try.func10, Try.ntmps10
        go_wp2_with fail
        refine HW.out.mono ?_
        rintro e wz ⟨rfl, rfl⟩
        go_wp2
        go_region
        rw [← hwa]
        clear hwa c0 c2 hb
        have k1 := k1.out
        have kb := kb.out
        go_wp2_with (at_builtin; refine wpList_append_s16n _ rfl _ _ rfl (.slice A n c) L rfl HOWN.out s rfl n ln HN.out HSS.out (by omega) ?_; intro A9 c9 w9 hO9 hG9 hB9; obtain ⟨g1, g2, g3, HR2⟩ := HAP.out A9 c9 w9 (by rw [HEQ.out]; exact hO9.out) hG9.out hB9.out; have HR2 := Lib.hid HR2; clear hO9 hG9 hB9)
        obtain ⟨w2, hw2⟩ : ∃ x, x = w9.setCell ⟨wa.heap.size, 0, none⟩ (.slice A9 (n + ln) c9) := ⟨_, rfl⟩
        obtain ⟨p1, p2, p3, p4, p5, w3, hrun, p6, p7, p8, hS⟩ := HR2.out w2 hw2
        have HS := Lib.hid hS
        rw [← hw2]
        clear hw2 hS HR2 g1 g2 g3 HAP HOWN
        go_region
        go_wp2_with fail
        refine HS.out.mono ?_
        rintro e w' ⟨rfl, hL⟩
        have HL := Lib.hid hL
        clear hL
        go_wp2
        go_ret
        exact ⟨rfl, HL.out⟩
      | none =>
        rw [hm] at hI hF c1
        have hl0 : σ.l = [] := hF.nomap rfl
        obtain ⟨m, hmm⟩ : ∃ x, x = w.heap.size := ⟨_, rfl⟩
        obtain ⟨wa, hwa⟩ : ∃ x, x = ((w.setCell ⟨b, 1, none⟩ (.map (some m))).alloc (.map #[] 0)).drew := ⟨_, rfl⟩
        have hBA : But S w wa := by rw [hwa]; exact (((But.refl S w).setCell (.inl h.mem) _).alloc _).drew
        have hIA : Is wa b 54 #[.int .i64 (σ.limit : Nat), .map (some m), .int .i64 (size16 σ.l : Nat), .int .i64 (σ.steps : Nat), .int .i64 (σ.armed : Nat), .bool σ.dead] := by rw [hwa]; exact ((hI.put 1 _).alloc _).drew
        have hFA : Fl wa (some m) sl (w.heap.size :: S) σ.l := by
          rw [hl0]
          refine ⟨(fun e => by cases e), fun m' e => ?_, fun f hf => absurd hf List.not_mem_nil, fun f hf => absurd hf List.not_mem_nil⟩
          cases e
          refine ⟨by rw [hmm]; simp, ?_⟩
          have h1 := World.ownsMap_made (w.setCell ⟨b, 1, none⟩ (.map (some w.heap.size))) Try.prog 3 R16
          have e1 : (w.setCell ⟨b, 1, none⟩ (.map (some w.heap.size))).heap.size = w.heap.size := by simp
          rw [e1] at h1
          rw [hwa, hmm]
          exact h1
        have hltA : ∀ x ∈ w.heap.size :: S, x < wa.heap.size := fun x hx => by
          rw [hwa]
          rcases List.mem_cons.1 hx with rfl | hx
          · simp
          · have := h.lt x hx; simp; omega
        have hSA : ∀ x ∈ w.heap.size :: S, x ∈ S ∨ w.heap.size ≤ x := fun x hx => by
          rcases List.mem_cons.1 hx with rfl | hx
          · exact .inr (Nat.le_refl _)
          · exact .inl hx
        obtain ⟨A, n, c, y, hn, hn16, hl, hown, hap⟩ := app16_fin (w := w) (wa := wa) (S := S) (Sa := w.heap.size :: S) h.ok hd hs ha (List.mem_cons_of_mem _ h.mem) hltA hIA hFA (k := k) (by omega) hfit hBA hSA
        obtain ⟨τ, hτ⟩ : ∃ x : D16, x = { step16 σ with l := put16 σ.l k str } := ⟨_, rfl⟩
        obtain ⟨re, hre⟩ : ∃ x : Int, x = if (step16 σ).dead then 50 else 0 := ⟨_, rfl⟩
        rw [← hτ, ← hre] at hap ⊢
        have HAP := Lib.hid hap
        have HOWN := Lib.hid hown
        obtain ⟨L, hL⟩ : ∃ x, x = get16 σ.l k := ⟨_, rfl⟩
        rw [← hL] at hn HAP HOWN
        have k1 := Lib.hid (hIA.cell 1)
        have kb := Lib.hid hIA.lt
        have HN := Lib.hid hn
        have HLN := Lib.hid (hlen.trans hln.symm)
        obtain ⟨tot, htot⟩ : ∃ x, x = size16 σ.l + str.length := ⟨_, rfl⟩
        rw [← htot] at HAP
        rw [hlen, ← hln] at HAP
        have hlb : ln ≤ 16777216 := by omega
        have e2 : (sz : Int) + (s.size : Int) = (tot : Int) := by omega
        have v2 := wrapI_in (show tot < 1000000000000000 by omega)
        rw [← hsze] at HAP
        have HSS := Lib.hid hln
        have i2 : decide (df < s.size) = false := by simpa using hov
        have im := map_none16
        have imk := make_map16
        have f1 := hI.free 1
        have HEQ := Lib.hid HStr.out
        clear hBA hIA hFA hltA hSA hl0 hI hF h h0 hd hsz hlim hlime hdf HR hstr hov c3 c4 c5 hn hap hown hL hfit hlen hln htot hsze hm HStr hτ hre
        go_enter Try.func10, Try.ntmps10
        go_wp2_with fail
        refine HW.out.mono ?_
        rintro e wz ⟨rfl, rfl⟩
        go_wp2
        go_region
        clear c0 c2
        go_upto_region 8 with (fail)
        rw [hmm] at hwa
        rw [← hwa]
        clear hwa hb c1 f1 hmm
        have k1 := k1.out
        have kb := kb.out
        go_wp2_with (at_builtin; refine wpList_append_s16n _ rfl _ _ rfl (.slice A n c) L rfl HOWN.out s rfl n ln HN.out HSS.out (by omega) ?_; intro A9 c9 w9 hO9 hG9 hB9; obtain ⟨g1, g2, g3, HR2⟩ := HAP.out A9 c9 w9 (by rw [HEQ.out]; exact hO9.out) hG9.out hB9.out; have HR2 := Lib.hid HR2; clear hO9 hG9 hB9)
        obtain ⟨w2, hw2⟩ : ∃ x, x = w9.setCell ⟨wa.heap.size, 0, none⟩ (.slice A9 (n + ln) c9) := ⟨_, rfl⟩
        obtain ⟨p1, p2, p3, p4, p5, w3, hrun, p6, p7, p8, hS⟩ := HR2.out w2 hw2
        have HS := Lib.hid hS
        rw [← hw2]
        clear hw2 hS HR2 g1 g2 g3 HAP HOWN
        go_region
        go_wp2_with fail
        refine HS.out.mono ?_
        rintro e w' ⟨rfl, hL⟩
        have HL := Lib.hid hL
        clear hL
        go_wp2
        go_ret
        exact ⟨rfl, HL.out⟩
  · have HR : Hid (append16 σ n str = (σ, wrong16 σ n)) := Lib.hid (by unfold append16; rw [if_pos h0])
    rw [HR.out]
    obtain ⟨r, hr⟩ : ∃ r, r = wrong16 σ n := ⟨_, rfl⟩
    rw [← hr] at HW h0 ⊢
    have q1 : (r != 0) = true := by simpa using h0
    have q2 : (r = 0) = False := by simpa using h0
    have HL : Hid (Left PD w b S σ w) := Lib.hid (h.left (But.refl [] w))
    clear hr h h0 HR hstr
    go_enter Try.func10, Try.ntmps10
    go_wp2_with fail
    refine HW.out.mono ?_
    rintro e wz ⟨rfl, rfl⟩
    go_wp2
    go_ret
    exact ⟨rfl, HL.out⟩
end Go.Proofs.Ytchpincoddghfaa
set_option maxRecDepth 100000
set_option linter.unusedVariables false
namespace Go.Proofs.Ytchpincoddghfaa
set_option maxRecDepth 100000
open Go Go.Shelf Go.RowKit Go.Maps Go.Sort
def keysA_ren : Go.Shelf.Ren := ⟨fun | 7 => 45 | 10 => 48 | n => n, fun | 23 => 52 | 26 => 3 | 3 => 60 | 28 => 71 | 0 => 0 | 27 => 70 | 33 => 51 | 4 => 4 | n => n, fun | n => n⟩
theorem keysA : SlLaysZI.n7 Try.prog keysA_ren := {
  mixed := by kernel_rfl
  f7 := ⟨Try.f45.name, by decide, Try.func45.trans (congrArg some (by kernel_rfl))⟩
  f10 := ⟨Try.f48.name, by decide, Try.func48.trans (congrArg some (by kernel_rfl))⟩
  t0 := Try.underlying0
  a0 := Try.isAgg0
  z0 := Try.sizeOf0
  v0 := Try.zeroValue0
  t4 := Try.underlying4
  a4 := Try.isAgg4
  z4 := Try.sizeOf4
  v4 := Try.zeroValue4
  t23 := Try.underlying52
  a23 := Try.isAgg52
  z23 := Try.sizeOf52
  v23 := Try.zeroValue52
  t26 := Try.underlying3
  a26 := Try.isAgg3
  z26 := Try.sizeOf3
  v26 := Try.zeroValue3
  t27 := Try.underlying70
  a27 := Try.isAgg70
  z27 := Try.sizeOf70
  v27 := Try.zeroValue70
  t28 := Try.underlying71
  a28 := Try.isAgg71
  z28 := Try.sizeOf71
  v28 := Try.zeroValue71
  t33 := Try.underlying51
  a33 := Try.isAgg51
  z33 := Try.sizeOf51
  v33 := Try.zeroValue51 }
def sortedA_ren : Go.Shelf.Ren := ⟨fun | 6 => 44 | 8 => 46 | 9 => 47 | 11 => 49 | 13 => 51 | 12 => 50 | 23 => 61 | 24 => 62 | 14 => 52 | 15 => 53 | 16 => 54 | 17 => 55 | 18 => 56 | 19 => 57 | 20 => 58 | 21 => 59 | 22 => 60 | 25 => 63 | 26 => 64 | 27 => 65 | 28 => 66 | 29 => 67 | 30 => 68 | 31 => 69 | n => n, fun | 26 => 3 | 28 => 71 | 24 => 31 | 0 => 0 | 3 => 3 | 37 => 77 | 48 => 86 | 50 => 88 | 4 => 4 | 40 => 80 | 39 => 79 | 45 => 62 | 5 => 5 | 9 => 9 | 51 => 89 | 55 => 93 | 57 => 95 | 58 => 96 | 33 => 51 | n => n, fun | n => n⟩
theorem sortedA : SlLaysZI.n6 Try.prog sortedA_ren := {
  mixed := by kernel_rfl
  f6 := ⟨Try.f44.name, by decide, Try.func44.trans (congrArg some (by kernel_rfl))⟩
  f8 := ⟨Try.f46.name, by decide, Try.func46.trans (congrArg some (by kernel_rfl))⟩
  f11 := ⟨Try.f49.name, by decide, Try.func49.trans (congrArg some (by kernel_rfl))⟩
  t0 := Try.underlying0
  a0 := Try.isAgg0
  z0 := Try.sizeOf0
  v0 := Try.zeroValue0
  t24 := Try.underlying31
  a24 := Try.isAgg31
  z24 := Try.sizeOf31
  v24 := Try.zeroValue31
  t26 := Try.underlying3
  a26 := Try.isAgg3
  z26 := Try.sizeOf3
  v26 := Try.zeroValue3
  t28 := Try.underlying71
  a28 := Try.isAgg71
  z28 := Try.sizeOf71
  v28 := Try.zeroValue71
  i26 := by kernel_rfl }
def sortA_ren : Go.Shelf.Ren := ⟨fun | 5 => 47 | 8 => 51 | 7 => 50 | 19 => 61 | 20 => 62 | 10 => 52 | 11 => 53 | 12 => 54 | 13 => 55 | 14 => 56 | 15 => 57 | 16 => 58 | 17 => 59 | 18 => 60 | 30 => 63 | 31 => 64 | 32 => 65 | 33 => 66 | 34 => 67 | 35 => 68 | 40 => 69 | n => n, fun | 23 => 31 | 25 => 3 | 3 => 3 | 32 => 77 | 22 => 31 | 0 => 0 | 44 => 86 | 46 => 88 | 4 => 4 | 36 => 80 | 35 => 79 | 41 => 62 | 5 => 5 | 9 => 9 | 53 => 89 | 57 => 93 | 63 => 95 | 64 => 96 | n => n, fun | n => n⟩
theorem sortA : SlLaysM.n5 Try.prog sortA_ren := {
  mixed := by kernel_rfl
  f5 := ⟨Try.f47.name, by decide, Try.func47.trans (congrArg some (by kernel_rfl))⟩
  f7 := ⟨Try.f50.name, by decide, Try.func50.trans (congrArg some (by kernel_rfl))⟩
  f8 := Try.func51.trans (congrArg some (by kernel_rfl))
  f10 := ⟨Try.f52.name, by decide, Try.func52.trans (congrArg some (by kernel_rfl))⟩
  f11 := ⟨Try.f53.name, by decide, Try.func53.trans (congrArg some (by kernel_rfl))⟩
  f12 := ⟨Try.f54.name, by decide, Try.func54.trans (congrArg some (by kernel_rfl))⟩
  f13 := ⟨Try.f55.name, by decide, Try.func55.trans (congrArg some (by kernel_rfl))⟩
  f14 := ⟨Try.f56.name, by decide, Try.func56.trans (congrArg some (by kernel_rfl))⟩
  f15 := ⟨Try.f57.name, by decide, Try.func57.trans (congrArg some (by kernel_rfl))⟩
  f16 := ⟨Try.f58.name, by decide, Try.func58.trans (congrArg some (by kernel_rfl))⟩
  f17 := ⟨Try.f59.name, by decide, Try.func59.trans (congrArg some (by kernel_rfl))⟩
  f18 := ⟨Try.f60.name, by decide, Try.func60.trans (congrArg some (by kernel_rfl))⟩
  f19 := Try.func61.trans (congrArg some (by kernel_rfl))
  f20 := Try.func62.trans (congrArg some (by kernel_rfl))
  f30 := ⟨Try.f63.name, by decide, Try.func63.trans (congrArg some (by kernel_rfl))⟩
  f31 := Try.func64.trans (congrArg some (by kernel_rfl))
  f32 := Try.func65.trans (congrArg some (by kernel_rfl))
  f33 := ⟨Try.f66.name, by decide, Try.func66.trans (congrArg some (by kernel_rfl))⟩
  f34 := ⟨Try.f67.name, by decide, Try.func67.trans (congrArg some (by kernel_rfl))⟩
  f35 := ⟨Try.f68.name, by decide, Try.func68.trans (congrArg some (by kernel_rfl))⟩
  f40 := ⟨Try.f69.name, by decide, Try.func69.trans (congrArg some (by kernel_rfl))⟩
  t0 := Try.underlying0
  a0 := Try.isAgg0
  z0 := Try.sizeOf0
  v0 := Try.zeroValue0
  t3 := Try.underlying3
  a3 := Try.isAgg3
  z3 := Try.sizeOf3
  v3 := Try.zeroValue3
  t4 := Try.underlying4
  a4 := Try.isAgg4
  z4 := Try.sizeOf4
  v4 := Try.zeroValue4
  t5 := Try.underlying5
  a5 := Try.isAgg5
  z5 := Try.sizeOf5
  v5 := Try.zeroValue5
  t9 := Try.underlying9
  a9 := Try.isAgg9
  z9 := Try.sizeOf9
  v9 := Try.zeroValue9
  t22 := Try.underlying31
  a22 := Try.isAgg31
  z22 := Try.sizeOf31
  v22 := Try.zeroValue31
  t23 := Try.underlying31
  a23 := Try.isAgg31
  z23 := Try.sizeOf31
  v23 := Try.zeroValue31
  t25 := Try.underlying3
  a25 := Try.isAgg3
  z25 := Try.sizeOf3
  v25 := Try.zeroValue3
  t32 := Try.underlying77
  a32 := Try.isAgg77
  z32 := Try.sizeOf77
  v32 := Try.zeroValue77
  t35 := Try.underlying79
  a35 := Try.isAgg79
  z35 := Try.sizeOf79
  v35 := Try.zeroValue79
  t36 := Try.underlying80
  a36 := Try.isAgg80
  z36 := Try.sizeOf80
  v36 := Try.zeroValue80
  t41 := Try.underlying62
  a41 := Try.isAgg62
  z41 := Try.sizeOf62
  v41 := Try.zeroValue62
  t44 := Try.underlying86
  a44 := Try.isAgg86
  z44 := Try.sizeOf86
  v44 := Try.zeroValue86
  t46 := Try.underlying88
  a46 := Try.isAgg88
  z46 := Try.sizeOf88
  v46 := Try.zeroValue88
  t53 := Try.underlying89
  a53 := Try.isAgg89
  z53 := Try.sizeOf89
  v53 := Try.zeroValue89
  t57 := Try.underlying93
  a57 := Try.isAgg93
  z57 := Try.sizeOf93
  v57 := Try.zeroValue93
  t63 := Try.underlying95
  a63 := Try.isAgg95
  z63 := Try.sizeOf95
  v63 := Try.zeroValue95
  t64 := Try.underlying96
  a64 := Try.isAgg96
  z64 := Try.sizeOf96
  v64 := Try.zeroValue96 }
/-- slices.Sort's two contracts at this program, at the fence that asks nothing. -/
theorem sorts16 (m : Nat) : AnyZI.SortsIn Try.prog sortedA_ren Fence.wide m :=
  ⟨fun blk off cap ss W hH hblk hsz => callsIn_wide.2 (AnyM.slices_Sort_int sortA blk off cap ss W hH hblk hsz),
   fun p cap W => callsIn_wide.2 (AnyM.slices_Sort_int_none sortA p cap W)⟩
end Go.Proofs.Ytchpincoddghfaa
set_option maxRecDepth 100000
set_option linter.unusedVariables false
namespace Go.Proofs.Ytchpincoddghfaa
set_option maxRecDepth 100000
open Go Go.Shelf Go.RowKit Go.Maps Go.Sort
theorem pkeys16_any (mb : Option Nat) (W : World) : Calls Try.prog 45 #[.map mb] W fun e w' => e = .returned (.func (.func 48) #[] #[.pointer (some ⟨W.heap.size, 0, none⟩)]) ∧ w' = W.alloc (.cells #[.map mb] 52) :=
  (callsIn_wide (n := 5)).1 (AnyZI.keys_in keysA Fence.wide 5 trivial rfl mb W)
set_option maxHeartbeats 1000000 in
theorem psorted16_any (w : World) {b nn : Nat} {D0 : DataW Value} {R : Value → Option (DataW Value × List MemPlace)} (hown : w.ownsMap Try.prog 3 R b nn D0) (hmax : Maps.size D0 ≤ maxLen) (hbytes : Maps.size D0 * 8 ≤ 140737488355328) :
    Calls Try.prog 44 #[.func (.func 48) #[] #[.pointer (some ⟨w.heap.size, 0, none⟩)]] (w.alloc (.cells #[.map (some b)] 52)) fun e w' => ∃ (v : Value) (ss : List Int), e = .returned v ∧ ss.Perm (intKeys D0) ∧
      w'.ownsRow (w.alloc (.cells #[.map (some b)] 52)).heap.size 3 1 v ss.length ((ss.mergeSort (fun x y => decide (x ≤ y))).map encZ) ∧ (v = .slice none 0 0 ↔ ss = []) ∧ Below (w.alloc (.cells #[.map (some b)] 52)).heap.size (w.alloc (.cells #[.map (some b)] 52)) w' := by
  refine (callsIn_wide (n := 5)).1 ?_
  have hbl := hown.lt
  have hseq : SeqGives Fence.wide 2 Try.prog 48 #[.pointer (some ⟨w.heap.size, 0, none⟩)] encZ (fun ss => ss.Perm (intKeys D0)) (Maps.size D0) (w.alloc (.cells #[.map (some b)] 52)) :=
    AnyZI.keys_gives (ρ := keysA_ren) { keysA with } Fence.wide _ trivial rfl (by omega) w.heap.size b nn D0 _ (by simp) (by simp) (by
      obtain ⟨es, clock, hb, Ft, hs, hD⟩ := hown
      exact ⟨es, clock, (Below.heap_alloc _ _ b hbl).trans hb, Ft, hs, hD⟩)
  have cS := AnyZI.sorted_in sortedA Fence.wide 5 trivial trivial trivial trivial rfl (by omega) (sorts16 _) (enters_of Try.func47 (by kernel_rfl) rfl) 48 #[.pointer (some ⟨w.heap.size, 0, none⟩)] trivial (enters_of Try.func48 (by kernel_rfl) rfl) _ _ hmax hbytes _ hseq
  exact cS
set_option maxHeartbeats 1000000 in
theorem psorted16_none (w : World) :
    Calls Try.prog 44 #[.func (.func 48) #[] #[.pointer (some ⟨w.heap.size, 0, none⟩)]] (w.alloc (.cells #[.map none] 52)) fun e w' => ∃ (v : Value) (ss : List Int), e = .returned v ∧ ss = [] ∧
      w'.ownsRow (w.alloc (.cells #[.map none] 52)).heap.size 3 1 v ss.length ((ss.mergeSort (fun x y => decide (x ≤ y))).map encZ) ∧ (v = .slice none 0 0 ↔ ss = []) ∧ Below (w.alloc (.cells #[.map none] 52)).heap.size (w.alloc (.cells #[.map none] 52)) w' := by
  refine (callsIn_wide (n := 5)).1 ?_
  have hseq : SeqGives Fence.wide 2 Try.prog 48 #[.pointer (some ⟨w.heap.size, 0, none⟩)] encZ (fun ss : List Int => ss = []) 0 (w.alloc (.cells #[.map none] 52)) :=
    AnyZI.keys_gives_nil (ρ := keysA_ren) { keysA with } Fence.wide _ trivial rfl w.heap.size _ (by simp) (by simp)
  have cS := AnyZI.sorted_in sortedA Fence.wide 5 trivial trivial trivial trivial rfl (by omega) (sorts16 _) (enters_of Try.func47 (by kernel_rfl) rfl) 48 #[.pointer (some ⟨w.heap.size, 0, none⟩)] trivial (enters_of Try.func48 (by kernel_rfl) rfl) _ 0 (Nat.zero_le _) (by omega) _ hseq
  exact cS
theorem keys_DM (sl : Nat → Value) (l : List F16) : intKeys (DM sl l) = l.map fun f => (f.num : Int) := by
  unfold DM es16
  change List.map _ (List.map _ l) = _
  rw [List.map_map]
  rfl
theorem sorted_DM {sl : Nat → Value} {l : List F16} (hr : l.Pairwise fun a b => a.num < b.num) {ss : List Int} (h : ss.Perm (intKeys (DM sl l))) : (ss.mergeSort (fun x y => decide (x ≤ y))).map encZ = nCells (l.map (·.num)) ∧ ss.length = (l.map (·.num)).length := by
  have h1 : ss.mergeSort (fun x y => decide (x ≤ y)) = l.map fun f => (f.num : Int) := by
    rw [mergeSort_of_perm_i h, keys_DM]
    refine List.mergeSort_of_pairwise ?_
    rw [List.pairwise_map]
    exact hr.imp fun {a b} hab => by simp only [leI, decide_eq_true_eq]; omega
  refine ⟨?_, ?_⟩
  · rw [h1]
    unfold nCells
    rw [List.map_map, List.map_map]
    rfl
  · rw [h.length_eq, keys_DM, List.length_map, List.length_map]
set_option maxHeartbeats 1000000 in
theorem pfiles16_any (w : World) {b : Nat} {S : List Nat} {σ : D16} (h : PD w b S σ) :
    Calls Try.prog 26 #[.pointer (some ⟨b, 0, none⟩)] w fun e w' => ∃ v, e = .returned v ∧ OwnN w' w.heap.size v (σ.l.map (·.num)) ∧ But [] w w' := by
  obtain ⟨mb, sl, hI, hF⟩ := h.row
  have hfew := h.ok.few
  have HS : Hid (Calls Try.prog 44 #[.func (.func 48) #[] #[.pointer (some ⟨w.heap.size, 0, none⟩)]] (w.alloc (.cells #[.map mb] 52)) fun e w' => ∃ v, e = .returned v ∧ OwnN w' w.heap.size v (σ.l.map (·.num)) ∧ But [] w w') := Lib.hid (by
    have hB : ∀ {w' : World}, Below (w.alloc (.cells #[.map mb] 52)).heap.size (w.alloc (.cells #[.map mb] 52)) w' → But [] w w' := fun hb => ⟨hb.os, hb.tape, hb.output, Nat.le_trans (by simp) hb.size, fun k hk _ => (hb.block k (by simp; omega)).trans (Below.heap_alloc w _ k hk)⟩
    cases hm : mb with
    | none =>
      rw [hm] at hB
      refine (psorted16_none w).mono ?_
      rintro e w' ⟨v, ss, rfl, rfl, hrow, _, hb⟩
      refine ⟨v, rfl, ?_, hB hb⟩
      rw [hF.nomap hm]
      unfold OwnN
      have := ownsRow_base_a hrow (show w.heap.size ≤ _ by simp)
      simpa [nCells] using this
    | some m =>
      rw [hm] at hB
      have hown := (hF.hasmap m hm).2
      refine (psorted16_any w hown (by rw [size_DM]; unfold maxLen; omega) (by rw [size_DM]; omega)).mono ?_
      rintro e w' ⟨v, ss, rfl, hp, hrow, _, hb⟩
      refine ⟨v, rfl, ?_, hB hb⟩
      obtain ⟨e1, e2⟩ := sorted_DM h.ok.rise hp
      rw [e1, e2] at hrow
      exact ownsRow_base_a hrow (show w.heap.size ≤ _ by simp))
  obtain ⟨c0, c1, c2, c3, c4, c5, hb⟩ := hI.cells6
  clear hI hF h hfew c0 c2 c3 c4 c5
  go_enter Try.func26, Try.ntmps26
  go_wp2_with fail
  refine (pkeys16_any mb w).mono ?_
  rintro e wk ⟨rfl, hwk⟩
  subst hwk
  go_wp2_with fail
  refine HS.out.mono ?_
  rintro e w1 ⟨v, rfl, hO, hB⟩
  have HO := Lib.hid hO
  have HB := Lib.hid hB
  clear hO hB
  go_wp2
  go_ret
  exact ⟨v, rfl, HO.out, HB.out⟩
end Go.Proofs.Ytchpincoddghfaa
