/- Several texts in one: BbJ, StO (what BandsJoins reach of them). -/
import Derived.Test.YtmdiilnipoblbaaDoorK01
import Derived.Test.YtmdiilnipoblbaaDoorK02
import Derived.Test.YtmdiilnipoblbaaDoorK04
import Derived.Test.YtmdiilnipoblbaaDoorK05
import Derived.Test.YtmdiilnipoblbaaDoorK06
import Derived.Test.YtmdiilnipoblbaaDoorK07
import Derived.Test.YtmdiilnipoblbaaDoorK14
import Derived.Test.YtmdiilnipoblbaaDoorK15
import Derived.Test.YtmdiilnipoblbaaDoorK21
import Derived.ArgAppend
import Derived.Below
import Derived.BigQuiet
import Derived.BigRegion
import Derived.Deep.AppendLies
import Derived.Deep.Cut
import Derived.Deep.CutBlock
import Derived.Deep.CutRange
import Derived.Deep.DeepCutAuto
import Derived.Deep.Draws
import Derived.Deep.LoopGhost
import Derived.Deep.QuietTactic
import Derived.Deep.RegionLaw
import Derived.Deep.RegionWith
import Derived.Deep.Slices
import Derived.Handy
import Derived.Laws.BitsAllLaws
import Derived.Laws.BitsLemmas
import Derived.Laws.BytesArg
import Derived.Laws.Cells
import Derived.Laws.Externs
import Derived.Laws.IdiomStrings
import Derived.Laws.MakeOwn
import Derived.Laws.OwnMore
import Derived.Laws.Rows
import Derived.Laws.StructEq
import Derived.Laws.Tables
import Derived.Lib.AppendStr
import Derived.Lib.BufferWrite
import Derived.Lib.Hide
import Derived.Lib.UnsafeStr
import Derived.Maps.AppendAt
import Derived.OpenShut
import Derived.OrdersHeld
import Derived.OrdersIn
import Derived.Outline
import Derived.OwnWalk
import Derived.OwnWalkIn
import Derived.ProofKit
import Derived.RangeFuncCalls
import Derived.RegionTactic
import Derived.Shelf.LaysM
import Derived.Shelf.Small.Wraps
import Derived.Shelf.Strconv.Clone
import Derived.Shelf.Strings.Builder1
import Derived.Shelf.Strings.BuilderF
import Derived.Shelf.Strings.Prefix
import Derived.Shelf.Strings.Repeat
import Derived.SizedLaws
import Derived.Sort.CutIn
import Derived.TacticsInMore
import Derived.Test.YtmdiilnipoblbaaDoorChecked
import Derived.WalkKit
set_option maxRecDepth 100000
set_option linter.unusedVariables false
set_option maxRecDepth 100000
set_option linter.unusedVariables false
namespace Go.Proofs.YtmdiilnipoblbaaDoor
set_option maxRecDepth 100000
open Go Go.RowKit
theorem made_noneS (w : World) : (w.alloc (.cells #[] 9)).ownsRow w.heap.size 9 1 (.slice (some ⟨w.heap.size, 0, none⟩) 0 0) 0 [] :=
  ⟨rfl, .inr ⟨w.heap.size, 0, #[], rfl, Nat.le_refl _, Is.fresh w 9 #[], Nat.le_refl _, Nat.zero_le _, rfl, rfl⟩⟩
theorem Sr.news {w : World} {g o n : Nat} {L : List ByteArray} (h : Sr w (some ⟨g, o, none⟩) n L) (hn : 0 < n) : ∀ j u, (stCells L)[j]? = some u → w.cell? ((⟨g, o, none⟩ : Addr).add j) = some u := by
  intro j u hu
  obtain ⟨g', o', e, _, hc⟩ := h.2 hn
  injection e with e
  injection e with e1 e2
  subst e1 e2
  have hj : j < L.length := by
    have := (List.getElem?_eq_some_iff.1 hu).1
    simpa [stCells] using this
  rw [Go.WideShapes.add_plain, hc j hj]
  simpa [stCells, hj] using hu
set_option maxHeartbeats 1000000 in
theorem bandsJoins_walk {s : ByteArray} {A : Option Addr} {n cap : Nat} {L : List ByteArray} {w : World} (hs : s.size ≤ 140737488351232) (hl : Sr w A n L ∧ ∀ (i : Nat) (c : ByteArray), L[i]? = some c → c.size ≤ 140737488351232) (hb : n * 16 ≤ 140737488351232) (hcap : n ≤ cap) (hnil : A = none → cap = 0) (hG : GK w) :
    Calls Tryd.prog 6 #[.string s, .slice A n cap] w fun e w' => e = .returned (.bool true) ∧ Below w.heap.size w w' := by
  replace hl := hl.1
  have HG := Lib.hid hG
  have HA := Lib.hid fun W hG => awake15_any W hG
  have HLEN := Lib.hid hl.1
  have hsl : s.data.toList.length ≤ 140737488351232 := by rw [Array.length_toList]; exact hs
  obtain ⟨i0, hi0, hz0, hz1, hz2⟩ := info_parts info_strS
  have hmade := made_noneS w
  have HP : Hid (∀ (v : World) (A' : Option Addr) (c' : Nat), GK v → Sr v A' n L → Calls Tryd.prog 19 #[.string s, .slice A' n c'] v fun e w' => e = .returned (.tuple #[.agg #[.int .i64 ((joinB s.data.toList (bl L)).1.1 : Nat), .int .i64 ((joinB s.data.toList (bl L)).1.2.1 : Nat), .string (strL (joinB s.data.toList (bl L)).1.2.2)], .int .i64 (joinB s.data.toList (bl L)).2]) ∧ But [] v w') := Lib.hid fun v A' c' hv h => by
    have e := pjoinB_any v hv hsl (c := c') h
    rw [strL_of] at e
    exact e
  have HE : Hid (∀ (v : World) (A' : Option Addr) (c' : Nat), Sr v A' n L → Calls Tryd.prog 20 #[.string s, .slice A' n c'] v fun e w' => e = .returned (.tuple #[.agg #[.int .i64 ((joinB s.data.toList (bl L)).1.1 : Nat), .int .i64 ((joinB s.data.toList (bl L)).1.2.1 : Nat), .string (strL (joinB s.data.toList (bl L)).1.2.2)], .int .i64 (joinB s.data.toList (bl L)).2]) ∧ But [] v w') := Lib.hid fun v A' c' h => by
    have e := ejoinB_any v hsl (c := c') h
    rw [strL_of] at e
    exact e
  obtain ⟨X, hX⟩ : ∃ z, z = (joinB s.data.toList (bl L)).1.1 := ⟨_, rfl⟩
  obtain ⟨Y, hY⟩ : ∃ z, z = (joinB s.data.toList (bl L)).1.2.1 := ⟨_, rfl⟩
  obtain ⟨Z, hZ⟩ : ∃ z, z = strL (joinB s.data.toList (bl L)).1.2.2 := ⟨_, rfl⟩
  obtain ⟨q, hq⟩ : ∃ z, z = (joinB s.data.toList (bl L)).2 := ⟨_, rfl⟩
  rw [← hX, ← hY, ← hZ, ← hq] at HP HE
  have HL := Lib.hid hl
  have kq : ∀ W, (binOp .eql 23 (.agg #[.int .i64 X, .int .i64 Y, .string Z]) (.agg #[.int .i64 X, .int .i64 Y, .string Z])).run Tryd.prog W = .ok (.bool true) W := fun W => by
    rw [ras_eql15]; simp
  clear hX hY hZ hq hG hsl
  go_enter Tryd.func6, Tryd.ntmps6
  go_upto_region 1 with (fail)
  go_cut [5] (fun v w1 => ∃ A' c', v = .slice A' n c' ∧ Sr w1 A' n L ∧ But [] w w1)
  case first =>
    by_cases h0 : n = 0
    · subst h0
      have hl0 : L = [] := List.eq_nil_of_length_eq_zero HLEN.out
      have HL0 := Lib.hid hl0
      have HNIL := Lib.hid hnil
      clear hl0 hl hnil kq
      go_wp2_with (at_builtin; refine wpList_append_fits_any _ rfl _ _ 24 rfl w.heap.size 9 i0 1 Tryd.underlying24 hi0 hz1 w.heap.size 0 0 [] rfl hmade A 0 cap [] rfl rfl (fun e => ⟨rfl, HNIL.out e⟩) (fun ad _ j u hu => by simp at hu) (by simp) (by omega) ?_; intro w1 hown hgrow)
      go_meet
      refine ⟨some ⟨w.heap.size, 0, none⟩, 0, rfl, ?_, ((But.refl [] w).alloc _).grown hgrow (fun g e => by injection e with e; subst e; exact .inr (Nat.le_refl _))⟩
      rw [HL0.out]; exact ⟨rfl, fun h => absurd h (by omega)⟩
    · obtain ⟨g, o, rfl, hg, _⟩ := hl.2 (by omega)
      have hnw := (hl.but ((But.refl [] w).alloc (.cells #[] 9))).news (by omega)
      have HNW := Lib.hid hnw
      clear hnw hl hnil kq
      go_wp2_with (at_builtin; refine wpList_append_own _ rfl _ _ 24 rfl w.heap.size 9 i0 _ 1 16 Tryd.underlying24 hi0 hz0 hz1 hz2 rfl (by decide) _ 0 [] rfl hmade ⟨g, o, none⟩ n cap (stCells L) rfl (by simp [stCells]; exact HLEN.out) HNW.out ?c2 ?c3 ?c4 ?c5 ?_)
      case c2 => intro u hu; obtain ⟨x, _, rfl⟩ := List.mem_map.1 hu; rfl
      case c3 => unfold maxLen at *; omega
      case c4 => omega
      case c5 => simp
      intro v' w1 hown hgrow _
      have hO : OwnSt w1 w.heap.size v' L := by
        unfold OwnSt
        rw [HLEN.out]
        simpa using hown
      obtain ⟨A4, c4, rfl, hS4⟩ := hO.srs
      rw [HLEN.out] at hS4
      have HS4 := Lib.hid hS4
      have HO4 := Lib.hid hO
      have HGR := Lib.hid hgrow
      rw [HLEN.out] at HO4 ⊢
      clear hown hgrow hO hS4
      go_wp2
      go_meet
      refine ⟨A4, c4, rfl, HS4.out, ((But.refl [] w).alloc _).grown HGR.out (fun g e => by
        have : w.heap.size = g := by simpa [Value.ownBlock] using e
        exact .inr (by omega))⟩
  case rest =>
    obtain ⟨w1, rfl⟩ : ∃ W : World, W = wc := ⟨_, rfl⟩
    obtain ⟨A', c', rfl, hO, hB⟩ := hcut
    have HO := Lib.hid hO
    have HB := Lib.hid hB
    have HG1 : Hid (∀ v, But [] w1 v → GK v) := Lib.hid fun v hv => (HG.out.but hB).but hv
    have HL1 := Lib.hid (HL.out.but hB)
    clear hmade hnil hl hO hB
    go_wp2_with fail
    refine (HP.out _ _ _ (HG1.out _ (But.refl [] _)) HO.out).mono ?_
    rintro e w2 ⟨rfl, hB2⟩
    have HB2 := Lib.hid (hB2.alloc (.cells #[.int .i64 X, .int .i64 Y, .string Z] 23))
    have HI2 := Lib.hid (Is.fresh w2 23 #[.int .i64 X, .int .i64 Y, .string Z])
    clear hB2
    go_wp2_with fail
    obtain ⟨g6, hg6⟩ : ∃ z, z = w2.heap.size := ⟨_, rfl⟩
    obtain ⟨w3, hw3⟩ : ∃ z, z = w2.alloc (.cells #[.int .i64 X, .int .i64 Y, .string Z] 23) := ⟨_, rfl⟩
    rw [← hw3] at HB2
    rw [← hw3, ← hg6] at HI2
    rw [← hw3, ← hg6]
    clear hw3 hg6
    refine (HE.out _ _ _ (HL1.out.but HB2.out)).mono ?_
    rintro e w4 ⟨rfl, hB4⟩
    have HI4 := Lib.hid ((HI2.out.but hB4 (by simp)).alloc (.cells #[.int .i64 X, .int .i64 Y, .string Z] 23))
    have HB4 := Lib.hid ((HB2.out.trans hB4).alloc (.cells #[.int .i64 X, .int .i64 Y, .string Z] 23))
    have HJ4 := Lib.hid (Is.fresh w4 23 #[.int .i64 X, .int .i64 Y, .string Z])
    clear hB4 HB2 HI2
    go_upto_region 4 with (fail)
    obtain ⟨g8, hg8⟩ : ∃ z, z = w4.heap.size := ⟨_, rfl⟩
    obtain ⟨w5, hw5⟩ : ∃ z, z = w4.alloc (.cells #[.int .i64 X, .int .i64 Y, .string Z] 23) := ⟨_, rfl⟩
    rw [← hw5] at HB4 HI4
    rw [← hw5, ← hg8] at HJ4
    rw [← hw5, ← hg8]
    clear hw5 hg8
    have c0 := HI4.out.cell 0
    have c1 := HI4.out.cell 1
    have c2 := HI4.out.cell 2
    have hgl := HI4.out.lt
    have d0 := HJ4.out.cell 0
    have d1 := HJ4.out.cell 1
    have d2 := HJ4.out.cell 2
    have hgm := HJ4.out.lt
    have HT := Lib.hid (texts_any w5 (c := c') (d := cap) (HO.out.but HB4.out) (HL1.out.but HB4.out) (by omega))
    go_wp2_with fail
    refine HT.out.mono ?_
    rintro e w6 ⟨rfl, hB6⟩
    have HB6 := Lib.hid (HB4.out.trans hB6)
    clear hB6 c0 c1 c2 d0 d1 d2 hgl hgm
    go_wp2_with fail
    refine (HA.out _ (HG1.out _ HB6.out)).mono ?_
    rintro e w7 ⟨rfl, hB7⟩
    have HB7 := Lib.hid (HB.out.trans (HB6.out.trans hB7))
    clear hB7
    go_wp2
    go_ret
    exact ⟨rfl, but_belowH HB7.out⟩
end Go.Proofs.YtmdiilnipoblbaaDoor
set_option maxRecDepth 100000
set_option linter.unusedVariables false
namespace Go.Proofs.YtmdiilnipoblbaaDoor
set_option maxRecDepth 100000
open Go Go.RowKit Go.ChangeShapes Go.WideShapes
theorem weightsAll_memS {H : Type} {P : Program} {e : TypeId} : ∀ {l : List (DataW H)} {d : DataW H}, d ∈ l → ∀ n ∈ d.weights P e, n ∈ DataW.weightsAll P e l
  | x :: l, d, hd, n, hn => by
    simp only [DataW.weightsAll, List.mem_append]
    rcases List.mem_cons.1 hd with rfl | hd
    · exact Or.inl hn
    · exact Or.inr (weightsAll_memS hd n hn)
theorem weights_sr {H : Type} {a : List UInt8} : (DataW.lit (.string a) : DataW H).weights Tryd.prog 9 = [a.length] := by
  simp only [DataW.weights]
theorem open_sr {H : Type} {enc : TypeId × Value → H} {W : World} {base : Nat} {v : Value} {d : DataW H} {p : List MemPlace} (hv : Value.okWide Tryd.prog W .any base 24 v)
    (hk : DataW.Trod enc Tryd.prog W 0 (fun _ => true) true 24 v d p) {ts : List TypeId} {ds : List (DataW H)} (hsz : (DataW.weightsEach Tryd.prog ts ds).all (· ≤ reachBytes) = true) {j : Nat} (ht : ts[j]? = some 24) (hd : ds[j]? = some d) :
    ∃ A len cap L, v = .slice A len cap ∧ (Sr W A len L ∧ ∀ (i : Nat) (c : ByteArray), L[i]? = some c → c.size ≤ 140737488351232) ∧ len * 16 ≤ 140737488351232 ∧ len ≤ cap ∧ (A = none → cap = 0) := by
  obtain ⟨a0, len, cap, rfl⟩ := okWide_slice Tryd.underlying24 hv
  obtain ⟨fuel, hf⟩ := hk
  rcases Deep.open_slice Tryd.underlying24 hf with ⟨hcs, _⟩ | ⟨a, len', cap', m, n, D, Pl, hcs, hb, hl, hm, hmm, hx, hi⟩
  · simp [Value.cells] at hcs
    obtain ⟨rfl, rfl, rfl⟩ := hcs
    exact ⟨none, 0, 0, [], rfl, ⟨⟨rfl, fun h => absurd h (by omega)⟩, fun i c h => by simp at h⟩, by omega, Nat.le_refl _, fun _ => rfl⟩
  · simp [Value.cells] at hcs
    obtain ⟨rfl, rfl, rfl⟩ := hcs
    have hmc : m = cap := by simpa using hmm
    rw [cells_strR] at hi
    have hr : reachBytes = 140737488351232 := rfl
    have hde : d = .slice ((List.range len).map D) ((List.range (m - len)).map fun j => D (len + j)) := (Prod.mk.inj hx).1
    have hbound : len * 16 ≤ 140737488351232 := by
      have h := sized_slice hsz (e := 9) ht (by rw [hd, hde]) Tryd.underlying24
      have hb8 : Tryd.prog.bytesOf 9 = 16 := by kernel_rfl
      rw [hb8, hr] at h
      simp only [List.length_map, List.length_range] at h
      omega
    have hel : ∀ i, i < len → ∃ q : ByteArray, W.cell? (a.add (i * 1 + 0)) = some (.string q) ∧ q.size ≤ 140737488351232 := by
      intro i hil
      obtain ⟨cs', h1, h2⟩ := hi i (by omega)
      obtain ⟨_, hlen, hat⟩ := World.cells?_some h1
      obtain ⟨x, rfl, hD, _⟩ := DataW.trod_string Tryd.underlying9 h2
      have hD : D i = .lit (.string x.data.toList) := (Prod.mk.inj hD).1
      have hw : x.data.toList.length ≤ reachBytes := by
        have hmem : D i ∈ (List.range len).map D := List.mem_map.2 ⟨i, List.mem_range.2 hil, rfl⟩
        have h1 := weightsAll_memS (P := Tryd.prog) (e := 9) hmem x.data.toList.length (by rw [hD, weights_sr]; exact List.mem_singleton.2 rfl)
        have h2 : x.data.toList.length ∈ d.weights Tryd.prog 24 := by
          rw [hde]
          simp only [DataW.weights, Tryd.underlying24, List.mem_cons, List.mem_append]
          exact Or.inr (Or.inl h1)
        have h3 := List.all_eq_true.1 hsz _ (DataW.weights_mem_each ht hd _ h2)
        simpa using h3
      rw [← Deep.add_add]
      refine ⟨x, by rw [hat 0 (by omega)]; rfl, ?_⟩
      rw [hr, Array.length_toList] at hw; exact hw
    obtain ⟨V, hV⟩ := Deep.choose_lt hel
    refine ⟨some a, len, cap, (List.range len).map V, rfl, ⟨⟨by simp, fun hp => ?_⟩, fun i c h => ?_⟩, hbound, by omega, fun e => by cases e⟩
    · obtain ⟨g, o, spot⟩ := a
      have hs : spot = none := by
        have := World.cell?_spot (hV 0 hp).1
        simpa [Addr.add] using this
      subst hs
      have hlt : g < W.heap.size := by
        have := World.block_lt_of_cell? W _ (hV 0 hp).1
        simpa [Addr.add] using this
      refine ⟨g, o, rfl, hlt, fun i hi => ?_⟩
      have hi' : i < len := by simpa using hi
      obtain ⟨c0, _⟩ := hV i hi'
      rw [add_plain] at c0
      simp only [List.getElem_map, List.getElem_range]
      rw [show o + (i * 1 + 0) = o + i by omega] at c0
      exact c0
    · have hil : i < len := by
        have := (List.getElem?_eq_some_iff.1 h).1
        simpa using this
      rw [List.getElem?_map, List.getElem?_range hil] at h
      have e : V i = c := by simpa using h
      rw [← e]
      exact (hV i hil).2
end Go.Proofs.YtmdiilnipoblbaaDoor
