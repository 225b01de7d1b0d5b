/- Coins and items in memory; the contract of a merge of coins and pairs. -/
import Derived.Test.YtmafcmfafcjokaaCodesW
import Derived.Test.YtmafcmfafcjokaaKraft
import Derived.OwnWalk
namespace Go.Proofs.Ytmafcmfafcjokaa
open Go Go.RowKit

/-- A slice reads as these coins: symbol and count. -/
def Coins (w : World) (A : Option Addr) (n : Nat) (cs : List (Nat × Nat)) : Prop :=
  cs.length = n ∧ (0 < n → ∃ g o, A = some ⟨g, o, none⟩ ∧ g < w.heap.size ∧ ∀ (i : Nat) (h : i < cs.length), w.cell? ⟨g, o + i * 2, none⟩ = some (.int .i64 cs[i].1) ∧ w.cell? ⟨g, o + i * 2 + 1, none⟩ = some (.int .i64 cs[i].2))
theorem Coins.but {w w' : World} {A : Option Addr} {n : Nat} {l : List (Nat × Nat)} {S : List Nat} (h : Coins w A n l) (hw : But S w w') (hA : ∀ k ∈ S, Off A k) : Coins w' A n l :=
  ⟨h.1, fun hn => by
    obtain ⟨g, o, e, hg, hc⟩ := h.2 hn
    exact ⟨g, o, e, Nat.lt_of_lt_of_le hg hw.size, fun i hi => ⟨hw.cell (hc i hi).1 (fun hS => hA g hS _ e rfl), hw.cell (hc i hi).2 (fun hS => hA g hS _ e rfl)⟩⟩⟩
theorem Coins.at {w : World} {A : Option Addr} {n : Nat} {l : List (Nat × Nat)} (h : Coins w A n l) {i : Nat} (hi : i < n) :
    ∃ g o, A = some ⟨g, o, none⟩ ∧ g < w.heap.size ∧ w.cell? ⟨g, o + i * 2, none⟩ = some (.int .i64 (l[i]'(by have := h.1; omega)).1) ∧ w.cell? ⟨g, o + i * 2 + 1, none⟩ = some (.int .i64 (l[i]'(by have := h.1; omega)).2) := by
  obtain ⟨g, o, e, hg, hc⟩ := h.2 (by omega)
  exact ⟨g, o, e, hg, hc i (by have := h.1; omega)⟩
/-- The cells of items. -/
def itemCells (r : List (Nat × Bool)) : List Value := r.flatMap fun x => [.int .i64 x.1, .bool x.2]
theorem itemCells_snoc (r : List (Nat × Bool)) (p : Nat) (b : Bool) : itemCells (r ++ [(p, b)]) = itemCells r ++ [.int .i64 p, .bool b] := by simp [itemCells]
theorem length_itemCells (r : List (Nat × Bool)) : (itemCells r).length = r.length * 2 := by
  induction r with
  | nil => rfl
  | cons x r ih => simp only [itemCells, List.flatMap_cons, List.length_append] at ih ⊢; rw [ih]; simp; omega
def OwnR (w : World) (base : Nat) (v : Value) (r : List (Nat × Bool)) : Prop := w.ownsRow base 96 2 v r.length (itemCells r)
theorem info_item : (Try.prog.info? 96).map (fun i => (i.zero, i.size, i.bytes)) = some (some (.agg #[.int .i64 0, .bool false]), 2, 16) := by kernel_rfl
theorem OwnR.but {w w' : World} {base : Nat} {v : Value} {l : List (Nat × Bool)} (h : OwnR w base v l) {S : List Nat} (hw : But S w w') (hS : ∀ k ∈ S, v.ownBlock ≠ some k) : OwnR w' base v l := by
  unfold OwnR at h ⊢
  refine ⟨h.1, ?_⟩
  rcases h.2 with h2 | ⟨g, cap, cur, hv, hg, hh, r⟩
  · exact .inl h2
  · refine .inr ⟨g, cap, cur, hv, hg, ?_, r⟩
    have hlt : g < w.heap.size := (h.lt g (by rw [hv]; rfl)).2
    rw [hw.block g hlt (fun hk => hS g hk (by rw [hv]; rfl))]
    exact hh
def nats (l : List Nat) : List Int := l.map fun s : Nat => (s : Int)

theorem Ints.empty (w : World) (A : Option Addr) : Ints w A 0 [] := ⟨rfl, fun h => absurd h (by omega)⟩
theorem Ints.tail {w : World} {g o n : Nat} {x : Int} {l : List Int} (h : Ints w (some ⟨g, o, none⟩) (n + 1) (x :: l)) : Ints w (some ⟨g, o + 1, none⟩) n l := by
  refine ⟨by have := h.1; simpa using this, fun hn => ?_⟩
  obtain ⟨g', o', e, hg, hc⟩ := h.2 (by omega)
  injection e with e
  injection e with e1 e2
  subst e1 e2
  refine ⟨g, o + 1, rfl, hg, fun i hi => ?_⟩
  have := hc (i + 1) (by simp; omega)
  rw [Nat.add_assoc, Nat.add_comm 1]
  simpa using this
theorem OwnR.pushed {w wr w1 wx : World} {g c k : Nat} {L : List (Nat × Bool)} {p : Nat} {b : Bool} {cs : Array Value} {t : TypeId} (hB : But [] w wr) (hk : L.length = k) (hx : wx = wr.alloc (.cells cs t)) (hg0 : w.heap.size ≤ g)
    (h1 : w1.ownsRow w.heap.size 96 2 (.slice (some ⟨g, 0, none⟩) (k + 1) c) (k + 1) (itemCells L ++ [.int .i64 p, .bool b])) (hg : wx.grownBy w1 (some g)) :
    OwnR w1 w.heap.size (.slice (some ⟨g, 0, none⟩) (k + 1) c) (L ++ [(p, b)]) ∧ But [] w w1 := by
  subst hx hk
  refine ⟨?_, (hB.alloc _).grown hg (fun g' e => by injection e with e; subst e; exact .inr hg0)⟩
  unfold OwnR
  rw [List.length_append, itemCells_snoc]
  exact h1

set_option maxRecDepth 100000 in
set_option maxHeartbeats 1000000 in
theorem merge_any {w : World} {A P : Option Addr} {n cap m cap2 : Nat} {cs : List (Nat × Nat)} {ws ps : List Nat} (hws : ws = cs.map (·.2)) (hc : Coins w A n cs) (hp : Ints w P m (nats ps)) (hn : n ≤ 1000) (hm : m ≤ 1000) (hmc : m ≤ cap2) :
    Calls Try.prog 47 #[.slice A n cap, .slice P m cap2] w fun e w' => e = .returned (.slice (some ⟨w.heap.size, 0, none⟩) (n + m) (n + m)) ∧ OwnR w' w.heap.size (.slice (some ⟨w.heap.size, 0, none⟩) (n + m) (n + m)) (mrg ws ps) ∧ But [] w w' := by
  obtain ⟨i0, hi0, hz0, hz1, hz2⟩ := info_parts info_item
  have hcl := hc.1
  have hpl := hp.1
  rw [nats, List.length_map] at hpl
  go_enter Try.func47, Try.ntmps47
  go_wp2_with (at_make; refine wpList_make_own _ rfl _ _ 94 rfl w.heap.size 96 i0 _ 2 Try.underlying94 hi0 hz0 hz1 _ _ _ (n + m) rfl rfl (by omega) (by rw [hz2]; omega) (by unfold maxLen; omega) (by simp) ?_; intro w1 hown hgrow)
  have hO1 : OwnR w1 w.heap.size (.slice (some ⟨w.heap.size, 0, none⟩) 0 (n + m)) [] := hown
  have hB1 : But [] w w1 := (But.refl [] w).grown hgrow (by simp)
  clear hown hgrow
  have hwl : ws.length = n := by rw [hws, List.length_map, hcl]
  go_loopw [1, 5, 18] (fun pv rv i wr => ∃ (k A' n' c' : _) (ps' : List Nat) (acc : List (Nat × Bool)), k ≤ n ∧ i = .int .i64 k ∧ pv = .slice A' n' c' ∧ n' ≤ c' ∧ n' ≤ m ∧ Ints w A' n' (nats ps') ∧
    rv = .slice (some ⟨w.heap.size, 0, none⟩) acc.length (n + m) ∧ OwnR wr w.heap.size (.slice (some ⟨w.heap.size, 0, none⟩) acc.length (n + m)) acc ∧ acc ++ mrg (ws.drop k) ps' = mrg ws ps ∧ But [] w wr) (fun _ _ i _ => n - (intOf i).toNat)
  case atStart => exact ⟨0, P, m, cap2, ps, [], Nat.zero_le _, rfl, rfl, hmc, Nat.le_refl _, hp, rfl, hO1, rfl, hB1⟩
  case round =>
    obtain ⟨k, A', n', c', ps', acc, hk, rfl, rfl, hnc, hnm, hI, rfl, hO, hacc, hB⟩ := hrel
    clear hO1 hB1
    by_cases hlt : k < n
    · obtain ⟨g, o, rfl, hg, hc0, hc1⟩ := hc.at hlt
      replace hc0 := hB.cell hc0 (by simp)
      replace hc1 := hB.cell hc1 (by simp)
      have hwk : ws.drop k = ws[k]'(by omega) :: ws.drop (k + 1) := List.drop_eq_getElem_cons (by omega)
      have hwe : ws[k]'(by omega) = (cs[k]'(by omega)).2 := by subst hws; simp
      rw [← hwe] at hc1
      generalize (cs[k]'(by omega)).1 = sy at *
      generalize ws[k]'(by omega) = cn at *
      have HWK := Lib.hid hwk
      rw [hwk] at hacc
      clear hwk hwe
      have hgl := (World.ownsRow.lt hO _ rfl).2
      obtain ⟨wo, rfl⟩ : ∃ wo : World, wo = wr := ⟨_, rfl⟩
      have HC := Lib.hid hc
      have HS := Lib.hid hws
      have HPM := Lib.hid hpl
      clear hc hws hcl hpl
      go_wp2
      have hbx : Is (wo.alloc (.cells #[.int .i64 sy, .int .i64 cn] 80)) wo.heap.size 80 #[.int .i64 sy, .int .i64 cn] := Is.fresh wo _ _
      have hO2 : OwnR (wo.alloc (.cells #[.int .i64 sy, .int .i64 cn] 80)) w.heap.size (.slice (some ⟨w.heap.size, 0, none⟩) acc.length (n + m)) acc := hO.but ((But.refl [] wo).alloc _) (by simp)
      have hB2 := hB.alloc (.cells #[.int .i64 sy, .int .i64 cn] 80)
      obtain ⟨bx, hbxe⟩ : ∃ bx, bx = wo.heap.size := ⟨_, rfl⟩
      have hbl : w.heap.size < bx := by omega
      rw [← hbxe] at hbx ⊢
      have HB0 := Lib.hid hbxe
      clear hO hB hc0 hc1 hbxe hgl
      go_loopw [1, 5] (fun pv rv wr => ∃ (A' n' c' : _) (ps' : List Nat) (acc : List (Nat × Bool)), pv = .slice A' n' c' ∧ n' ≤ c' ∧ n' ≤ m ∧ Ints w A' n' (nats ps') ∧
        rv = .slice (some ⟨w.heap.size, 0, none⟩) acc.length (n + m) ∧ OwnR wr w.heap.size (.slice (some ⟨w.heap.size, 0, none⟩) acc.length (n + m)) acc ∧ acc ++ mrg (cn :: ws.drop (k + 1)) ps' = mrg ws ps ∧
        Is wr bx 80 #[.int .i64 sy, .int .i64 cn] ∧ But [] w wr) (fun pv _ _ => match pv with | .slice _ n _ => n | _ => 0)
      case atStart => exact ⟨A', n', c', ps', acc, rfl, hnc, hnm, hI, rfl, hO2, hacc, hbx, hB2⟩
      case round =>
        clear hO2 hB2 hbx hnc hnm hI hacc
        obtain ⟨A', n', c', ps', acc, rfl, hnc, hnm, hI, rfl, hO, hacc, hbx, hB⟩ := hrel
        have hb1 : wr.cell? ⟨bx, 1, none⟩ = some (.int .i64 cn) := hbx.cell 1
        have hlen : acc.length + ((ws.drop (k + 1)).length + 1 + ps'.length) = n + m := by
          have h := congrArg List.length hacc
          rw [List.length_append, length_mrg, length_mrg, List.length_cons, hwl, HPM.out] at h
          omega
        have hpl := hI.1
        rw [nats, List.length_map] at hpl
        rw [List.length_drop, hwl, hpl] at hlen
        by_cases hpos : 0 < n'
        · obtain ⟨p, ps2, rfl⟩ : ∃ p ps2, ps' = p :: ps2 := by
            cases ps' with
            | nil => simp at hpl; omega
            | cons p ps2 => exact ⟨p, ps2, rfl⟩
          obtain ⟨g2, o2, rfl, hg2, hcp⟩ := hI.at hpos
          replace hcp := hB.cell hcp (by simp)
          have hpe : (nats (p :: ps2))[0]'(by simp [nats]) = (p : Int) := rfl
          rw [hpe, Nat.add_zero] at hcp
          obtain ⟨n2, rfl⟩ : ∃ n2, n' = n2 + 1 := ⟨n' - 1, by omega⟩
          have hIt : Ints w (some ⟨g2, o2 + 1, none⟩) n2 (nats ps2) := Ints.tail hI
          have hpl2 : ps2.length = n2 := by simpa using hpl
          have hI2 := hI
          clear hpe hI hpl
          have dpos : decide (((n2 + 1 : Nat) : Int) > 0) = true := by simp
          by_cases hpc : p < cn
          · have dlt : decide ((p : Int) < (cn : Int)) = true := by simp; omega
            have HA := Lib.hid hacc
            have HBX := Lib.hid hbx
            have HB := Lib.hid hB
            have HO := Lib.hid hO
            have HIT := Lib.hid hIt
            have HL := Lib.hid hlen
            have HL2 := Lib.hid hpl2
            clear hacc hbx hB hO hIt hpos hlen hpl2 hI2
            go_wp2
            go_quiet (fail)
            go_wp2_with (at_builtin; refine wpList_append_fits _ rfl _ _ 94 rfl w.heap.size 96 i0 2 Try.underlying94 hi0 hz1 w.heap.size acc.length (n + m) (itemCells acc) rfl (World.ownsRow.alloc (HO.out.but ((But.refl [] wr).drewN nq) (by simp)) _) ⟨wr.heap.size, 0, none⟩ 1 1 [.int .i64 p, .bool true] rfl rfl ?c1 ?c2 ?c3 ?_)
            case c1 => exact World.news_of_block (cs := #[.int .i64 p, .bool true]) (t := 96) (fr := (0, 0)) (heap_alloc_new (wr.drewN nq) _)
            case c2 => simp [Value.oneCell']
            case c3 => have := HL.out; have := HL2.out; omega
            intro w2 hown2 hgrow2
            have HN := Lib.hid (OwnR.pushed (HB.out.drewN nq) rfl rfl (Nat.le_refl _) hown2 hgrow2)
            have HX := Lib.hid (show Is w2 bx 80 #[.int .i64 sy, .int .i64 cn] from ((HBX.out.drewN nq).alloc _).grown hgrow2 (by intro e; injection e with e; omega))
            have HAC := Lib.hid (show (acc ++ [(p, true)]) ++ mrg (cn :: ws.drop (k + 1)) ps2 = mrg ws ps by rw [← HA.out, mrg_lt hpc, List.append_assoc]; rfl)
            clear hown2 hgrow2
            by_cases hce : c' = 1
            · go_wp2
              go_roundw
              case rel =>
                have e0 : n2 = 0 := by omega
                have e1 : ps2 = [] := List.eq_nil_of_length_eq_zero (by have := HL2.out; omega)
                refine ⟨_, _, _, ps2, acc ++ [(p, true)], rfl, by omega, by omega, ?_, by rw [List.length_append]; rfl, by rw [List.length_append]; exact HN.out.1, HAC.out, HX.out, HN.out.2⟩
                rw [e1]
                first | exact Ints.empty _ _ | (rw [e0]; exact Ints.empty _ _)
              case measure => simp; try omega
            · go_wp2
              go_roundw
              case rel =>
                refine ⟨_, _, _, ps2, acc ++ [(p, true)], rfl, by omega, by omega, ?_, by rw [List.length_append]; rfl, by rw [List.length_append]; exact HN.out.1, HAC.out, HX.out, HN.out.2⟩
                exact HIT.out
              case measure => simp; try omega
          · have dlt : decide (p < cn) = false := by simp; omega
            have HAC := Lib.hid (show (acc ++ [(cn, false)]) ++ mrg (ws.drop (k + 1)) (p :: ps2) = mrg ws ps by rw [← hacc, mrg_ge hpc, List.append_assoc]; rfl)
            have HBX := Lib.hid hbx
            have HB := Lib.hid hB
            have HO := Lib.hid hO
            have HI2 := Lib.hid hI2
            have HL := Lib.hid hlen
            have HL2 := Lib.hid hpl2
            clear hacc hbx hB hO hIt hpos hlen hpl2 hI2
            go_wp2
            go_quiet (fail)
            go_wp2_with (at_builtin; refine wpList_append_fits _ rfl _ _ 94 rfl w.heap.size 96 i0 2 Try.underlying94 hi0 hz1 w.heap.size acc.length (n + m) (itemCells acc) rfl (World.ownsRow.alloc (HO.out.but ((But.refl [] wr).drewN nq) (by simp)) _) ⟨wr.heap.size, 0, none⟩ 1 1 [.int .i64 cn, .bool false] rfl rfl ?d1 ?d2 ?d3 ?_)
            case d1 => exact World.news_of_block (cs := #[.int .i64 cn, .bool false]) (t := 96) (fr := (0, 0)) (heap_alloc_new (wr.drewN nq) _)
            case d2 => simp [Value.oneCell']
            case d3 => have := HL.out; omega
            intro w2 hown2 hgrow2
            have HN := Lib.hid (OwnR.pushed (HB.out.drewN nq) rfl rfl (Nat.le_refl _) hown2 hgrow2)
            clear hown2 hgrow2
            go_wp2
            go_roundw
            case rel => exact ⟨k + 1, _, _, _, p :: ps2, acc ++ [(cn, false)], by omega, by go_num, rfl, hnc, hnm, HI2.out, by rw [List.length_append]; rfl, by rw [List.length_append]; exact HN.out.1, HAC.out, HN.out.2⟩
            case measure => simp [intOf]; omega
        · obtain rfl : n' = 0 := by omega
          obtain rfl : ps' = [] := List.eq_nil_of_length_eq_zero hpl
          have HAC := Lib.hid (show (acc ++ [(cn, false)]) ++ mrg (ws.drop (k + 1)) [] = mrg ws ps by rw [← hacc, mrg_coin (by simp), List.append_assoc]; rfl)
          have HBX := Lib.hid hbx
          have HB := Lib.hid hB
          have HO := Lib.hid hO
          have HI2 := Lib.hid hI
          have HL := Lib.hid hlen
          clear hacc hbx hB hO hpos hlen hpl hI
          have dpos : decide (((0 : Nat) : Int) > 0) = false := by simp
          go_wp2
          go_quiet (fail)
          go_wp2_with (at_builtin; refine wpList_append_fits _ rfl _ _ 94 rfl w.heap.size 96 i0 2 Try.underlying94 hi0 hz1 w.heap.size acc.length (n + m) (itemCells acc) rfl (World.ownsRow.alloc (HO.out.but ((But.refl [] wr).drewN nq) (by simp)) _) ⟨wr.heap.size, 0, none⟩ 1 1 [.int .i64 cn, .bool false] rfl rfl ?e1 ?e2 ?e3 ?_)
          case e1 => exact World.news_of_block (cs := #[.int .i64 cn, .bool false]) (t := 96) (fr := (0, 0)) (heap_alloc_new (wr.drewN nq) _)
          case e2 => simp [Value.oneCell']
          case e3 => have := HL.out; omega
          intro w2 hown2 hgrow2
          have HN := Lib.hid (OwnR.pushed (HB.out.drewN nq) rfl rfl (Nat.le_refl _) hown2 hgrow2)
          clear hown2 hgrow2
          go_wp2
          go_roundw
          case rel => exact ⟨k + 1, _, _, _, [], acc ++ [(cn, false)], by omega, by go_num, rfl, hnc, hnm, HI2.out, by rw [List.length_append]; rfl, by rw [List.length_append]; exact HN.out.1, HAC.out, HN.out.2⟩
          case measure => simp [intOf]; omega
    · obtain rfl : k = n := by omega
      rw [List.drop_of_length_le (by omega), mrg_nil] at hacc
      have hpl' := hI.1
      rw [nats, List.length_map] at hpl'
      have hlen : acc.length + n' = k + m := by
        have h := congrArg List.length hacc
        rw [List.length_append, List.length_map, length_mrg, hwl, hpl, hpl'] at h
        omega
      have HA := Lib.hid hacc
      have HI := Lib.hid hI
      have HPL := Lib.hid hpl'
      have HL := Lib.hid hlen
      clear hacc hI hpl' hlen hc hp hpl hcl hws
      go_wp2
      go_loopw [5, 51] (fun rv i wr => ∃ (j : Nat) (acc : List (Nat × Bool)), j ≤ n' ∧ i = .int .i64 j ∧ rv = .slice (some ⟨w.heap.size, 0, none⟩) acc.length (k + m) ∧ OwnR wr w.heap.size (.slice (some ⟨w.heap.size, 0, none⟩) acc.length (k + m)) acc ∧
        acc.length + (n' - j) = k + m ∧ acc ++ (ps'.drop j).map (fun p => (p, true)) = mrg ws ps ∧ But [] w wr) (fun _ i _ => n' - (intOf i).toNat)
      case atStart => exact ⟨0, acc, Nat.zero_le _, rfl, rfl, hO, HL.out, HA.out, hB⟩
      case round =>
        clear hO hB
        obtain ⟨j, acc, hj, rfl, rfl, hO, hl2, hacc, hB⟩ := hrel
        by_cases hlt2 : j < n'
        · obtain ⟨g2, o2, rfl, hg2, hcp⟩ := HI.out.at hlt2
          replace hcp := hB.cell hcp (by simp)
          have hpd : ps'.drop j = ps'[j]'(by have := HPL.out; omega) :: ps'.drop (j + 1) := List.drop_eq_getElem_cons _
          have hpe : (nats ps')[j]'(by have := HI.out.1; omega) = ((ps'[j]'(by have := HPL.out; omega) : Nat) : Int) := by simp [nats]
          rw [hpe] at hcp
          generalize ps'[j]'(by have := HPL.out; omega) = p at *
          have HAC := Lib.hid (show (acc ++ [(p, true)]) ++ (ps'.drop (j + 1)).map (fun p => (p, true)) = mrg ws ps by rw [← hacc, hpd, List.append_assoc]; rfl)
          have HB := Lib.hid hB
          have HO := Lib.hid hO
          clear hacc hB hO hpd hpe
          go_wp2_with (at_builtin; refine wpList_append_fits _ rfl _ _ 94 rfl w.heap.size 96 i0 2 Try.underlying94 hi0 hz1 w.heap.size acc.length (k + m) (itemCells acc) rfl (World.ownsRow.alloc HO.out _) ⟨wr.heap.size, 0, none⟩ 1 1 [.int .i64 p, .bool true] rfl rfl ?f1 ?f2 ?f3 ?_)
          case f1 => exact World.news_of_block (cs := #[.int .i64 p, .bool true]) (t := 96) (fr := (0, 0)) (heap_alloc_new wr _)
          case f2 => simp [Value.oneCell']
          case f3 => omega
          intro w2 hown2 hgrow2
          have HN := Lib.hid (OwnR.pushed HB.out rfl rfl (Nat.le_refl _) hown2 hgrow2)
          clear hown2 hgrow2
          go_wp2
          go_roundw
          case rel => exact ⟨j + 1, acc ++ [(p, true)], by omega, by go_num, by rw [List.length_append]; rfl, by rw [List.length_append]; exact HN.out.1, by rw [List.length_append, List.length_singleton]; omega, HAC.out, HN.out.2⟩
          case measure => simp [intOf]; omega
        · obtain rfl : j = n' := by omega
          rw [List.drop_of_length_le (by have := HPL.out; omega), List.map_nil, List.append_nil] at hacc
          subst hacc
          have hle : (mrg ws ps).length = k + m := by omega
          rw [hle] at hO
          have HLE := Lib.hid hle
          clear hle hl2
          go_wp2
          go_ret
          rw [HLE.out]
          exact ⟨rfl, hO, hB⟩
end Go.Proofs.Ytmafcmfafcjokaa
