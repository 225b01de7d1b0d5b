/- The walk of the statement on the lengths that are told. -/
import Derived.Test.YtmafcmfafcjokaaStableB
import Derived.Test.YtmafcmfafcjokaaBestM
import Derived.Test.YtmafcmfafcjokaaAwakeH
import Derived.Deep.QuietTactic
import Derived.BigQuiet
namespace Go.Proofs.Ytmafcmfafcjokaa
open Go Go.RowKit

theorem limit_list {w : World} {A : Option Addr} {len cap M : Nat} {l : List Int} (hl : Ints w A len l) (hM1 : 1 ≤ M) (hM2 : M ≤ 15) (h288 : len ≤ 288) (hok : okCounts l = true) (hp : (csOf l len).length ≤ 2 ^ M) {m : Int} (hm : (M : Int) = m) :
    Calls Try.prog 30 #[.int .i64 m, .slice A len cap] w (GotList w len (lims M l)) := by
  subst hm
  refine (limit_late sorts_all hl hM1 hM2 h288 (by have := length_coins0 l len; omega)).mono ?_
  rintro e w' (⟨_, _, h⟩ | ⟨h, _⟩)
  · exact h
  · rcases h with h | h
    · rw [hok] at h; cases h
    · omega
theorem limit_bad {w : World} {A : Option Addr} {len cap M : Nat} {l : List Int} (hl : Ints w A len l) (hM1 : 1 ≤ M) (hM2 : M ≤ 15) (h288 : len ≤ 288) (h : okCounts l = false ∨ 2 ^ M < (csOf l len).length) :
    Calls Try.prog 30 #[.int .i64 (M : Int), .slice A len cap] w (GotNone w) := by
  refine (limit_late sorts_all hl hM1 hM2 h288 (by have := length_coins0 l len; omega)).mono ?_
  rintro e w' (⟨h1, h2, _⟩ | ⟨_, h⟩)
  · rcases h with h | h
    · rw [h1] at h; cases h
    · omega
  · exact h
theorem count_range {l : List Int} (h : okCounts l = true) (i : Nat) : 0 ≤ l.getD i 0 ∧ l.getD i 0 ≤ 1000000000 := by
  rw [List.getD_eq_getElem?_getD]
  by_cases hi : i < l.length
  · rw [List.getElem?_eq_getElem hi]
    have := List.all_eq_true.1 h _ (List.getElem_mem hi)
    simpa [okCount] using this
  · rw [List.getElem?_eq_none (by omega)]; simp
theorem lims_range {M : Nat} {l : List Int} (hM1 : 1 ≤ M) (hp : (csOf l l.length).length ≤ 2 ^ M) (i : Nat) : 0 ≤ (lims M l).getD i 0 ∧ (lims M l).getD i 0 ≤ (M : Int) ∧ (0 < (lims M l).getD i 0 ↔ 0 < l.getD i 0) := by
  by_cases hi : i < l.length
  · by_cases h : 0 < l.getD i 0
    · have := lims_at hM1 hp hi h; omega
    · rw [lims_none h]; omega
  · rw [List.getD_eq_getElem?_getD, List.getD_eq_getElem?_getD, List.getElem?_eq_none (by rw [length_lims]; omega), List.getElem?_eq_none (by omega)]; simp
theorem cost_step {L l : List Int} (h1 : ∀ i, 0 ≤ L.getD i 0 ∧ L.getD i 0 ≤ 15) (h2 : ∀ i, 0 ≤ l.getD i 0 ∧ l.getD i 0 ≤ 1000000000) (k : Nat) :
    (costN L l k : Int) + L.getD k 0 * l.getD k 0 = (costN L l (k + 1) : Int) ∧ 0 ≤ L.getD k 0 * l.getD k 0 ∧ L.getD k 0 * l.getD k 0 ≤ 15000000000 ∧ (costN L l k : Int) ≤ 15000000000 * k ∧ (costN L l (k + 1) : Int) ≤ 15000000000 * (k + 1) := by
  have a1 := h1 k
  have a2 := h2 k
  have b := costN_le (L := L) (l := l) (fun i => by have := h1 i; omega) (fun i => by have := h2 i; omega) k
  have b' := costN_le (L := L) (l := l) (fun i => by have := h1 i; omega) (fun i => by have := h2 i; omega) (k + 1)
  obtain ⟨x, hx⟩ : ∃ x : Nat, L.getD k 0 = x := ⟨(L.getD k 0).toNat, by omega⟩
  obtain ⟨y, hy⟩ : ∃ y : Nat, l.getD k 0 = y := ⟨(l.getD k 0).toNat, by omega⟩
  have hs : costN L l (k + 1) = costN L l k + x * y := by rw [costN, hx, hy, Int.toNat_natCast, Int.toNat_natCast]
  have hm := Nat.mul_le_mul (show x ≤ 15 by omega) (show y ≤ 1000000000 by omega)
  rw [hx, hy]
  have e : (x : Int) * (y : Int) = ((x * y : Nat) : Int) := by simp
  rw [e]
  omega
theorem getD_in {l : List Int} {n : Nat} (h : n < l.length) : l.getD n 0 = l[n] := by rw [List.getD_eq_getElem?_getD, List.getElem?_eq_getElem h]; rfl
theorem wrap_small (x : Int) (h0 : 0 ≤ x) (h1 : x ≤ 100000000000000) : IntKind.i64.wrap x = x := IntWalk.i64_in _ (by omega)

set_option maxRecDepth 100000 in
set_option maxHeartbeats 4000000 in
theorem huffBest_walk {A : Option Addr} {len cap : Nat} {most : Int} {l : List Int} {w : World} (_hn : (Lit.int .i64 most).wf = true) (hl : Ints w A len l) (hb : len * 8 ≤ 140737488351232) (_hnil : A = none → cap = 0) (_hf : Fits l) :
    Calls Try.prog 9 #[.int .i64 most, .slice A len cap] w fun e w' => e = .returned (.bool true) ∧ Below w.heap.size w w' := by
  by_cases hgood : (1 ≤ most ∧ most ≤ 15 ∧ len ≤ 288) ∧ okCounts l = true ∧ (csOf l len).length ≤ 2 ^ most.toNat
  · obtain ⟨⟨hM1, hM2, h288⟩, hok, hp⟩ := hgood
    obtain ⟨M, rfl⟩ : ∃ M : Nat, most = M := ⟨most.toNat, by omega⟩
    rw [Int.toNat_natCast] at hp
    have hlen := hl.1
    have hlim := limit_list (cap := cap) hl (by omega) (by omega) h288 hok hp rfl
    have hck : chk (lims M l) = 0 := chk_lims (by omega) (by rw [hlen]; exact hp) (by omega) (by omega)
    have hLl := length_lims M l
    have hLr := fun i => lims_range (M := M) (l := l) (by omega) (by rw [hlen]; exact hp) i
    have hlr := count_range hok
    have hcs := fun k => cost_step (L := lims M l) (l := l) (fun i => ⟨(hLr i).1, by have := (hLr i).2.1; omega⟩) hlr k
    have hord : ∀ i k, i < l.length → k < l.length → l.getD k 0 < l.getD i 0 → 0 < l.getD k 0 → (lims M l).getD i 0 ≤ (lims M l).getD k 0 := fun i k hi hk => lims_order hi hk
    have HLIM := Lib.hid hlim
    have HCK := Lib.hid hck
    have HLR := Lib.hid hLr
    have HlR := Lib.hid hlr
    have HCS := Lib.hid hcs
    have HORD := Lib.hid hord
    have HLL := Lib.hid (hLl.trans hlen)
    have HLEN := Lib.hid hlen
    have HOK := Lib.hid hok
    have HP := Lib.hid hp
    have HL := Lib.hid hl
    clear hlim hck hLl hLr hlr hcs hord hlen hok hp hl
    go_enter Try.func9, Try.ntmps9
    go_wp2_with fail
    refine HLIM.out.mono ?_
    rintro e w1 ⟨g, rfl, hO1, hB1⟩
    have hI1 : Ints w1 (some ⟨g, 0, none⟩) len (lims M l) := hO1.ints
    have hl1 := HL.out.but hB1 (by simp)
    have hck1 := check_any (cap := len) hI1 (by unfold maxLen; omega)
    rw [HCK.out] at hck1
    have HI1 := Lib.hid hI1
    have HL1 := Lib.hid hl1
    have HB1 := Lib.hid hB1
    have HC1 := Lib.hid hck1
    clear hO1 hI1 hl1 hB1 hck1
    go_wp2_with fail
    refine HC1.out.mono ?_
    rintro e w2 ⟨rfl, rfl⟩
    go_wp2_with fail
    go_loopw [7, 8] (fun nv iv wr => ∃ i : Nat, i ≤ len ∧ iv = .int .i64 i ∧ nv = .int .i64 (costN (lims M l) l i : Nat) ∧ But [] w1 wr) (fun _ iv _ => len - (intOf iv).toNat)
    case atStart => exact ⟨0, Nat.zero_le _, rfl, rfl, But.refl _ _⟩
    case round =>
      obtain ⟨i, hi, rfl, rfl, hB⟩ := hrel
      by_cases hlt : i < len
      · obtain ⟨ga, oa, rfl, hga, hca⟩ := HL1.out.at hlt
        obtain ⟨gb, ob, ebb, hgb, hcb⟩ := HI1.out.at hlt
        obtain ⟨rfl, rfl⟩ : gb = g ∧ ob = 0 := by injection ebb with ebb; injection ebb with e1 e2 e3; exact ⟨e1.symm, e2.symm⟩
        have c1 := hB.cell hca (by simp)
        rw [Nat.zero_add] at hcb
        have c2 := hB.cell hcb (by simp)
        have ea : l.getD i 0 = l[i]'(by have := HLEN.out; omega) := getD_in _
        have eb : (lims M l).getD i 0 = (lims M l)[i]'(by have := HLL.out; omega) := getD_in _
        have hx := HLR.out i
        have hst := HCS.out i
        have hyr := HlR.out i
        have horda := fun k (hk : k < l.length) => HORD.out i k (by have := HLEN.out; omega) hk
        rw [ea, eb] at hx hst
        rw [ea] at hyr
        simp only [ea, eb] at horda
        generalize l[i]'(by have := HLEN.out; omega) = y at *
        generalize (lims M l)[i]'(by have := HLL.out; omega) = x at *
        obtain ⟨hx0, hxM, hxy⟩ := hx
        obtain ⟨hs1, hp0, hp1, hn1, hs2⟩ := hst
        obtain ⟨pr, hpr⟩ : ∃ pr, pr = x * y := ⟨_, rfl⟩
        rw [← hpr] at hs1 hp0 hp1
        have hn0 : (0 : Int) ≤ (costN (lims M l) l i : Nat) := by omega
        have hs0 : (0 : Int) ≤ (costN (lims M l) l (i + 1) : Nat) := by omega
        obtain ⟨sm, hsm⟩ : ∃ sm, sm = ((costN (lims M l) l (i + 1) : Nat) : Int) := ⟨_, rfl⟩
        rw [← hsm] at hs1 hs2 hs0
        generalize ((costN (lims M l) l i : Nat) : Int) = nd at *
        have HSM := Lib.hid hsm
        have CA := Lib.hid hca
        have CB := Lib.hid hcb
        have HPR := Lib.hid hpr
        have HS1 := Lib.hid hs1
        have HORDA := Lib.hid horda
        have HBR := Lib.hid hB
        clear hsm hpr hs1 hca hcb horda hB ea eb
        obtain ⟨wo, rfl⟩ : ∃ wo : World, wo = wr := ⟨_, rfl⟩
        have hi0 : (0 : Int) ≤ (i : Int) := by omega
        have hil : (i : Int) < (len : Int) := by omega
        go_upto_region 10 with (fail)
        go_cut [66] (fun v wx => v = .bool false ∧ But [] w1 wx)
        case first =>
          by_cases hy0 : 0 < y
          · have hx1 : 0 < x := hxy.2 hy0
            have d1 : decide (0 < x) = true := by simpa using hx1
            have d2 : decide (0 < y) = true := by simpa using hy0
            have d3 : decide ((M : Int) < x) = false := by simp; omega
            clear hxy
            go_quiet (fail)
            go_wp2
            go_meet
            exact ⟨rfl, HBR.out.drewN _⟩
          · have hx1 : ¬ 0 < x := fun h => hy0 (hxy.1 h)
            have d1 : decide (0 < x) = false := by simpa using hx1
            have d2 : decide (0 < y) = false := by simpa using hy0
            have d3 : decide ((M : Int) < x) = false := by simp; omega
            clear hxy
            go_quiet (fail)
            go_wp2
            go_meet
            exact ⟨rfl, HBR.out.drewN _⟩
        case rest =>
          obtain ⟨rfl, hBc⟩ := hcut
          clear c1 c2 hxy
          have c1 := hBc.cell CA.out (by simp)
          have c2 := hBc.cell CB.out (by simp)
          have HBC := Lib.hid hBc
          clear hBc
          go_upto_region 12 with (fail)
          have t1 : x * y = pr := HPR.out.symm
          have t2 : IntKind.i64.wrap pr = pr := wrap_small _ hp0 (by omega)
          have t3 : nd + pr = sm := HS1.out
          have t4 : IntKind.i64.wrap sm = sm := wrap_small _ hs0 (by omega)
          go_quiet (fail)
          have hBq := HBC.out.drewN nq
          have HBQ := Lib.hid hBq
          clear t1 t2 t3 t4 c1 c2 hBq HBC
          go_wp2
          go_loopw [9] (fun kv wr => ∃ k : Nat, k ≤ len ∧ kv = .int .i64 k ∧ But [] w1 wr) (fun kv _ => len - (intOf kv).toNat)
          case atStart => exact ⟨0, Nat.zero_le _, rfl, HBQ.out⟩
          case round =>
            obtain ⟨k, hk, rfl, hB⟩ := hrel
            by_cases hkl : k < len
            · obtain ⟨ga2, oa2, eaa, _, hca⟩ := HL1.out.at hkl
              obtain ⟨rfl, rfl⟩ : ga2 = ga ∧ oa2 = oa := by injection eaa with eaa; injection eaa with e1 e2 e3; exact ⟨e1.symm, e2.symm⟩
              obtain ⟨gb2, ob2, ebb, _, hcb⟩ := HI1.out.at hkl
              obtain ⟨rfl, rfl⟩ : gb2 = gb ∧ ob2 = 0 := by injection ebb with ebb; injection ebb with e1 e2 e3; exact ⟨e1.symm, e2.symm⟩
              rw [Nat.zero_add] at hcb
              have c1 := hB.cell CA.out (by simp)
              have c2 := hB.cell CB.out (by simp)
              have c3 := hB.cell hca (by simp)
              have c4 := hB.cell hcb (by simp)
              have ea : l.getD k 0 = l[k]'(by have := HLEN.out; omega) := getD_in _
              have eb : (lims M l).getD k 0 = (lims M l)[k]'(by have := HLL.out; omega) := getD_in _
              have hord := HORDA.out k (by have := HLEN.out; omega)
              rw [ea, eb] at hord
              generalize l[k]'(by have := HLEN.out; omega) = yk at *
              generalize (lims M l)[k]'(by have := HLL.out; omega) = xk at *
              have HO := Lib.hid hord
              have HB := Lib.hid hB
              clear ea eb hord hca hcb hB
              have hk0 : (0 : Int) ≤ (k : Int) := by omega
              have hkl2 : (k : Int) < (len : Int) := by omega
              go_upto_region 16 with (fail)
              go_cut [110] (fun v wx => v = .bool false ∧ But [] w1 wx)
              case first =>
                by_cases a1 : yk < y
                · have d1 : decide (yk < y) = true := by simpa using a1
                  by_cases a2 : 0 < yk
                  · have d2 : decide (0 < yk) = true := by simpa using a2
                    have d3 : decide (xk < x) = false := by have := HO.out a1 a2; simp; omega
                    go_quiet (fail)
                    go_wp2
                    go_meet
                    exact ⟨rfl, HB.out.drewN _⟩
                  · have d2 : decide (0 < yk) = false := by simpa using a2
                    go_quiet (fail)
                    go_wp2
                    go_meet
                    exact ⟨rfl, HB.out.drewN _⟩
                · have d1 : decide (yk < y) = false := by simpa using a1
                  go_quiet (fail)
                  go_wp2
                  go_meet
                  exact ⟨rfl, HB.out.drewN _⟩
              case rest =>
                obtain ⟨rfl, hBc⟩ := hcut
                have HBC := Lib.hid hBc
                clear hBc c1 c2 c3 c4
                go_wp2
                go_roundw
                case rel => exact ⟨k + 1, by omega, by go_num, HBC.out⟩
                case measure => simp [intOf]; omega
            · have HB := Lib.hid hB
              clear hB
              go_wp2
              go_roundw
              case rel => exact ⟨i + 1, by omega, by go_num, by rw [HSM.out], HB.out⟩
              case measure => simp [intOf]; omega
      · obtain rfl : i = len := by omega
        have HBR := Lib.hid hB
        clear hB
        by_cases hM15 : M < 15
        · have hlim2 := limit_list (cap := cap) (M := M + 1) (m := (M : Int) + 1) (HL1.out.but HBR.out (by simp)) (by omega) (by omega) h288 HOK.out (by have := HP.out; rw [Nat.pow_succ]; omega) (by omega)
          have hcost := cost_next (M := M) (l := l) (by omega) (by have := HP.out; rw [HLEN.out]; exact this)
          rw [HLEN.out] at hcost
          have hLl2 := length_lims (M + 1) l
          have hcs2 := fun k => cost_step (L := lims (M + 1) l) (l := l) (fun i => by have := lims_range (M := M + 1) (l := l) (by omega) (by have := HP.out; rw [HLEN.out, Nat.pow_succ]; omega) i; omega) HlR.out k
          have HLIM2 := Lib.hid hlim2
          have HCOST := Lib.hid hcost
          have HCS2 := Lib.hid hcs2
          have HLL2 := Lib.hid (hLl2.trans HLEN.out)
          have hM15' : (M : Int) < 15 := by omega
          clear hlim2 hcost hcs2 hLl2
          obtain ⟨u, hu⟩ : ∃ u, u = ((costN (lims M l) l i : Nat) : Int) := ⟨_, rfl⟩
          rw [← hu]
          have HU := Lib.hid hu
          clear hu
          obtain ⟨wo, rfl⟩ : ∃ wo : World, wo = wr := ⟨_, rfl⟩
          go_wp2_with fail
          refine HLIM2.out.mono ?_
          rintro e w3 ⟨g2, rfl, hO3, hB3⟩
          have hI3 : Ints w3 (some ⟨g2, 0, none⟩) i (lims (M + 1) l) := hO3.ints
          have hl3 := HL1.out.but (HBR.out.trans hB3) (by simp)
          have HI3 := Lib.hid hI3
          have HL3 := Lib.hid hl3
          have HB3 := Lib.hid hB3
          clear hO3 hI3 hl3 hB3
          go_wp2_with fail
          go_loopw [12, 13] (fun nv iv wr => ∃ k : Nat, k ≤ i ∧ iv = .int .i64 k ∧ nv = .int .i64 (costN (lims (M + 1) l) l k : Nat) ∧ But [] w3 wr) (fun _ iv _ => i - (intOf iv).toNat)
          case atStart => exact ⟨0, Nat.zero_le _, rfl, rfl, But.refl _ _⟩
          case round =>
            obtain ⟨k, hk, rfl, rfl, hB⟩ := hrel
            by_cases hkl : k < i
            · obtain ⟨ga, oa, rfl, _, hca⟩ := HL3.out.at hkl
              obtain ⟨gb2, ob2, ebb, _, hcb⟩ := HI3.out.at hkl
              obtain ⟨rfl, rfl⟩ : gb2 = g2 ∧ ob2 = 0 := by injection ebb with ebb; injection ebb with e1 e2 e3; exact ⟨e1.symm, e2.symm⟩
              rw [Nat.zero_add] at hcb
              have c1 := hB.cell hca (by simp)
              have c2 := hB.cell hcb (by simp)
              have ea : l.getD k 0 = l[k]'(by have := HLEN.out; omega) := getD_in _
              have eb : (lims (M + 1) l).getD k 0 = (lims (M + 1) l)[k]'(by have := HLL2.out; omega) := getD_in _
              obtain ⟨hs1, hp0, hp1, hn1, hs2⟩ := HCS2.out k
              rw [ea, eb] at hs1 hp0 hp1
              generalize l[k]'(by have := HLEN.out; omega) = y at *
              generalize (lims (M + 1) l)[k]'(by have := HLL2.out; omega) = x at *
              obtain ⟨pr, hpr⟩ : ∃ pr, pr = x * y := ⟨_, rfl⟩
              rw [← hpr] at hs1 hp0 hp1
              have hn0 : (0 : Int) ≤ (costN (lims (M + 1) l) l k : Nat) := by omega
              have hs0 : (0 : Int) ≤ (costN (lims (M + 1) l) l (k + 1) : Nat) := by omega
              obtain ⟨sm, hsm⟩ : ∃ sm, sm = ((costN (lims (M + 1) l) l (k + 1) : Nat) : Int) := ⟨_, rfl⟩
              rw [← hsm] at hs1 hs2 hs0
              generalize ((costN (lims (M + 1) l) l k : Nat) : Int) = nd at *
              have HSM := Lib.hid hsm
              have HPR := Lib.hid hpr
              have HS1 := Lib.hid hs1
              have HB := Lib.hid hB
              clear hsm hpr hs1 hca hcb hB ea eb
              have hi0 : (0 : Int) ≤ (k : Int) := by omega
              have hil : (k : Int) < (i : Int) := by omega
              go_upto_region 26 with (fail)
              have t1 : x * y = pr := HPR.out.symm
              have t2 : IntKind.i64.wrap pr = pr := wrap_small _ hp0 (by omega)
              have t3 : nd + pr = sm := HS1.out
              have t4 : IntKind.i64.wrap sm = sm := wrap_small _ hs0 (by omega)
              go_quiet (fail)
              clear t1 t2 t3 t4 c1 c2
              go_wp2
              go_roundw
              case rel => exact ⟨k + 1, by omega, by go_num, by rw [HSM.out], HB.out.drewN _⟩
              case measure => simp [intOf]; omega
            · obtain rfl : k = i := by omega
              have hle : ((costN (lims (M + 1) l) l k : Nat) : Int) ≤ u := by have := HU.out; have := HCOST.out; omega
              generalize ((costN (lims (M + 1) l) l k : Nat) : Int) = v at *
              have hle2 : decide (v ≤ u) = true := by simpa using hle
              have HB := Lib.hid hB
              clear hB
              go_wp2_with fail
              refine (awake_any _).mono ?_
              rintro e w7 ⟨rfl, hB7⟩
              have HF := Lib.hid ((HB1.out.trans (HBR.out.trans (HB3.out.trans (HB.out.trans hB7)))).belowNew)
              clear hB7
              go_wp2
              go_ret
              exact ⟨rfl, HF.out⟩
        · have hM15' : ¬ (M : Int) < 15 := by omega
          go_wp2_with fail
          refine (awake_any _).mono ?_
          rintro e w7 ⟨rfl, hB7⟩
          have HF := Lib.hid ((HB1.out.trans (HBR.out.trans hB7)).belowNew)
          clear hB7
          go_wp2
          go_ret
          exact ⟨rfl, HF.out⟩
  · have hlim : Calls Try.prog 30 #[.int .i64 most, .slice A len cap] w (GotNone w) := by
      by_cases hearly : most < 1 ∨ 15 < most ∨ 288 < len
      · exact limit_early hearly
      · obtain ⟨M, rfl⟩ : ∃ M : Nat, most = M := ⟨most.toNat, by omega⟩
        rw [Int.toNat_natCast] at hgood
        refine limit_bad hl (by omega) (by omega) (by omega) ?_
        cases e : okCounts l with
        | false => exact .inl rfl
        | true => right; apply Classical.byContradiction; intro hn; exact hgood ⟨⟨by omega, by omega, by omega⟩, e, by omega⟩
    have HLIM := Lib.hid hlim
    clear hlim hgood hl
    go_enter Try.func9, Try.ntmps9
    go_wp2_with fail
    refine HLIM.out.mono ?_
    rintro e w1 ⟨rfl, hB1⟩
    go_wp2_with fail
    refine (awake_any _).mono ?_
    rintro e w7 ⟨rfl, hB7⟩
    have HF := Lib.hid ((hB1.trans hB7).belowNew)
    clear hB7 hB1
    go_wp2
    go_ret
    exact ⟨rfl, HF.out⟩
end Go.Proofs.Ytmafcmfafcjokaa
