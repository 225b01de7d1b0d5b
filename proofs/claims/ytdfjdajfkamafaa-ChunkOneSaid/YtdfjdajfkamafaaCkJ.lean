/- The walk of the statement that a byte of a chunk that is changed is told. -/
import Derived.Test.YtdfjdajfkamafaaCkI
import Derived.Test.YtdfjdajfkamafaaChN
import Derived.Laws.IdiomStrings
set_option maxRecDepth 100000
set_option linter.unusedVariables false
namespace Go.Proofs.Ytdfjdajfkamafaa
set_option maxRecDepth 100000
open Go Go.RowKit
theorem mod_placeC (c : Int) {n : Nat} (hn : 0 < n) (hn2 : n ≤ 20000) : ∃ k : Nat, k < n ∧ (wrap64 (c.tmod (n : Int) + (n : Int))).tmod (n : Int) = (k : Int) := by
  have h1 := Int.tmod_lt_of_pos c (show (0 : Int) < (n : Int) by omega)
  have h2 := Int.tmod_lt_of_pos (-c) (show (0 : Int) < (n : Int) by omega)
  rw [Int.neg_tmod] at h2
  have e : wrap64 (c.tmod (n : Int) + (n : Int)) = c.tmod (n : Int) + (n : Int) := IntWalk.wrap64_in _ ⟨by omega, by omega⟩
  rw [e]
  have h3 := Int.tmod_lt_of_pos (c.tmod (n : Int) + (n : Int)) (show (0 : Int) < (n : Int) by omega)
  have h4 := Int.tmod_nonneg (n : Int) (show 0 ≤ c.tmod (n : Int) + (n : Int) by omega)
  exact ⟨((c.tmod (n : Int) + (n : Int)).tmod (n : Int)).toNat, by omega, by omega⟩
theorem u8_ofC {y : Int} (hy : (Lit.int .u8 y).wf = true) : ∃ b : UInt8, y = (b.toNat : Int) := by
  have h := bounds_u8 hy
  refine ⟨UInt8.ofNat y.toNat, ?_⟩
  have e : (UInt8.ofNat y.toNat).toNat = y.toNat % 256 := UInt8.toNat_ofNat'
  omega
theorem toldC_text (w : World) (s : ByteArray) (cap k : Nat) (z : UInt8) (fz : Nat × Nat) :
    (convert 36 9 (.slice (some ⟨w.heap.size, 0, none⟩) s.size cap)).run Try.prog ((w.alloc (.cells (bytesRow s cap) 5 fz)).setCell ⟨w.heap.size, k, none⟩ (.int .u8 (z.toNat : Int))).drew
      = .ok (.string ⟨(s.data.toList.set k z).toArray⟩) ((w.alloc (.cells (bytesRow s cap) 5 fz)).setCell ⟨w.heap.size, k, none⟩ (.int .u8 (z.toNat : Int))).drew := by
  have hl : (s.data.toList.set k z).length = s.size := by rw [List.length_set]; exact Array.length_toList
  refine ByteRow.text ⟨hl, fun _ => ⟨w.heap.size, 0, rfl, fun i hi => ?_⟩⟩
  have hi' : i < s.data.size := by rw [hl] at hi; exact hi
  have hc : (w.alloc (.cells (bytesRow s cap) 5 fz)).cell? ⟨w.heap.size, i, none⟩ = some (.int .u8 (s.data[i].toNat : Int)) := by
    rw [World.cell?_alloc_mark]; exact bytesRow_at s cap i hi'
  rw [Nat.zero_add]
  show ((w.alloc (.cells (bytesRow s cap) 5 fz)).setCell ⟨w.heap.size, k, none⟩ (.int .u8 (z.toNat : Int))).cell? _ = _
  by_cases e : k = i
  · subst e
    rw [World.cell?_setCell_same _ _ _ hc]
    simp
  · rw [World.cell?_setCell_other _ _ _ _ (by intro h; injection h with _ h2; exact e h2), hc]
    simp [e]
/-- The bytes of one chunk's file. -/
theorem one_file (t d : List UInt8) : signL ++ encs [(t, d)] = signL ++ (fourL d.length ++ ((t ++ d) ++ fourL (crcSum (t ++ d)))) := by
  show signL ++ (encC (t, d) ++ []) = _
  unfold encC
  simp only [List.append_nil, List.append_assoc]
theorem one_at {t d : List UInt8} {k : Nat} (hk : k < (t ++ d).length) (h : 12 + k < (signL ++ encs [(t, d)]).length) : (signL ++ encs [(t, d)])[12 + k] = (t ++ d)[k] := by
  have e := one_file t d
  have hs : signL.length = 8 := rfl
  have g : (signL ++ encs [(t, d)])[12 + k]? = (t ++ d)[k]? := by
    rw [e, List.getElem?_append_right (by omega), List.getElem?_append_right (by rw [hs, fourL_length]; omega), List.getElem?_append_left (by rw [hs, fourL_length]; omega)]
    congr 1
    rw [hs, fourL_length]; omega
  rw [List.getElem?_eq_getElem h, List.getElem?_eq_getElem hk] at g
  exact Option.some.inj g
set_option maxHeartbeats 2000000 in
theorem chunkTold_walk {a b : ByteArray} {c x : Int} {w : World} (ha : a.size ≤ 140737488351232) (hb : b.size ≤ 140737488351232) (_hc : (Lit.int .i64 c).wf = true) (hx : (Lit.int .u8 x).wf = true) :
    Calls Try.prog 6 #[.agg #[.string a, .string b], .int .i64 c, .int .u8 x] w fun e w' => e = .returned (.bool true) ∧ Below w.heap.size w w' := by
  have HA := Lib.hid (fun v => awake7_any v)
  obtain ⟨t, rfl⟩ : ∃ t, a = strL t := ⟨_, (strL_of a).symm⟩
  obtain ⟨d, rfl⟩ : ∃ d, b = strL d := ⟨_, (strL_of b).symm⟩
  have hI := Is.fresh w 35 #[.string (strL t), .string (strL d)]
  have HB0 := Lib.hid ((But.refl [] w).alloc (.cells #[.string (strL t), .string (strL d)] 35))
  have hds := strL_size d
  obtain ⟨m, hm⟩ : ∃ m, m = d.length := ⟨_, rfl⟩
  rw [← hm] at hds
  rw [hds] at hb
  by_cases h1 : 10000 < m
  · have d1 : decide ((10000 : Int) < (m : Int)) = true := by simp; omega
    clear h1 hm
    go_enter Try.func6, Try.ntmps6
    go_wp2_with fail
    refine (HA.out _).mono ?_
    rintro e w1 ⟨rfl, hB⟩
    have HB1 := Lib.hid (HB0.out.trans hB)
    clear hB
    go_wp2
    go_ret
    exact ⟨rfl, HB1.out.belowC⟩
  · have d1 : decide ((10000 : Int) < (m : Int)) = false := by simp; omega
    by_cases hx0 : x = 0
    · have d2 : (x == 0) = true := by simpa using hx0
      clear h1 hm hx0
      go_enter Try.func6, Try.ntmps6
      go_wp2_with fail
      refine (HA.out _).mono ?_
      rintro e w1 ⟨rfl, hB⟩
      have HB1 := Lib.hid (HB0.out.trans hB)
      clear hB
      go_wp2
      go_ret
      exact ⟨rfl, HB1.out.belowC⟩
    · have t1 : (x == 0) = false := by rw [beq_eq_false_iff_ne]; omega
      have hsd : sizeD [(t, d)] ≤ 100000000 := by
        rw [sizeD_cons, show sizeD [] = 0 from rfl]
        split
        · dsimp only; omega
        · omega
      have HJ := Lib.hid (fun v => pjoin_any _ (cap := 1) (one_ck v t d) hsd (by omega))
      have HB1 := Lib.hid (HB0.out.alloc (.cells #[.string (strL t), .string (strL d)] 35))
      by_cases hok : okC (t, d) = true
      · obtain ⟨yb, rfl⟩ := u8_ofC hx
        have hall : [(t, d)].all okC = true := by rw [List.all_cons, hok]; rfl
        rw [join_all hall] at HJ
        have h4 := rightT_length ((okC_iff (t, d)).1 hok).1
        have h4' : t.length = 4 := h4
        have hn : (t ++ d).length = 4 + m := by rw [List.length_append, h4', hm]
        obtain ⟨k, hk, hke⟩ := mod_placeC c (n := 4 + m) (by omega) (by omega)
        have hFl : (signL ++ encs [(t, d)]).length = 20 + m := by
          rw [one_file]
          simp only [List.length_append, fourL_length, h4']
          have h8 : signL.length = 8 := rfl
          omega
        have hat := one_at (t := t) (d := d) (k := k) (by omega) (by omega)
        have htold := fun (y : UInt8) (hy : y ≠ (t ++ d)[k]'(by omega)) => told_set hok (k := k) (by omega) hy
        obtain ⟨F, hF⟩ : ∃ F, F = signL ++ encs [(t, d)] := ⟨_, rfl⟩
        rw [← hF] at HJ hFl
        have hat2 : ∀ h : 12 + k < F.length, F[12 + k] = (t ++ d)[k]'(by omega) := by
          subst hF; exact fun h => hat
        rw [← hF] at htold
        have hkF : 12 + k < F.length := by omega
        have hz : (F[12 + k] ^^^ yb) ≠ (t ++ d)[k]'(by omega) := by
          rw [← hat2 hkF]
          intro h
          have h2 : F[12 + k] ^^^ (F[12 + k] ^^^ yb) = F[12 + k] ^^^ F[12 + k] := by rw [h]
          rw [← UInt8.xor_assoc, UInt8.xor_self, UInt8.zero_xor] at h2
          rw [h2] at t1
          exact absurd t1 (by decide)
        have htl := htold _ hz
        unfold tellJ at HJ
        obtain ⟨T, hT⟩ : ∃ T, T = strL F := ⟨_, rfl⟩
        have hTs : T.size = 20 + m := by rw [hT, strL_size, hFl]
        have hTl : T.data.toList = F := by rw [hT, strL_list]
        have hkd : 12 + k < T.data.size := by show _ < T.size; omega
        have hTk : T.data[12 + k] = F[12 + k] := by
          rw [← Array.getElem_toList]
          simp only [hTl]
        simp only [← hT] at HJ
        have hxor : Go.bits .xor .u8 ((T.data[12 + k].toNat : Nat) : Int) (yb.toNat : Int) = (((F[12 + k] ^^^ yb).toNat : Nat) : Int) := by
          rw [u8_xor_nat _ _ (UInt8.toNat_lt _) (UInt8.toNat_lt _), UInt8.toNat_xor, hTk]
        have hcv := fun v : World => run_bytes_of_string (P := Try.prog) v 9 36 5 T Try.underlying9 Try.underlying36 Try.underlying5
        have ht := fun (v : World) cap fz => toldC_text v T cap (12 + k) (F[12 + k] ^^^ yb) fz
        rw [hTl] at ht
        have hstr : (⟨(F.set (12 + k) (F[12 + k] ^^^ yb)).toArray⟩ : ByteArray) = strL (F.set (12 + k) (F[12 + k] ^^^ yb)) := rfl
        simp only [hstr] at ht
        have hX := fun v => psplit_any v (F := F.set (12 + k) (F[12 + k] ^^^ yb)) (by rw [List.length_set]; omega)
        obtain ⟨R, hR⟩ : ∃ R, R = splT (F.set (12 + k) (F[12 + k] ^^^ yb)) := ⟨_, rfl⟩
        rw [← hR] at htl
        simp only [← hR] at hX
        obtain ⟨z, hzz⟩ : ∃ z, z = F[12 + k] ^^^ yb := ⟨_, rfl⟩
        obtain ⟨Y, hY⟩ : ∃ Y, Y = strL (F.set (12 + k) (F[12 + k] ^^^ yb)) := ⟨_, rfl⟩
        simp only [← hY] at hX ht
        simp only [← hzz] at ht hxor
        obtain ⟨M, er⟩ := R
        have htl2 : er = 22 ∨ er = 21 ∧ k < 4 := htl
        obtain ⟨j, hj⟩ : ∃ j, j = 12 + k := ⟨_, rfl⟩
        obtain ⟨n, hnn⟩ : ∃ n, n = 4 + m := ⟨_, rfl⟩
        rw [← hnn] at hke
        have HTL := Lib.hid htl2
        have HX := Lib.hid hX
        have HT := Lib.hid ht
        have HCV := Lib.hid hcv
        have hJ := HJ.out (w.alloc (.cells #[.string (strL t), .string (strL d)] 35))
        rw [show (w.alloc (.cells #[.string (strL t), .string (strL d)] 35)).heap.size = w.heap.size + 1 by simp] at hJ
        have HJ3 := Lib.hid hJ
        obtain ⟨N, hN⟩ : ∃ N, N = T.size := ⟨_, rfl⟩
        have d8 : ((N : Int) != 16 + (n : Int)) = false := by rw [hN, hTs]; simp; omega
        have hj16 : k < 4 → j < 16 := by omega
        have HJ16 := Lib.hid hj16
        have HJK := Lib.hid hj
        have hTj : ∀ h : j < T.data.size, Go.bits .xor .u8 ((T.data[j].toNat : Nat) : Int) (yb.toNat : Int) = (z.toNat : Int) := by
          subst hj; exact fun h => hxor
        clear hxor
        have hkd : j < T.data.size := by omega
        have HTJ := Lib.hid (hTj hkd)
        rw [← hj] at HT
        have hnm : (4 : Int) + (m : Int) = (n : Int) := by omega
        have hjk : (12 : Int) + (k : Int) = (j : Int) := by omega
        have hNn : N = 16 + n := by omega
        have hnb : n ≤ 20000 := by omega
        have hn0 : 0 < n := by omega
        have hTN : T.size = N := hN.symm
        have HI := Lib.hid hI
        have hjN : j < N := by omega
        have hjb : j ≤ 30000 := by omega
        have HNM := Lib.hid hnm
        clear hI hJ HJ htl hat hat2 htold hT hTs hTl hTk hcv ht hstr hX hR hzz hY hnn hn hk hFl hF hz hall h4 h4' hok hsd hm h1 htl2 hj hj16 hTj hN hNn hkF hnm
        go_enter Try.func6, Try.ntmps6
        go_wp2_with fail
        refine HJ3.out.mono ?_
        rintro e w1 ⟨rfl, hB⟩
        have hI1 := HI.out.but (((But.refl [] (w.alloc (.cells #[.string (strL t), .string (strL d)] 35))).alloc (.cells #[.string (strL t), .string (strL d)] 35)).trans hB) (by simp)
        have HB2 := Lib.hid (HB1.out.trans hB)
        have hcv := HCV.out w1
        clear hB
        generalize hcap : grownCap w1 T.size 0 5 = cap at *
        have hcs : T.size ≤ cap := by rw [← hcap]; exact grownCap_ge w1 T.size 0 _
        generalize hfz : ((bytesRow T cap).size, (bytesRow T cap).size + 1) = fz at *
        have ce : (w1.alloc (.cells (bytesRow T cap) 5 fz)).cell? ⟨w1.heap.size, j, none⟩ = some (.int .u8 ((T.data[j]'hkd).toNat : Int)) := by
          rw [World.cell?_alloc_mark]; exact bytesRow_at T cap j hkd
        have ef : (w1.alloc (.cells (bytesRow T cap) 5 fz)).frozen? ⟨w1.heap.size, j, none⟩ = false := by
          rw [← hfz, World.frozen?_alloc_mark]
          have : (bytesRow T cap).size = cap := by unfold bytesRow; simp; have h : T.data.size = T.size := rfl; omega
          rw [this]
          simp; omega
        have cd : (w1.alloc (.cells (bytesRow T cap) 5 fz)).cell? ⟨w.heap.size, 1, none⟩ = some (.string (strL d)) := (hI1.alloc _).cell 1
        have ht := HT.out w1 cap fz
        rw [hTN] at hcv ht hcs
        clear hfz hcap hI1
        go_upto_region 7 with (fail)
        go_cut [10] (fun q w2 => q = .int .i64 (n : Int) ∧ w2 = (w1.alloc (.cells (bytesRow T cap) 5 fz)).drew)
        case first =>
          have hnm := HNM.out
          clear ce ef ht hcv
          go_wp2
          go_meet
          exact ⟨rfl, rfl⟩
        case rest =>
        obtain ⟨rfl, rfl⟩ := hcut
        go_upto_region 10 with (fail)
        go_cut [11] (fun q w2 => q = .int .i64 (j : Int) ∧ w2 = (w1.alloc (.cells (bytesRow T cap) 5 fz)).drew)
        case first =>
          clear ce ef ht hcv
          go_wp2
          go_meet
          exact ⟨rfl, rfl⟩
        case rest =>
        obtain ⟨rfl, rfl⟩ := hcut
        have hxj := HTJ.out
        clear hke
        go_wp2_with fail
        have hB3 := ((HB2.out.alloc (.cells (bytesRow T cap) 5 fz)).setCell (p := ⟨w1.heap.size, j, none⟩) (.inr HB2.out.size) (.int .u8 (z.toNat : Int))).drew
        have HB3 := Lib.hid hB3
        clear hB3
        refine (HX.out _).mono ?_
        rintro e w3 ⟨v, rfl, hO, hB⟩
        obtain ⟨A3, c3, rfl, _⟩ := hO.open
        have HB4 := Lib.hid (HB3.out.trans hB)
        clear hB hO
        rcases HTL.out with he | ⟨he, hk4⟩
        · obtain rfl : er = 22 := he
          go_wp2_with fail
          refine (HA.out _).mono ?_
          rintro e w4 ⟨rfl, hB⟩
          have HB5 := Lib.hid (HB4.out.trans hB)
          clear hB
          go_wp2
          go_ret
          exact ⟨rfl, HB5.out.belowC⟩
        · obtain rfl : er = 21 := he
          have dj : decide ((j : Int) < 16) = true := by have := HJ16.out hk4; simp; omega
          go_wp2_with fail
          refine (HA.out _).mono ?_
          rintro e w4 ⟨rfl, hB⟩
          have HB5 := Lib.hid (HB4.out.trans hB)
          clear hB
          go_wp2
          go_ret
          exact ⟨rfl, HB5.out.belowC⟩
      · rw [join_not (show ¬ [(t, d)].all okC = true by rw [List.all_cons, Bool.and_eq_true]; exact fun h => hok h.1)] at HJ
        have HJ2 : Hid (∀ v : World, Calls Try.prog 14 #[.slice (some ⟨v.heap.size, 0, none⟩) 1 1] (v.alloc (.cells #[.string (strL t), .string (strL d)] 35)) fun e w' => e = .returned (.tuple #[.string ⟨#[]⟩, .int .i64 21]) ∧ But [] (v.alloc (.cells #[.string (strL t), .string (strL d)] 35)) w') := HJ
        have hJ := HJ2.out (w.alloc (.cells #[.string (strL t), .string (strL d)] 35))
        rw [show (w.alloc (.cells #[.string (strL t), .string (strL d)] 35)).heap.size = w.heap.size + 1 by simp] at hJ
        have HJ3 := Lib.hid hJ
        clear hok hm h1 hsd HJ HJ2 hx0 hJ
        go_enter Try.func6, Try.ntmps6
        go_wp2_with fail
        refine HJ3.out.mono ?_
        rintro e w1 ⟨rfl, hB⟩
        have HB2 := Lib.hid (HB1.out.trans hB)
        clear hB
        go_wp2_with fail
        refine (HA.out _).mono ?_
        rintro e w2 ⟨rfl, hB⟩
        have HB3 := Lib.hid (HB2.out.trans hB)
        clear hB
        go_wp2
        go_ret
        exact ⟨rfl, HB3.out.belowC⟩
end Go.Proofs.Ytdfjdajfkamafaa
