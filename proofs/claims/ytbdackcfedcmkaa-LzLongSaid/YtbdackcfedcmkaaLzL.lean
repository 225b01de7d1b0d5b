/- The walks of the statements of layer 4 that need no document's answer. -/
import Derived.Test.YtbdackcfedcmkaaLzK
import Derived.Lib.Strings
set_option maxRecDepth 100000
set_option linter.unusedVariables false
namespace Go.Proofs.Ytbdackcfedcmkaa
set_option maxRecDepth 100000
open Go Go.RowKit Go.ChangeShapes Go.WideShapes

theorem span_snoc {P : List Tk} {k : Nat} (h : k < P.length) : ((P.take (k + 1)).map spanTk).sum = ((P.take k).map spanTk).sum + spanTk P[k] := by
  rw [List.take_succ_eq_append_getElem h, List.map_append, List.sum_append]; simp
theorem span_le {P : List Tk} (hP : ∀ t ∈ P, t.1 ≤ 258) (k : Nat) : ((P.take k).map spanTk).sum ≤ 258 * k := by
  induction k with
  | zero => simp
  | succ k ih =>
    by_cases h : k < P.length
    · rw [span_snoc h]
      have h1 := hP _ (List.getElem_mem h)
      have e : spanTk P[k] ≤ 258 := by unfold spanTk; omega
      omega
    · rw [List.take_of_length_le (by omega)] at ih ⊢; omega
set_option maxHeartbeats 2000000 in
theorem lzBack_walk {s : ByteArray} {w : World} (hs : s.size ≤ 140737488351232) :
    Calls Try.prog 5 #[.string s] w fun e w' => e = .returned (.bool true) ∧ Below w.heap.size w w' := by
  by_cases hbig : 20000 < s.size
  · go_enter Try.func5, Try.ntmps5
    go_wp2_with fail
    refine (awake_any w).mono ?_
    rintro e w1 ⟨rfl, hB1⟩
    have HB1 := Lib.hid hB1
    clear hB1
    go_wp2
    go_ret
    exact ⟨rfl, HB1.out.belowNew⟩
  · have hal := toks_few s.data.toList
    rw [len_data] at hal
    have hri := toks_right s.data.toList s.data.toList.length 0
    have hsp := toks_span s.data.toList s.data.toList.length 0 (by omega) (Nat.zero_le _)
    rw [len_data] at hsp
    have hbk := toks_back s.data.toList
    have hT := fun v => tokens_any v (s := s) (by omega)
    obtain ⟨P, hP⟩ : ∃ P, P = toks s.data.toList := ⟨_, rfl⟩
    have hP2 : P = toksG s.data.toList s.data.toList.length 0 := hP
    rw [← hP] at hT hal hbk
    rw [← hP2] at hri
    rw [← len_data, ← hP2, len_data] at hsp
    clear hP hP2
    obtain ⟨n, hn⟩ : ∃ n, n = P.length := ⟨_, rfl⟩
    have hml : (P.map tkI).length = n := by rw [List.length_map, hn]
    obtain ⟨L, hL⟩ : ∃ L, L = P.map tkI := ⟨_, rfl⟩
    rw [← hL] at hT hbk hml
    have hxv : exVal (exG L []) = .tuple #[.string s, .int .i64 0] := by
      rw [hbk]; unfold exVal; simp
    have hn2 : n ≤ s.size := by omega
    have hn3 : n ≤ 20000 := by omega
    have HSL := Lib.hid (span_le (fun t h => (hri t h).2.2))
    have HT := Lib.hid hT
    have HRI := Lib.hid hri
    have HSP := Lib.hid (show ((P.map spanTk)).sum = s.size by omega)
    have HXV := Lib.hid hxv
    have HLE := Lib.hid hL
    have HML := Lib.hid hml
    have HNN := Lib.hid hn
    clear hT hri hsp hbk hxv hL hml hal hn
    go_enter Try.func5, Try.ntmps5
    go_wp2_with fail
    refine (HT.out w).mono ?_
    rintro e w1 ⟨v, rfl, hO1, hB1⟩
    obtain ⟨A1, c1, rfl, hT1⟩ := hO1.open
    rw [HML.out] at hT1 ⊢
    have HB1 := Lib.hid hB1
    have HT1 := Lib.hid hT1
    clear hO1 hB1 hT1 HT
    go_wp2_with fail
    refine (expand_any HT1.out hn3).mono ?_
    rintro e w2 ⟨rfl, hB2⟩
    rw [HXV.out]
    have HB2 := Lib.hid (HB1.out.trans hB2)
    have HT2 := Lib.hid (HT1.out.but hB2)
    clear hB2 HB1 HT1 HXV
    go_wp2
    go_loopw [6, 7] (fun nv iv wr => ∃ k : Nat, k ≤ n ∧ iv = .int .i64 k ∧ nv = .int .i64 (((P.take k).map spanTk).sum : Nat) ∧ Hid (Tks wr A1 n L) ∧ Hid (But [] w wr)) (fun _ iv _ => n - (intOf iv).toNat)
    case atStart => exact ⟨0, Nat.zero_le _, rfl, rfl, HT2, HB2⟩
    case round =>
      obtain ⟨k, hk, rfl, rfl, HT3, HB3⟩ := hrel
      clear HT2 HB2
      by_cases hlt : k < n
      · obtain ⟨g, o, b, x, d, rfl, hg, c0, c1, c2, hlk⟩ := HT3.out.at hlt
        have hkP : k < P.length := by have := HNN.out; omega
        have hmem := HRI.out _ (List.getElem_mem hkP)
        have hsn := span_snoc hkP
        have hsl := HSL.out k
        have hPk : tkI P[k] = (x, d, b) := by
          have h := hlk
          rw [HLE.out, List.getElem?_map, List.getElem?_eq_getElem hkP] at h
          simpa using h
        rw [hPk] at hmem
        obtain ⟨hr1, hr2, hr3⟩ := hmem
        obtain ⟨t, ht⟩ : ∃ t, t = P[k] := ⟨_, rfl⟩
        rw [← ht] at hPk hr2 hr3 hsn
        obtain ⟨X, D, B⟩ := t
        unfold tkI at hPk
        injection hPk with q1 q2
        injection q2 with q2 q3
        dsimp only at q1 q2 q3 hr2 hr3
        subst q1 q2 q3
        obtain ⟨S, hS⟩ : ∃ S, S = ((P.take k).map spanTk).sum := ⟨_, rfl⟩
        rw [← hS] at hsn hsl ⊢
        have hsn2 : ((P.take (k + 1)).map spanTk).sum = S + max X 1 := hsn
        have HSN := Lib.hid hsn2
        have i0' : (0 : Int) ≤ (k : Int) := by omega
        have i1' : (k : Int) < (n : Int) := by omega
        have d1 : decide ((512 : Int) < (D : Int)) = false := by simp; omega
        clear hsn hsn2 hS ht hlk
        go_wp2_with fail
        refine (right_any wr ((X : Int), (D : Int), (B : Int))).mono ?_
        rintro e w4 ⟨rfl, hB4⟩
        rw [hr1]
        have e0 := hB4.cell c0 (by simp)
        have e1 := hB4.cell c1 (by simp)
        have e2 := hB4.cell c2 (by simp)
        have HT4 := Lib.hid (HT3.out.but hB4)
        have HB4 := Lib.hid (HB3.out.trans hB4)
        clear c0 c1 c2 hB4 HT3 HB3
        by_cases hx : X = 0
        · subst hx
          go_wp2
          go_roundw
          case rel => exact ⟨k + 1, by omega, by go_num, by rw [HSN.out]; go_num, HT4, HB4⟩
          case measure => simp [intOf]; omega
        · go_wp2
          go_roundw
          case rel => exact ⟨k + 1, by omega, by go_num, by rw [HSN.out, show max X 1 = X by omega]; go_num, HT4, HB4⟩
          case measure => simp [intOf]; omega
      · have HEK := Lib.hid (show ((P.take k).map spanTk).sum = s.size by
          rw [List.take_of_length_le (by have := HNN.out; omega)]; exact HSP.out)
        rw [HEK.out]
        have exx : (s.toList == s.toList) = true := by simp
        have d1 : decide ((n : Int) ≤ (s.size : Int)) = true := by simp; omega
        have d2 : decide (n ≤ s.size) = true := by simpa using hn2
        have d3 : ((s.size : Int) == (s.size : Int)) = true := by simp
        go_wp2_with fail
        refine (awake_any _).mono ?_
        rintro e w5 ⟨rfl, hB5⟩
        have HB5 := Lib.hid (HB3.out.trans hB5)
        clear hB5 HB3
        go_wp2
        go_ret
        exact ⟨rfl, HB5.out.belowNew⟩

/-- So many times these bytes. -/
def repB (p : ByteArray) : Nat → ByteArray
  | 0 => ByteArray.empty
  | k + 1 => repB p k ++ p
theorem size_repB (p : ByteArray) : ∀ k, (repB p k).size = k * p.size
  | 0 => by simp [repB]
  | k + 1 => by rw [repB, ByteArray.size_append, size_repB p k, Nat.succ_mul]
theorem repL (p : ByteArray) : ∀ k, (repB p (k + 1)).data.toList = p.data.toList ++ (repB p k).data.toList
  | 0 => by simp [repB]
  | k + 1 => by
    have e : (repB p (k + 1 + 1)).data.toList = (repB p (k + 1)).data.toList ++ p.data.toList := by rw [repB]; simp
    have e2 : (repB p (k + 1)).data.toList = (repB p k).data.toList ++ p.data.toList := by rw [repB]; simp
    rw [e, repL p k, List.append_assoc, ← e2, repL p k]
theorem again_repB (p : ByteArray) (k : Nat) : Again (repB p k).data.toList p.size := by
  cases k with
  | zero => intro i h1 h2; simp [repB] at h2
  | succ k =>
    intro i h1 h2
    have e2 : (repB p (k + 1)).data.toList = (repB p k).data.toList ++ p.data.toList := by rw [repB]; simp
    have hl : (repB p (k + 1)).data.toList.length = (repB p k).data.toList.length + p.size := by rw [e2, List.length_append]; simp
    have h3 : (repB p (k + 1)).data.toList.getD i 0 = (repB p k).data.toList.getD (i - p.size) 0 := by
      rw [repL, List.getD_eq_getElem?_getD, List.getElem?_append_right (by simpa using h1), List.getD_eq_getElem?_getD]; simp
    have h4 : (repB p (k + 1)).data.toList.getD (i - p.size) 0 = (repB p k).data.toList.getD (i - p.size) 0 := by
      rw [e2, List.getD_eq_getElem?_getD, List.getElem?_append_left (by omega), List.getD_eq_getElem?_getD]
    rw [h3, h4]
theorem toks_repB {p : ByteArray} {k : Nat} (hk : 1 ≤ k) (h1 : 1 ≤ p.size) (h2 : p.size ≤ 512) : ((toks (repB p k).data.toList).map tkI).length ≤ p.size + ((repB p k).size - p.size) / 258 + 2 := by
  rw [List.length_map]
  have hs := size_repB p k
  have hm : p.size ≤ k * p.size := Nat.le_mul_of_pos_left _ hk
  have h := toks_long (again_repB p k) h1 h2 (by rw [len_data, hs]; exact hm)
  rw [len_data] at h
  exact h
set_option maxHeartbeats 2000000 in
theorem lzLong_walk {s : ByteArray} {t : Int} {w : World} (hs : s.size ≤ 140737488351232) (ht : (Lit.int .i64 t).wf = true) :
    Calls Try.prog 6 #[.string s, .int .i64 t] w fun e w' => e = .returned (.bool true) ∧ Below w.heap.size w w' := by
  by_cases hsmall : s.size < 1
  · go_enter Try.func6, Try.ntmps6
    go_wp2_with fail
    refine (awake_any w).mono ?_
    rintro e w1 ⟨rfl, hB1⟩
    have HB1 := Lib.hid hB1
    clear hB1
    go_wp2
    go_ret
    exact ⟨rfl, HB1.out.belowNew⟩
  · by_cases hbig : 200 < s.size
    · go_enter Try.func6, Try.ntmps6
      go_wp2_with fail
      refine (awake_any w).mono ?_
      rintro e w1 ⟨rfl, hB1⟩
      have HB1 := Lib.hid hB1
      clear hB1
      go_wp2
      go_ret
      exact ⟨rfl, HB1.out.belowNew⟩
    · obtain ⟨K, hK⟩ : ∃ K : Nat, (K : Int) = min (max t 1) 40 := ⟨(min (max t 1) 40).toNat, by omega⟩
      have hK1 : 1 ≤ K := by omega
      have hK2 : K ≤ 40 := by omega
      have HK := Lib.hid hK
      have z1 : decide ((s.size : Int) < 1) = false := by simp; omega
      have z2 : decide ((200 : Int) < (s.size : Int)) = false := by simp; omega
      clear hK ht
      go_enter Try.func6, Try.ntmps6
      go_upto_region 3 with (fail)
      go_cut [5] from 17 to 19 (fun v wx => v = .int .i64 K ∧ w = wx)
      case first =>
        go_wp2
        all_goals (go_meet; exact ⟨by rw [HK.out]; congr 1; omega, rfl⟩)
      case rest =>
        obtain ⟨rfl, rfl⟩ := hcut
        clear HK
        go_wp2
        go_loopw [6, 7] (fun dv iv wr => ∃ k : Nat, k ≤ K ∧ iv = .int .i64 k ∧ dv = .string (repB s k) ∧ w = wr) (fun _ iv _ => K - (intOf iv).toNat)
        case atStart => exact ⟨0, Nat.zero_le _, rfl, rfl, rfl⟩
        case round =>
          obtain ⟨k, hk, rfl, rfl, rfl⟩ := hrel
          have hsz := size_repB s k
          have hsz2 : (repB s k).size ≤ 40 * 200 := by
            rw [hsz]; exact Nat.mul_le_mul (by omega) (by omega)
          have HSZ := Lib.hid hsz
          clear hsz
          by_cases hlt : k < K
          · have hap : repB s k ++ s = repB s (k + 1) := rfl
            have HAP := Lib.hid hap
            clear hap
            obtain ⟨q, hq⟩ : ∃ q, q = repB s k := ⟨_, rfl⟩
            rw [← hq] at HAP hsz2 ⊢
            clear hq HSZ
            go_wp2
            go_roundw
            case rel => exact ⟨k + 1, by omega, by go_num, by rw [← HAP.out], trivial⟩
            case measure => simp [intOf]; omega
          · obtain rfl : k = K := by omega
            have hfew := toks_repB (p := s) hK1 (by omega) (by omega)
            have hT := tokens_any w (s := repB s k) (by omega)
            have hge : s.size ≤ (repB s k).size := by rw [HSZ.out]; exact Nat.le_mul_of_pos_left _ hK1
            obtain ⟨P, hP⟩ : ∃ P, P = (toks (repB s k).data.toList).map tkI := ⟨_, rfl⟩
            rw [← hP] at hT hfew
            obtain ⟨q, hq⟩ : ∃ q, q = repB s k := ⟨_, rfl⟩
            rw [← hq] at hT hfew hsz2 hge ⊢
            clear hP hq HSZ
            obtain ⟨m, hm⟩ : ∃ m, m = (q.size - s.size) / 258 := ⟨_, rfl⟩
            have hm2 : m ≤ 8000 := by omega
            rw [← hm] at hfew
            have em : Int.tdiv ((q.size : Int) - (s.size : Int)) 258 = (m : Int) := by
              rw [Int.tdiv_eq_ediv_of_nonneg (by omega)]; omega
            have ew : IntKind.i64.wrap (m : Int) = (m : Int) := IntWalk.i64_in _ (by omega)
            have ew2 : wrap64 (m : Int) = (m : Int) := IntWalk.wrap64_in _ ⟨by omega, by omega⟩
            have em2 : ((q.size : Int) - (s.size : Int)) / 258 = (m : Int) := by omega
            have HTT := Lib.hid hT
            clear hT hm
            go_wp2_with fail
            refine HTT.out.mono ?_
            rintro e w1 ⟨v, rfl, hO1, hB1⟩
            obtain ⟨A1, c1, rfl, hT1⟩ := hO1.open
            have HB1 := Lib.hid hB1
            clear hO1 hB1 hT1 HTT
            obtain ⟨n, hn⟩ : ∃ n, n = P.length := ⟨_, rfl⟩
            rw [← hn] at hfew ⊢
            clear hn
            have d1 : decide ((n : Int) ≤ (s.size : Int) + (m : Int) + 3) = true := by simp; omega
            go_wp2_with fail
            refine (awake_any _).mono ?_
            rintro e w5 ⟨rfl, hB5⟩
            have HB5 := Lib.hid (HB1.out.trans hB5)
            clear hB5 HB1
            go_wp2
            go_ret
            exact ⟨rfl, HB5.out.belowNew⟩
end Go.Proofs.Ytbdackcfedcmkaa
