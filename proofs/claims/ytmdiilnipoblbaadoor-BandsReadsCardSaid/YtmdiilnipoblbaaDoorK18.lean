/- Several texts in one: Math, BaN, ZlD, BaE, BbA, BbB, RpC, BbC, BbE (what BandsJoins, BandsReads reach of them). -/
import Derived.Test.YtmdiilnipoblbaaDoorK01
import Derived.Test.YtmdiilnipoblbaaDoorK02
import Derived.Test.YtmdiilnipoblbaaDoorK03
import Derived.Test.YtmdiilnipoblbaaDoorK08
import Derived.Test.YtmdiilnipoblbaaDoorK14
import Derived.Below
import Derived.BigQuiet
import Derived.BigRegion
import Derived.Deep.AppendLies
import Derived.Deep.Cut
import Derived.Deep.CutBlock
import Derived.Deep.CutRange
import Derived.Deep.DeepCutAuto
import Derived.Deep.Draws
import Derived.Deep.LoopGhost
import Derived.Deep.QuietTactic
import Derived.Deep.RegionLaw
import Derived.Deep.RegionWith
import Derived.Deep.Slices
import Derived.Handy
import Derived.Laws.BitsAllLaws
import Derived.Laws.BitsLemmas
import Derived.Laws.BytesArg
import Derived.Laws.Externs
import Derived.Laws.IdiomStrings
import Derived.Laws.MakeOwn
import Derived.Laws.OwnMore
import Derived.Laws.Rows
import Derived.Laws.StructEq
import Derived.Lib.AppendStr
import Derived.Lib.BufferWrite
import Derived.Lib.Hide
import Derived.Lib.UnsafeStr
import Derived.Maps.AppendAt
import Derived.OpenShut
import Derived.OrdersHeld
import Derived.OrdersIn
import Derived.Outline
import Derived.OwnWalk
import Derived.OwnWalkIn
import Derived.ProofKit
import Derived.RangeFuncCalls
import Derived.RegionTactic
import Derived.Shelf.LaysM
import Derived.Shelf.Small.Wraps
import Derived.Shelf.Strconv.Clone
import Derived.Shelf.Strings.Builder1
import Derived.Shelf.Strings.BuilderF
import Derived.Shelf.Strings.Prefix
import Derived.Shelf.Strings.Repeat
import Derived.Sort.CutIn
import Derived.TacticsInMore
import Derived.Test.YtmdiilnipoblbaaDoorChecked
import Derived.WalkKit
set_option maxRecDepth 100000
set_option linter.unusedVariables false
namespace Go.Proofs.YtmdiilnipoblbaaDoor
set_option maxRecDepth 100000
open Go
theorem take_snoc (s : ByteArray) (k : Nat) (h : k < s.size) : s.data.toList.take (k + 1) = s.data.toList.take k ++ [s[k]] := by
  rw [List.take_succ_eq_append_getElem (by simpa using h)]; rfl
theorem take_all (s : ByteArray) : s.data.toList.take s.size = s.data.toList := List.take_of_length_le (Nat.le_of_eq (Array.length_toList.trans rfl))
end Go.Proofs.YtmdiilnipoblbaaDoor
set_option linter.unusedVariables false
namespace Go.Proofs.YtmdiilnipoblbaaDoor
set_option maxRecDepth 100000
open Go
/-- The hashes that stand in a manifest. -/
def hashB (s : List UInt8) (i : Nat) : List UInt8 := (s.drop (8 + 32 * i)).take 32
def manW (s : List UInt8) : Nat := ofL (s.take 4)
def manH (s : List UInt8) : Nat := ofL ((s.drop 4).take 4)
/-- Whether a manifest may be. -/
def okM (s : List UInt8) : Prop := 8 ≤ s.length ∧ rightH (manW s : Int) (manH s : Int) 16 6 0 = 0 ∧ s.length = 8 + 32 * manyB (manH s)
def hashesB (s : List UInt8) : List (List UInt8) := (List.range (manyB (manH s))).map (hashB s)
theorem manW_lt (s : List UInt8) (h : 8 ≤ s.length) : manW s < 4294967296 := ofL_lt4 (by rw [List.length_take]; omega)
theorem manH_lt (s : List UInt8) (h : 8 ≤ s.length) : manH s < 4294967296 := ofL_lt4 (by rw [List.length_take, List.length_drop]; omega)
theorem hashesB_length (s : List UInt8) : (hashesB s).length = manyB (manH s) := by unfold hashesB; rw [List.length_map, List.length_range]
theorem okM_right {s : List UInt8} (h : okM s) : 1 ≤ manW s ∧ manW s ≤ 1024 ∧ 1 ≤ manH s ∧ manH s ≤ 1024 := by
  have h1 := h.2.1
  unfold rightH at h1
  split at h1
  · cases h1
  · split at h1
    · cases h1
    · omega
end Go.Proofs.YtmdiilnipoblbaaDoor
set_option maxRecDepth 100000
set_option linter.unusedVariables false
namespace Go.Proofs.YtmdiilnipoblbaaDoor
set_option maxRecDepth 100000
open Go Go.RowKit
theorem ofL_snoc (l : List UInt8) (b : UInt8) : ofL (l ++ [b]) = 256 * ofL l + b.toNat := by
  unfold ofL; rw [List.foldl_append]; rfl
theorem ofL_small : ∀ (n : Nat) (l : List UInt8), l.length = n → n ≤ 7 → ofL l < 256 ^ n
  | 0, l, h, _ => by rw [List.length_eq_zero_iff.1 h]; decide
  | n + 1, l, h, h7 => by
    have hne : l ≠ [] := fun e => by rw [e] at h; simp at h
    rw [← List.dropLast_concat_getLast hne, ofL_snoc]
    have ih := ofL_small n l.dropLast (by rw [List.length_dropLast, h]; rfl) (by omega)
    have hb := (l.getLast hne).toNat_lt
    rw [Nat.pow_succ]
    omega
set_option maxHeartbeats 1000000 in
theorem eof_any (w : World) {s : ByteArray} (hs : s.size ≤ 7) :
    Calls Tryd.prog 34 #[.string s] w fun e w' => e = .returned (.int .i64 (ofL s.data.toList)) ∧ w = w' := by
  have hsm : ∀ k, k < s.size → ofL (s.data.toList.take k) < 281474976710656 := fun k hk => by
    have h := ofL_small k (s.data.toList.take k) (by rw [List.length_take, show s.data.toList.length = s.size by simp]; omega) (by omega)
    have h2 : 256 ^ k ≤ 256 ^ 6 := Nat.pow_le_pow_right (by decide) (by omega)
    omega
  have HSM := Lib.hid hsm
  clear hsm
  go_enter Tryd.func34, Tryd.ntmps34
  go_wp2
  go_loop [3, 4] (fun n i => ∃ k : Nat, k ≤ s.size ∧ i = .int .i64 k ∧ n = .int .i64 (ofL (s.data.toList.take k))) (fun _ i => s.size - (intOf i).toNat)
  case atStart => exact ⟨0, Nat.zero_le _, rfl, rfl⟩
  case round =>
    obtain ⟨k, hk, rfl, rfl⟩ := hrel
    by_cases hk2 : k < s.size
    · have hb := s[k].toNat_lt
      have hts := take_snoc s k hk2
      have h0 := HSM.out k hk2
      have HS : Hid (ofL (s.data.toList.take (k + 1)) = 256 * ofL (s.data.toList.take k) + s[k].toNat) := by rw [hts, ofL_snoc]; exact rfl
      obtain ⟨x, hx⟩ : ∃ x, x = ofL (s.data.toList.take k) := ⟨_, rfl⟩
      rw [← hx] at HS h0 ⊢
      clear hts hx
      go_wp2
      go_round
      case rel => exact ⟨k + 1, by omega, by go_num, by rw [HS.out]; go_num⟩
      case measure => simp [intOf]; omega
    · have e : s.data.toList.take k = s.data.toList := by rw [show k = s.size from by omega]; exact take_all s
      rw [e]
      clear e
      go_wp2
      go_ret
      exact ⟨rfl, rfl⟩
end Go.Proofs.YtmdiilnipoblbaaDoor
set_option maxRecDepth 100000
set_option linter.unusedVariables false
namespace Go.Proofs.YtmdiilnipoblbaaDoor
set_option maxRecDepth 100000
open Go Go.RowKit
theorem cutB_mid (s : List UInt8) {i j : Nat} (h : i ≤ j) (W : World) (hj : j ≤ s.length) : (Instr.slice 9 (.string (strL s)) (some (.int .i64 (i : Int))) (some (.int .i64 (j : Int))) none).run Tryd.prog W = .ok (.string (strL ((s.drop i).take (j - i)))) W := by
  rw [run_slice_string W 9 (strL s) .i64 .i64 (i : Int) (j : Int) Tryd.underlying9 (by omega) (by omega) (by rw [strL_size]; omega), Int.toNat_natCast, Int.toNat_natCast, ext_list, strL_list, List.drop_take]
theorem results_tmp4 {fn : Func} {t u v x : Tmp} (h : fn.results = #[.tmp t, .tmp u, .tmp v, .tmp x]) (tmps : Array Value) (P : Program) (w : World) :
    (results fn tmps).run P w = .ok (.tuple #[tmps.getD t undef, tmps.getD u undef, tmps.getD v undef, tmps.getD x undef]) w := by
  simp [results, h]
/-- The first hashes. -/
def hashU (s : List UInt8) (k : Nat) : List ByteArray := (List.range k).map fun i => strL (hashB s i)
theorem hashU_next (s : List UInt8) (k : Nat) : hashU s (k + 1) = hashU s k ++ [strL (hashB s k)] := by unfold hashU; rw [List.range_succ, List.map_append]; rfl
theorem hashU_len (s : List UInt8) (k : Nat) : (hashU s k).length = k := by unfold hashU; rw [List.length_map, List.length_range]
theorem hashU_all (s : List UInt8) : hashU s (manyB (manH s)) = (hashesB s).map strL := by unfold hashU hashesB; rw [List.map_map]; rfl
set_option maxHeartbeats 1000000 in
theorem ereadB_any (w : World) {s : List UInt8} (h : okM s) :
    Calls Tryd.prog 18 #[.string (strL s)] w fun e w' => ∃ b v, e = .returned (.tuple #[.int .i64 (manW s : Nat), .int .i64 (manH s : Nat), v, .int .i64 0]) ∧ OwnSt w' b v ((hashesB s).map strL) ∧ But [] w w' := by
  have hR := okM_right h
  obtain ⟨h8, hr, hl⟩ := h
  have k4 : ∀ v, (Instr.slice 9 (.string (strL s)) none (some (.int .i64 4)) none).run Tryd.prog v = .ok (.string (strL (s.take 4))) v := fun v => cutB_to s (j := 4) v (by omega)
  have k8 : ∀ v, (Instr.slice 9 (.string (strL s)) (some (.int .i64 4)) (some (.int .i64 8)) none).run Tryd.prog v = .ok (.string (strL ((s.drop 4).take 4))) v := fun v => cutB_mid s (i := 4) (j := 8) (by omega) v (by omega)
  have HF1 : Hid (∀ v, Calls Tryd.prog 34 #[.string (strL (s.take 4))] v fun e w' => e = .returned (.int .i64 (manW s : Nat)) ∧ v = w') := Lib.hid fun v => by
    have := eof_any v (s := strL (s.take 4)) (by rw [strL_size, List.length_take]; omega)
    rw [strL_list] at this
    exact this
  have HF2 : Hid (∀ v, Calls Tryd.prog 34 #[.string (strL ((s.drop 4).take 4))] v fun e w' => e = .returned (.int .i64 (manH s : Nat)) ∧ v = w') := Lib.hid fun v => by
    have := eof_any v (s := strL ((s.drop 4).take 4)) (by rw [strL_size, List.length_take]; omega)
    rw [strL_list] at this
    exact this
  have hsz : (strL s).size = s.length := strL_size s
  obtain ⟨m, hm⟩ : ∃ m, m = manyB (manH s) := ⟨_, rfl⟩
  rw [← hm] at hl
  have hml : m ≤ 128 := by rw [hm]; unfold manyB; omega
  have HL9 : Hid (hashU s m = (hashesB s).map strL) := Lib.hid (by rw [hm, hashU_all])
  have HM : Hid (∀ v, Calls Tryd.prog 26 #[.int .i64 (manH s : Nat)] v fun e w' => e = .returned (.int .i64 (m : Nat)) ∧ v = w') := Lib.hid fun v => by rw [hm]; exact (emanyB_any v (by omega)).mono fun _ _ h => ⟨h.1, h.2.symm⟩
  have HK : Hid (∀ i, i < m → ∀ p q : Nat, p = 8 + 32 * i → q = 40 + 32 * i → ∀ v, (Instr.slice 9 (.string (strL s)) (some (.int .i64 (p : Int))) (some (.int .i64 (q : Int))) none).run Tryd.prog v = .ok (.string (strL (hashB s i))) v) := Lib.hid fun i hi p q hp hq v => by
    have h := cutB_mid s (i := p) (j := q) (by omega) v (by omega)
    rw [hp, hq, show 40 + 32 * i - (8 + 32 * i) = 32 by omega] at h
    rw [hp, hq]
    exact h
  have HE : Hid (∀ v, Calls Tryd.prog 35 #[.agg #[.int .i64 (manW s : Nat), .int .i64 (manH s : Nat), .int .i64 16, .int .i64 6, .int .i64 0]] v fun e w' => e = .returned (.int .i64 0) ∧ But [] v w') := Lib.hid fun v => (eright_h v (manW s : Nat) (manH s : Nat) 16 6 0).mono fun _ _ h => ⟨by rw [h.1, hr], h.2⟩
  obtain ⟨LL, hLL⟩ : ∃ z, z = (hashesB s).map strL := ⟨_, rfl⟩
  rw [← hLL] at HL9 ⊢
  obtain ⟨W, hW⟩ : ∃ z, z = manW s := ⟨_, rfl⟩
  obtain ⟨H, hH⟩ : ∃ z, z = manH s := ⟨_, rfl⟩
  rw [← hW] at HF1 HE ⊢
  rw [← hH] at HF2 HE HM ⊢
  obtain ⟨f, hf⟩ : ∃ z, z = strL s := ⟨_, rfl⟩
  obtain ⟨t0, ht0⟩ : ∃ z, z = 32 * m := ⟨_, rfl⟩
  obtain ⟨t, ht⟩ : ∃ z, z = 8 + 32 * m := ⟨_, rfl⟩
  have hfz : f.size = t := by rw [hf, hsz, hl, ht]
  rw [← hf] at k4 k8 HK ⊢
  obtain ⟨t1, ht1⟩ : ∃ z, z = strL (s.take 4) := ⟨_, rfl⟩
  obtain ⟨t2, ht2⟩ : ∃ z, z = strL ((s.drop 4).take 4) := ⟨_, rfl⟩
  rw [← ht1] at HF1
  rw [← ht2] at HF2
  simp only [← ht1] at k4
  simp only [← ht2] at k8
  have q1 : ¬ (t : Int) < 8 := by omega
  have e1 : (32 : Int) * (m : Int) = (t0 : Int) := by omega
  have e2 : (8 : Int) + (t0 : Int) = (t : Int) := by omega
  have v1 := wrapI_in (show t0 < 1000000000000000 by omega)
  have v2 := wrapI_in (show t < 1000000000000000 by omega)
  clear ht1 ht2 hsz hl hm hr hLL hW hH hf h8 hR ht ht0
  go_enter Tryd.func18, Tryd.ntmps18
  go_wp2_with fail
  refine (HF1.out _).mono ?_
  rintro e wz ⟨rfl, rfl⟩
  go_wp2_with fail
  refine (HF2.out _).mono ?_
  rintro e wz ⟨rfl, rfl⟩
  go_wp2_with fail
  refine (HE.out _).mono ?_
  rintro e w1 ⟨rfl, hB1⟩
  have HB1 := Lib.hid hB1
  clear hB1
  go_wp2_with fail
  refine (HM.out _).mono ?_
  rintro e wz ⟨rfl, rfl⟩
  go_wp2_with fail
  go_loopw [8, 9] (fun ov iv wr => ∃ i : Nat, i ≤ m ∧ iv = .int .i64 i ∧ Hid (OwnSt wr w1.heap.size ov (hashU s i)) ∧ Hid (But [] w1 wr)) (fun _ iv _ => m - (intOf iv).toNat)
  case atStart => exact ⟨0, Nat.zero_le _, rfl, Lib.hid (OwnSt.nil _ _), Lib.hid (But.refl [] _)⟩
  case round =>
    obtain ⟨i, hi, rfl, HO, HB⟩ := hrel
    by_cases hlt : i < m
    · obtain ⟨j, hj⟩ : ∃ z, z = 32 * i := ⟨_, rfl⟩
      obtain ⟨p, hp⟩ : ∃ z, z = 8 + 32 * i := ⟨_, rfl⟩
      obtain ⟨q, hq⟩ : ∃ z, z = 40 + 32 * i := ⟨_, rfl⟩
      have k1 := HK.out i hlt p q hp hq
      have f1 : (32 : Int) * (i : Int) = (j : Int) := by omega
      have f2 : (8 : Int) + (j : Int) = (p : Int) := by omega
      have f3 : (40 : Int) + (j : Int) = (q : Int) := by omega
      have u1 := wrapI_in (show j < 1000000000000000 by omega)
      have u2 := wrapI_in (show p < 1000000000000000 by omega)
      have u3 := wrapI_in (show q < 1000000000000000 by omega)
      obtain ⟨L, hL⟩ : ∃ z, z = hashU s i := ⟨_, rfl⟩
      have hlen : L.length = i := by rw [hL, hashU_len]
      have HLE := Lib.hid hlen
      have HN : Hid (hashU s (i + 1) = L ++ [strL (hashB s i)]) := Lib.hid (by rw [hL, hashU_next])
      rw [← hL] at HO
      obtain ⟨b, hb⟩ : ∃ z, z = strL (hashB s i) := ⟨_, rfl⟩
      rw [← hb] at HN
      simp only [← hb] at k1
      obtain ⟨A0, cp0, rfl, _⟩ := HO.out.shape
      have i1 : (i : Int) < (m : Int) := by omega
      have HLB : Hid (L.length < 1000000) := Lib.hid (by rw [HLE.out]; omega)
      clear hb hL hlen q1 k4 k8 hj hp hq e1 e2
      go_wp2_with fail
      refine (HM.out _).mono ?_
      rintro e wz ⟨rfl, rfl⟩
      go_wp2_with (at_builtin; refine wpList_append_st (w0 := w1) _ rfl _ _ rfl (.slice A0 L.length cp0) L.length L rfl rfl (HO.out.but ((But.refl [] _).alloc _)) (HB.out.alloc _) b rfl (Is.fresh _ _ _) HLB.out ?_; intro A9 c9 w9 _ HO9 HB9)
      have HO8 : Hid (OwnSt w9 w1.heap.size (.slice A9 (L.length + 1) c9) (hashU s (i + 1))) := Lib.hid (by rw [HN.out]; exact HO9.out)
      clear HO9 HN
      go_roundw
      case rel => exact ⟨i + 1, by omega, by go_num, HO8, HB9⟩
      case measure => simp [intOf] <;> omega
    · obtain rfl : m = i := by omega
      rw [HL9.out] at HO
      have i1 : ¬ (m : Int) < (m : Int) := by omega
      go_wp2_with fail
      refine (HM.out _).mono ?_
      rintro e wz ⟨rfl, rfl⟩
      go_wp2
      refine bodyPost_ret (results_tmp4 rfl _ _ _) rfl ?_
      exact ⟨_, _, rfl, HO.out, HB1.out.trans HB.out⟩
set_option maxHeartbeats 1000000 in
theorem ereadB_bad (w : World) {s : List UInt8} (hs : s.length ≤ 140737488351232) (h : ¬ okM s) :
    Calls Tryd.prog 18 #[.string (strL s)] w fun e w' => e = .returned (.tuple #[.int .i64 0, .int .i64 0, .slice none 0 0, .int .i64 42]) ∧ But [] w w' := by
  have hsz : (strL s).size = s.length := strL_size s
  by_cases h8 : s.length < 8
  · have q1 : (s.length : Int) < 8 := by omega
    rw [← hsz] at q1
    obtain ⟨f, hf⟩ : ∃ z, z = strL s := ⟨_, rfl⟩
    rw [← hf] at q1 ⊢
    clear hf hsz hs h h8
    go_enter Tryd.func18, Tryd.ntmps18
    go_wp2_with fail
    refine bodyPost_ret (results_tmp4 rfl _ _ _) rfl ?_
    exact ⟨rfl, But.refl [] _⟩
  · have k4 : ∀ v, (Instr.slice 9 (.string (strL s)) none (some (.int .i64 4)) none).run Tryd.prog v = .ok (.string (strL (s.take 4))) v := fun v => cutB_to s (j := 4) v (by omega)
    have k8 : ∀ v, (Instr.slice 9 (.string (strL s)) (some (.int .i64 4)) (some (.int .i64 8)) none).run Tryd.prog v = .ok (.string (strL ((s.drop 4).take 4))) v := fun v => cutB_mid s (i := 4) (j := 8) (by omega) v (by omega)
    have HF1 : Hid (∀ v, Calls Tryd.prog 34 #[.string (strL (s.take 4))] v fun e w' => e = .returned (.int .i64 (manW s : Nat)) ∧ v = w') := Lib.hid fun v => by
      have := eof_any v (s := strL (s.take 4)) (by rw [strL_size, List.length_take]; omega)
      rw [strL_list] at this
      exact this
    have HF2 : Hid (∀ v, Calls Tryd.prog 34 #[.string (strL ((s.drop 4).take 4))] v fun e w' => e = .returned (.int .i64 (manH s : Nat)) ∧ v = w') := Lib.hid fun v => by
      have := eof_any v (s := strL ((s.drop 4).take 4)) (by rw [strL_size, List.length_take]; omega)
      rw [strL_list] at this
      exact this
    obtain ⟨r, hr⟩ : ∃ z, z = rightH (manW s : Int) (manH s : Int) 16 6 0 := ⟨_, rfl⟩
    have HE : Hid (∀ v, Calls Tryd.prog 35 #[.agg #[.int .i64 (manW s : Nat), .int .i64 (manH s : Nat), .int .i64 16, .int .i64 6, .int .i64 0]] v fun e w' => e = .returned (.int .i64 r) ∧ But [] v w') := Lib.hid fun v => (eright_h v (manW s : Nat) (manH s : Nat) 16 6 0).mono fun _ _ h => ⟨by rw [h.1, hr], h.2⟩
    obtain ⟨m, hm⟩ : ∃ m, m = manyB (manH s) := ⟨_, rfl⟩
    have HM : Hid (∀ v, Calls Tryd.prog 26 #[.int .i64 (manH s : Nat)] v fun e w' => e = .returned (.int .i64 (m : Nat)) ∧ v = w') := Lib.hid fun v => by rw [hm]; exact (emanyB_any v (Nat.le_of_lt (manH_lt s (by omega)))).mono fun _ _ h => ⟨h.1, h.2.symm⟩
    have hml : m ≤ 1000000000 := by have := manH_lt s (by omega); rw [hm]; unfold manyB; omega
    have hbad : r = 0 → s.length ≠ 8 + 32 * m := fun hr0 hl => h ⟨by omega, by rw [← hr, hr0], by rw [hl, hm]⟩
    obtain ⟨W, hW⟩ : ∃ z, z = manW s := ⟨_, rfl⟩
    obtain ⟨H, hH⟩ : ∃ z, z = manH s := ⟨_, rfl⟩
    rw [← hW] at HF1 HE
    rw [← hH] at HF2 HE HM
    obtain ⟨f, hf⟩ : ∃ z, z = strL s := ⟨_, rfl⟩
    obtain ⟨t0, ht0⟩ : ∃ z, z = 32 * m := ⟨_, rfl⟩
    obtain ⟨t, ht⟩ : ∃ z, z = 8 + 32 * m := ⟨_, rfl⟩
    obtain ⟨n, hn⟩ : ∃ z, z = s.length := ⟨_, rfl⟩
    have hfz : f.size = n := by rw [hf, hsz, hn]
    rw [← hf] at k4 k8 ⊢
    rw [← ht, ← hn] at hbad
    obtain ⟨t1, ht1⟩ : ∃ z, z = strL (s.take 4) := ⟨_, rfl⟩
    obtain ⟨t2, ht2⟩ : ∃ z, z = strL ((s.drop 4).take 4) := ⟨_, rfl⟩
    rw [← ht1] at HF1
    rw [← ht2] at HF2
    simp only [← ht1] at k4
    simp only [← ht2] at k8
    have q1 : ¬ (n : Int) < 8 := by omega
    have e1 : (32 : Int) * (m : Int) = (t0 : Int) := by omega
    have e2 : (8 : Int) + (t0 : Int) = (t : Int) := by omega
    have v1 := wrapI_in (show t0 < 1000000000000000 by omega)
    have v2 := wrapI_in (show t < 1000000000000000 by omega)
    by_cases hr0 : r = 0
    · have hne := hbad hr0
      subst hr0
      have q2 : ((n : Int) != (t : Int)) = true := by simp; omega
      have q3 : ((n : Int) = (t : Int)) = False := by simp; omega
      clear ht1 ht2 hsz hs hm hr hW hH hf h8 ht ht0 hn hbad h hne
      go_enter Tryd.func18, Tryd.ntmps18
      go_wp2_with fail
      refine (HF1.out _).mono ?_
      rintro e wz ⟨rfl, rfl⟩
      go_wp2_with fail
      refine (HF2.out _).mono ?_
      rintro e wz ⟨rfl, rfl⟩
      go_wp2_with fail
      refine (HE.out _).mono ?_
      rintro e w1 ⟨rfl, hB1⟩
      have HB1 := Lib.hid hB1
      clear hB1
      go_wp2_with fail
      refine (HM.out _).mono ?_
      rintro e wz ⟨rfl, rfl⟩
      go_wp2_with fail
      refine bodyPost_ret (results_tmp4 rfl _ _ _) rfl ?_
      exact ⟨rfl, HB1.out⟩
    · have q2 : (r != 0) = true := by simpa using hr0
      have q3 : (r = 0) = False := by simpa using hr0
      clear ht1 ht2 hsz hs hm hr hW hH hf h8 ht ht0 hn hbad h hr0
      go_enter Tryd.func18, Tryd.ntmps18
      go_wp2_with fail
      refine (HF1.out _).mono ?_
      rintro e wz ⟨rfl, rfl⟩
      go_wp2_with fail
      refine (HF2.out _).mono ?_
      rintro e wz ⟨rfl, rfl⟩
      go_wp2_with fail
      refine (HE.out _).mono ?_
      rintro e w1 ⟨rfl, hB1⟩
      have HB1 := Lib.hid hB1
      clear hB1
      go_wp2_with fail
      refine bodyPost_ret (results_tmp4 rfl _ _ _) rfl ?_
      exact ⟨rfl, HB1.out⟩
end Go.Proofs.YtmdiilnipoblbaaDoor
set_option maxRecDepth 100000
set_option linter.unusedVariables false
namespace Go.Proofs.YtmdiilnipoblbaaDoor
set_option maxRecDepth 100000
open Go Go.RowKit
set_option maxHeartbeats 1000000 in
theorem bvalue_any (w : World) {s : List UInt8} (hs : 4 ≤ s.length) :
    Calls Tryd.prog 31 #[.string (strL s)] w fun e w' => e = .returned (.int .u32 (ofL (s.take 4) : Nat)) ∧ But [] w w' := by
  match s, hs with
  | p :: q :: r :: t :: z, _ =>
    have k0 : ∀ W, (Instr.index 9 (.string (strL (p :: q :: r :: t :: z))) (.int .i64 0)).run Tryd.prog W = .ok (.int .u8 (p.toNat : Nat)) W := fun W => byteR_run (s := strL (p :: q :: r :: t :: z)) (k := 0) (by rw [strL_size]; simp) W
    have k1 : ∀ W, (Instr.index 9 (.string (strL (p :: q :: r :: t :: z))) (.int .i64 1)).run Tryd.prog W = .ok (.int .u8 (q.toNat : Nat)) W := fun W => byteR_run (s := strL (p :: q :: r :: t :: z)) (k := 1) (by rw [strL_size]; simp) W
    have k2 : ∀ W, (Instr.index 9 (.string (strL (p :: q :: r :: t :: z))) (.int .i64 2)).run Tryd.prog W = .ok (.int .u8 (r.toNat : Nat)) W := fun W => byteR_run (s := strL (p :: q :: r :: t :: z)) (k := 2) (by rw [strL_size]; simp) W
    have k3 : ∀ W, (Instr.index 9 (.string (strL (p :: q :: r :: t :: z))) (.int .i64 3)).run Tryd.prog W = .ok (.int .u8 (t.toNat : Nat)) W := fun W => byteR_run (s := strL (p :: q :: r :: t :: z)) (k := 3) (by rw [strL_size]; simp) W
    have hof : ofL ((p :: q :: r :: t :: z).take 4) = 256 * (256 * (256 * (256 * 0 + p.toNat) + q.toNat) + r.toNat) + t.toNat := rfl
    have l0 := p.toNat_lt; have l1 := q.toNat_lt; have l2 := r.toNat_lt; have l3 := t.toNat_lt
    obtain ⟨S, hS⟩ : ∃ S, S = strL (p :: q :: r :: t :: z) := ⟨_, rfl⟩
    obtain ⟨n, hn⟩ : ∃ n, n = ofL ((p :: q :: r :: t :: z).take 4) := ⟨_, rfl⟩
    rw [← hn] at hof ⊢
    rw [← hS]
    simp only [← hS] at k0 k1 k2 k3
    obtain ⟨a, ha⟩ : ∃ a, a = p.toNat := ⟨_, rfl⟩
    obtain ⟨b, hb⟩ : ∃ a, a = q.toNat := ⟨_, rfl⟩
    obtain ⟨c, hc⟩ : ∃ a, a = r.toNat := ⟨_, rfl⟩
    obtain ⟨d, hd⟩ : ∃ a, a = t.toNat := ⟨_, rfl⟩
    rw [← ha] at l0 hof
    rw [← hb] at l1 hof
    rw [← hc] at l2 hof
    rw [← hd] at l3 hof
    simp only [← ha] at k0
    simp only [← hb] at k1
    simp only [← hc] at k2
    simp only [← hd] at k3
    clear hS hn ha hb hc hd
    have HN := Lib.hid (show Go.bits .or .u32 (Go.bits .or .u32 (Go.bits .or .u32 ((a : Int) * 16777216) ((b : Int) * 65536)) ((c : Int) * 256)) (d : Int) = (n : Int) by
      have o1 := or_numW (a * 16777216) (b * 65536) 24 (by decide) (by omega) (by omega) (by omega)
      have o2 := or_numW (a * 16777216 + b * 65536) (c * 256) 16 (by decide) (by omega) (by omega) (by omega)
      have o3 := or_numW (a * 16777216 + b * 65536 + c * 256) d 8 (by decide) (by omega) (by omega) (by omega)
      rw [show (a : Int) * 16777216 = ((a * 16777216 : Nat) : Int) by omega, show (b : Int) * 65536 = ((b * 65536 : Nat) : Int) by omega, show (c : Int) * 256 = ((c * 256 : Nat) : Int) by omega, o1, o2, o3, hof]
      omega)
    clear hof
    have u1 : IntKind.u32.wrap (a : Int) = (a : Int) := wrapW_in (by omega)
    have u2 : IntKind.u32.wrap (b : Int) = (b : Int) := wrapW_in (by omega)
    have u3 : IntKind.u32.wrap (c : Int) = (c : Int) := wrapW_in (by omega)
    have u4 : IntKind.u32.wrap (d : Int) = (d : Int) := wrapW_in (by omega)
    have v1 : IntKind.u32.wrap ((a : Int) * 16777216) = (a : Int) * 16777216 := by rw [IntKind.wrap_u32]; omega
    have v2 : IntKind.u32.wrap ((b : Int) * 65536) = (b : Int) * 65536 := by rw [IntKind.wrap_u32]; omega
    have v3 : IntKind.u32.wrap ((c : Int) * 256) = (c : Int) * 256 := by rw [IntKind.wrap_u32]; omega
    go_enter Tryd.func31, Tryd.ntmps31
    go_wp2
    go_quiet (fail)
    go_wp2
    go_ret
    exact ⟨congrArg (fun z => Ending.returned (.int .u32 z)) HN.out, drewN_but ⟨nq, rfl⟩⟩
set_option maxHeartbeats 1000000 in
theorem bcount_any (w : World) {h : Nat} (hh : h ≤ 4294967296) : Calls Tryd.prog 33 #[.int .i64 h] w fun e w' => e = .returned (.int .i64 (manyB h : Nat)) ∧ w = w' := by
  obtain ⟨a, ha⟩ : ∃ a, a = h + 8 := ⟨_, rfl⟩
  obtain ⟨b, hb⟩ : ∃ a, a = h + 7 := ⟨_, rfl⟩
  obtain ⟨m, hm⟩ : ∃ m, m = manyB h := ⟨_, rfl⟩
  have hm2 : m = b / 8 := by rw [hm, hb]; rfl
  rw [← hm]
  have e1 : (h : Int) + 8 = (a : Int) := by omega
  have e2 : (a : Int) - 1 = (b : Int) := by omega
  have e3 : (b : Int) / 8 = (m : Int) := by omega
  have e4 : (b : Int).tdiv 8 = (m : Int) := by rw [Int.tdiv_eq_ediv_of_nonneg (by omega)]; omega
  have v1 := wrapI_in (show a < 1000000000000000 by omega)
  have v2 := wrapI_in (show b < 1000000000000000 by omega)
  have v3 := wrapI_in (show m < 1000000000000000 by omega)
  clear ha hb hm hm2
  go_enter Tryd.func33, Tryd.ntmps33
  go_wp2
  go_ret
  exact ⟨rfl, rfl⟩
end Go.Proofs.YtmdiilnipoblbaaDoor
set_option maxRecDepth 100000
set_option linter.unusedVariables false
namespace Go.Proofs.YtmdiilnipoblbaaDoor
set_option maxRecDepth 100000
open Go Go.RowKit
theorem pcs_hashes (s : List UInt8) : pcs 32 (s.drop 8) (manyB (manH s)) = (hashesB s).map strL := by
  unfold pcs hashesB
  rw [List.map_map]
  apply List.map_congr_left
  intro i hi
  show strL (((s.drop 8).drop (32 * i)).take 32) = strL (hashB s i)
  unfold hashB
  rw [List.drop_drop]
end Go.Proofs.YtmdiilnipoblbaaDoor
set_option maxRecDepth 100000
set_option linter.unusedVariables false
namespace Go.Proofs.YtmdiilnipoblbaaDoor
set_option maxRecDepth 100000
open Go Go.RowKit
set_option maxHeartbeats 1000000 in
theorem repeat_mainA (w : World) {c : Nat} (h2 : 2 ≤ c) (h63 : c ≤ 8192) :
    Calls Tryd.prog 48 #[.string (strL (List.replicate 1 0)), .int .i64 c] w fun e w' => e = .returned (.string (strL (List.replicate c 0))) ∧ But [] w w' := by
  have hM := rp_Mul 1 c (by decide) (by omega) w
  rw [Nat.one_mul, Nat.div_eq_of_lt (by omega), Nat.mod_eq_of_lt (by omega)] at hM
  have HM : Hid (Calls Tryd.prog 56 #[.int .u64 1, .int .u64 (c : Int)] w fun e w' => e = .returned (.tuple #[.int .u64 0, .int .u64 (c : Int)]) ∧ w' = w) := Lib.hid hM
  have k0 : ∀ W, (Instr.index 9 (.string (strL (List.replicate 1 0))) (.int .i64 0)).run Tryd.prog W = .ok (.int .u8 0) W := fun W => by
    rw [← zero_str]
    simp [go_sem, Tryd.underlying9]
    rfl
  obtain ⟨Z, hZ⟩ : ∃ Z, Z = strL (List.replicate 1 0) := ⟨_, rfl⟩
  have hZs : Z.size = 1 := by rw [hZ, strL_size]; rfl
  rw [← hZ] at k0 ⊢
  have u1 : IntKind.u64.wrap (c : Int) = (c : Int) := by simp [IntKind.wrap_u64]; omega
  have u2 : IntKind.i64.wrap (c : Int) = (c : Int) := by rw [IntKind.wrap_i64]; omega
  have c0 : ((c : Int) == 0) = false := by simp; omega
  have c1 : ((c : Int) == 1) = false := by simp; omega
  have c2 : ¬ (c : Int) < 0 := by omega
  have c3 : ¬ (9223372036854775807 : Int) < (c : Int) := by omega
  have c4 : ¬ (8192 : Int) < (c : Int) := by omega
  clear hM
  have HZ := Lib.hid hZ
  clear hZ
  go_enter Tryd.func48, Tryd.ntmps48
  have hcA := (But.refl [] w).alloc (.cells #[.pointer none, .slice none 0 0] 58)
  obtain ⟨W1, hW1⟩ : ∃ W, W = w.alloc (.cells #[.pointer none, .slice none 0 0] 58) := ⟨_, rfl⟩
  have HGr : Hid (Calls Tryd.prog 58 #[.pointer (some ⟨w.heap.size, 0, none⟩), .int .i64 c] W1 fun e w' => e = .returned (.tuple #[]) ∧ (Lib.BuilderAt 58 5 w.heap.size w.heap.size (.pointer (some ⟨w.heap.size, 0, none⟩)) [] w' ∧ Below w.heap.size W1 w')) :=
    Lib.hid (bldF_Grow w.heap.size w.heap.size c W1 (Nat.le_refl _) (by rw [hW1]; exact heap_alloc_new w _) (by rw [hW1]; simp) (by omega) (by omega))
  have HB1 : Hid (Below w.heap.size w W1) := Lib.hid (by rw [hW1]; exact (Below.refl _ w).alloc (Nat.le_refl _) _)
  go_wp2_with fail
  refine HM.out.mono ?_
  rintro e w1 ⟨rfl, hw⟩
  obtain rfl : w = w1 := hw.symm
  go_wp2_with fail
  rw [← hW1]
  refine HGr.out.mono ?_
  rintro e W2 ⟨rfl, h1, b1⟩
  clear HGr hW1 hcA
  have HW := Lib.hid (bldF_write w.heap.size w.heap.size [] Z W2 (Lib.IsBuilderF.of (Or.inr h1)) (by simp [hZs]) (Nat.le_trans HB1.out.size b1.size))
  have HB2 := Lib.hid (HB1.out.trans b1)
  clear HB1 b1 h1
  obtain ⟨gb, hgb⟩ : ∃ g, g = w.heap.size := ⟨_, rfl⟩
  rw [← hgb] at HW HB2 ⊢
  have HGB := Lib.hid hgb
  clear hgb
  go_wp2_with fail
  refine HW.out.mono ?_
  rintro e W3 ⟨rfl, h3, b3⟩
  have HB3 := Lib.hid (HB2.out.trans b3)
  have HI3 : Hid (Lib.IsBuilderF 58 5 gb gb (Lib.byteCells (List.replicate 1 0)) W3) := Lib.hid (.inr (by
    rw [List.nil_append, HZ.out, cells_ofR] at h3
    exact h3))
  clear HW HB2 b3 h3
  go_wp2_with fail
  go_loopg [] (c - 1) (fun g wx => ∃ q : Nat, 1 ≤ q ∧ q + g = c ∧ Hid (Lib.IsBuilderF 58 5 gb gb (Lib.byteCells (List.replicate q 0)) wx) ∧ Hid (Below gb w wx))
  case atStart => exact ⟨1, Nat.le_refl _, by omega, HI3, HB3⟩
  case round =>
    clear HI3 HB3
    obtain ⟨q, hq1, hqg, HI, HB⟩ := hrel
    have cLen := rp_Len gb gb _ wr HI.out
    rw [zeros_cells] at cLen
    have HL := Lib.hid cLen
    have HS := Lib.hid (rp_String gb gb (List.replicate q 0) wr HI.out (by rw [HGB.out]; exact HB.out.size))
    clear cLen
    rw [show (⟨(List.replicate q (0 : UInt8)).toArray⟩ : ByteArray) = strL (List.replicate q 0) from rfl] at HS
    have hq63 : q ≤ 8192 := by omega
    cases gk with
    | zero =>
      obtain rfl : q = c := by omega
      go_wp2_with fail
      refine HL.out.mono ?_
      rintro e w1 ⟨rfl, hw⟩
      obtain rfl : wr = w1 := hw.symm
      go_wp2_with fail
      refine HS.out.mono ?_
      rintro e w1 ⟨rfl, h3, b3⟩
      go_wp2
      go_ret
      exact ⟨rfl, below_but (by rw [← HGB.out]; exact HB.out.trans b3)⟩
    | succ g =>
      have hqc : q < c := by omega
      have l1 : (q : Int) < (c : Int) := by omega
      obtain ⟨m, hm⟩ : ∃ m, m = min (c - q) q := ⟨_, rfl⟩
      have hm1 : 1 ≤ m ∧ m ≤ q ∧ q + m ≤ c := by omega
      have hmin : ∀ (ts : Array TypeId) (t : TypeId) (W : World), (Builtin.min_ ts t #[.int .i64 ((c : Int) - (q : Int)), .int .i64 (q : Int), .int .i64 (c : Int)]).run Tryd.prog W = .ok (.int .i64 (m : Int)) W := fun ts t W => by
        rw [run_min_int3]
        congr 2
        omega
      have kz := fun W => cutz_run hm1.2.1 W
      obtain ⟨S, hS⟩ : ∃ S, S = strL (List.replicate q (0 : UInt8)) := ⟨_, rfl⟩
      rw [← hS] at HS
      simp only [← hS] at kz
      clear hS
      clear hm
      go_wp2_with fail
      refine HL.out.mono ?_
      rintro e w1 ⟨rfl, hw⟩
      obtain rfl : wr = w1 := hw.symm
      go_wp2_with fail
      refine HL.out.mono ?_
      rintro e w1 ⟨rfl, hw⟩
      obtain rfl : wr = w1 := hw.symm
      go_wp2_with fail
      refine HL.out.mono ?_
      rintro e w1 ⟨rfl, hw⟩
      obtain rfl : wr = w1 := hw.symm
      go_wp2_with fail
      refine HS.out.mono ?_
      rintro e W4 ⟨rfl, h4, b4⟩
      have HB4 := Lib.hid (HB.out.trans b4)
      have HW4 := Lib.hid (bldF_write gb gb (Lib.byteCells (List.replicate q 0)) (strL (List.replicate m 0)) W4 h4 (by rw [zeros_cells, strL_size, List.length_replicate]; omega) (by rw [HGB.out]; exact HB4.out.size))
      clear h4 b4 HL HS HI HB
      go_wp2_with fail
      refine HW4.out.mono ?_
      rintro e W5 ⟨rfl, h5, b5⟩
      have HB5 := Lib.hid (HB4.out.trans b5)
      have HI5 : Hid (Lib.IsBuilderF 58 5 gb gb (Lib.byteCells (List.replicate (q + m) 0)) W5) := Lib.hid (.inr (by
        rw [cells_ofR, ← Lib.byteCells_append, List.replicate_append_replicate] at h5
        exact h5))
      clear HW4 HB4 h5 b5
      go_wp2
      go_roundg (c - (q + m))
      case measure => omega
      case rel => exact ⟨q + m, by omega, by omega, HI5, HB5⟩
set_option maxHeartbeats 1000000 in
theorem repeat_mainB (w : World) {c : Nat} (h2 : 8193 ≤ c) (h63 : c ≤ 1000000) :
    Calls Tryd.prog 48 #[.string (strL (List.replicate 1 0)), .int .i64 c] w fun e w' => e = .returned (.string (strL (List.replicate c 0))) ∧ But [] w w' := by
  have hM := rp_Mul 1 c (by decide) (by omega) w
  rw [Nat.one_mul, Nat.div_eq_of_lt (by omega), Nat.mod_eq_of_lt (by omega)] at hM
  have HM : Hid (Calls Tryd.prog 56 #[.int .u64 1, .int .u64 (c : Int)] w fun e w' => e = .returned (.tuple #[.int .u64 0, .int .u64 (c : Int)]) ∧ w' = w) := Lib.hid hM
  have k0 : ∀ W, (Instr.index 9 (.string (strL (List.replicate 1 0))) (.int .i64 0)).run Tryd.prog W = .ok (.int .u8 0) W := fun W => by
    rw [← zero_str]
    simp [go_sem, Tryd.underlying9]
    rfl
  obtain ⟨Z, hZ⟩ : ∃ Z, Z = strL (List.replicate 1 0) := ⟨_, rfl⟩
  have hZs : Z.size = 1 := by rw [hZ, strL_size]; rfl
  rw [← hZ] at k0 ⊢
  have u1 : IntKind.u64.wrap (c : Int) = (c : Int) := by simp [IntKind.wrap_u64]; omega
  have u2 : IntKind.i64.wrap (c : Int) = (c : Int) := by rw [IntKind.wrap_i64]; omega
  have c0 : ((c : Int) == 0) = false := by simp; omega
  have c1 : ((c : Int) == 1) = false := by simp; omega
  have c2 : ¬ (c : Int) < 0 := by omega
  have c3 : ¬ (9223372036854775807 : Int) < (c : Int) := by omega
  have c4 : (8192 : Int) < (c : Int) := by omega
  clear hM
  have HZ := Lib.hid hZ
  clear hZ
  go_enter Tryd.func48, Tryd.ntmps48
  have hcA := (But.refl [] w).alloc (.cells #[.pointer none, .slice none 0 0] 58)
  obtain ⟨W1, hW1⟩ : ∃ W, W = w.alloc (.cells #[.pointer none, .slice none 0 0] 58) := ⟨_, rfl⟩
  have HGr : Hid (Calls Tryd.prog 58 #[.pointer (some ⟨w.heap.size, 0, none⟩), .int .i64 c] W1 fun e w' => e = .returned (.tuple #[]) ∧ (Lib.BuilderAt 58 5 w.heap.size w.heap.size (.pointer (some ⟨w.heap.size, 0, none⟩)) [] w' ∧ Below w.heap.size W1 w')) :=
    Lib.hid (bldF_Grow w.heap.size w.heap.size c W1 (Nat.le_refl _) (by rw [hW1]; exact heap_alloc_new w _) (by rw [hW1]; simp) (by omega) (by omega))
  have HB1 : Hid (Below w.heap.size w W1) := Lib.hid (by rw [hW1]; exact (Below.refl _ w).alloc (Nat.le_refl _) _)
  go_wp2_with fail
  refine HM.out.mono ?_
  rintro e w1 ⟨rfl, hw⟩
  obtain rfl : w = w1 := hw.symm
  go_wp2_with fail
  rw [← hW1]
  refine HGr.out.mono ?_
  rintro e W2 ⟨rfl, h1, b1⟩
  clear HGr hW1 hcA
  have HW := Lib.hid (bldF_write w.heap.size w.heap.size [] Z W2 (Lib.IsBuilderF.of (Or.inr h1)) (by simp [hZs]) (Nat.le_trans HB1.out.size b1.size))
  have HB2 := Lib.hid (HB1.out.trans b1)
  clear HB1 b1 h1
  obtain ⟨gb, hgb⟩ : ∃ g, g = w.heap.size := ⟨_, rfl⟩
  rw [← hgb] at HW HB2 ⊢
  have HGB := Lib.hid hgb
  clear hgb
  go_wp2_with fail
  refine HW.out.mono ?_
  rintro e W3 ⟨rfl, h3, b3⟩
  have HB3 := Lib.hid (HB2.out.trans b3)
  have HI3 : Hid (Lib.IsBuilderF 58 5 gb gb (Lib.byteCells (List.replicate 1 0)) W3) := Lib.hid (.inr (by
    rw [List.nil_append, HZ.out, cells_ofR] at h3
    exact h3))
  clear HW HB2 b3 h3
  go_wp2_with fail
  go_loopg [] (c - 1) (fun g wx => ∃ q : Nat, 1 ≤ q ∧ q + g = c ∧ Hid (Lib.IsBuilderF 58 5 gb gb (Lib.byteCells (List.replicate q 0)) wx) ∧ Hid (Below gb w wx))
  case atStart => exact ⟨1, Nat.le_refl _, by omega, HI3, HB3⟩
  case round =>
    clear HI3 HB3
    obtain ⟨q, hq1, hqg, HI, HB⟩ := hrel
    have cLen := rp_Len gb gb _ wr HI.out
    rw [zeros_cells] at cLen
    have HL := Lib.hid cLen
    have HS := Lib.hid (rp_String gb gb (List.replicate q 0) wr HI.out (by rw [HGB.out]; exact HB.out.size))
    clear cLen
    rw [show (⟨(List.replicate q (0 : UInt8)).toArray⟩ : ByteArray) = strL (List.replicate q 0) from rfl] at HS
    have hq63 : q ≤ 1000000 := by omega
    cases gk with
    | zero =>
      obtain rfl : q = c := by omega
      go_wp2_with fail
      refine HL.out.mono ?_
      rintro e w1 ⟨rfl, hw⟩
      obtain rfl : wr = w1 := hw.symm
      go_wp2_with fail
      refine HS.out.mono ?_
      rintro e w1 ⟨rfl, h3, b3⟩
      go_wp2
      go_ret
      exact ⟨rfl, below_but (by rw [← HGB.out]; exact HB.out.trans b3)⟩
    | succ g =>
      have hqc : q < c := by omega
      have l1 : (q : Int) < (c : Int) := by omega
      obtain ⟨m, hm⟩ : ∃ m, m = min (min (c - q) q) 8192 := ⟨_, rfl⟩
      have hm1 : 1 ≤ m ∧ m ≤ q ∧ q + m ≤ c := by omega
      have hmin : ∀ (ts : Array TypeId) (t : TypeId) (W : World), (Builtin.min_ ts t #[.int .i64 ((c : Int) - (q : Int)), .int .i64 (q : Int), .int .i64 8192]).run Tryd.prog W = .ok (.int .i64 (m : Int)) W := fun ts t W => by
        rw [run_min_int3]
        congr 2
        omega
      have kz := fun W => cutz_run hm1.2.1 W
      obtain ⟨S, hS⟩ : ∃ S, S = strL (List.replicate q (0 : UInt8)) := ⟨_, rfl⟩
      rw [← hS] at HS
      simp only [← hS] at kz
      clear hS
      clear hm
      go_wp2_with fail
      refine HL.out.mono ?_
      rintro e w1 ⟨rfl, hw⟩
      obtain rfl : wr = w1 := hw.symm
      go_wp2_with fail
      refine HL.out.mono ?_
      rintro e w1 ⟨rfl, hw⟩
      obtain rfl : wr = w1 := hw.symm
      go_wp2_with fail
      refine HL.out.mono ?_
      rintro e w1 ⟨rfl, hw⟩
      obtain rfl : wr = w1 := hw.symm
      go_wp2_with fail
      refine HS.out.mono ?_
      rintro e W4 ⟨rfl, h4, b4⟩
      have HB4 := Lib.hid (HB.out.trans b4)
      have HW4 := Lib.hid (bldF_write gb gb (Lib.byteCells (List.replicate q 0)) (strL (List.replicate m 0)) W4 h4 (by rw [zeros_cells, strL_size, List.length_replicate]; omega) (by rw [HGB.out]; exact HB4.out.size))
      clear h4 b4 HL HS HI HB
      go_wp2_with fail
      refine HW4.out.mono ?_
      rintro e W5 ⟨rfl, h5, b5⟩
      have HB5 := Lib.hid (HB4.out.trans b5)
      have HI5 : Hid (Lib.IsBuilderF 58 5 gb gb (Lib.byteCells (List.replicate (q + m) 0)) W5) := Lib.hid (.inr (by
        rw [cells_ofR, ← Lib.byteCells_append, List.replicate_append_replicate] at h5
        exact h5))
      clear HW4 HB4 h5 b5
      go_wp2
      go_roundg (c - (q + m))
      case measure => omega
      case rel => exact ⟨q + m, by omega, by omega, HI5, HB5⟩
theorem repeat_zeros (w : World) {c : Nat} (h : c ≤ 1000000) :
    Calls Tryd.prog 48 #[.string (strL (List.replicate 1 0)), .int .i64 c] w fun e w' => e = .returned (.string (strL (List.replicate c 0))) ∧ But [] w w' := by
  by_cases h1 : c ≤ 63
  · exact repeat_any w h1
  · by_cases h2 : c ≤ 8192
    · exact repeat_mainA w (by omega) h2
    · exact repeat_mainB w (by omega) h
end Go.Proofs.YtmdiilnipoblbaaDoor
set_option maxRecDepth 100000
set_option linter.unusedVariables false
namespace Go.Proofs.YtmdiilnipoblbaaDoor
set_option maxRecDepth 100000
open Go Go.RowKit
theorem wrapU_in {z : Nat} (h : z < 4294967296) : IntKind.u32.wrap (z : Int) = (z : Int) := by rw [IntKind.wrap_u32]; omega
set_option maxHeartbeats 1000000 in
theorem hasraster_any (w : World) {a b : Nat} (ha : a < 4294967296) (hb : b < 4294967296) :
    Calls Tryd.prog 32 #[.int .u32 a, .int .u32 b] w fun e w' => e = .returned (.bool (decide (rightH (a : Int) (b : Int) 16 6 0 = 0))) ∧ But [] w w' := by
  obtain ⟨x, hx⟩ : ∃ x, x = a * b % 4294967296 := ⟨_, rfl⟩
  obtain ⟨y, hy⟩ : ∃ y, y = min x 4096 := ⟨_, rfl⟩
  obtain ⟨z, hz⟩ : ∃ z, z = 8 * y := ⟨_, rfl⟩
  have hzl : z ≤ 32768 := by omega
  have e1 : IntKind.u32.wrap ((a : Int) * (b : Int)) = (x : Int) := by rw [← Int.natCast_mul, IntKind.wrap_u32, hx]; omega
  have e2 : ∀ v, (Builtin.min_ #[49, 49] 49 #[.int .u32 (x : Int), .int .u32 4096]).run Tryd.prog v = .ok (.int .u32 (y : Int)) v := fun v => by
    have e4 : (if 4096 < (x : Int) then 4096 else (x : Int)) = (y : Int) := by
      rw [hy]
      split <;> omega
    rw [← e4]
    simp [Builtin.min_, Builtin.min2]
  have e3 : 8 * (y : Int) = (z : Int) := by omega
  have v1 : IntKind.u32.wrap (z : Int) = (z : Int) := wrapU_in (by omega)
  have v2 := wrapI_in (show z < 1000000000000000 by omega)
  have v3 := wrapI_in (show a < 1000000000000000 by omega)
  have v4 := wrapI_in (show b < 1000000000000000 by omega)
  obtain ⟨P, hP⟩ : ∃ P, P = strL (List.replicate z (0 : UInt8)) := ⟨_, rfl⟩
  have hPs : P.size = z := by rw [hP, strL_size, List.length_replicate]
  have HR : Hid (∀ v, Calls Tryd.prog 48 #[.string { data := #[0] }, .int .i64 (z : Int)] v fun e w' => e = .returned (.string P) ∧ But [] v w') := Lib.hid fun v => by
    rw [hP]; exact repeat_zeros v (by omega)
  obtain ⟨c, hc⟩ : ∃ c, c = checkA (a : Int) (b : Int) P := ⟨_, rfl⟩
  have HC : Hid (∀ v, Calls Tryd.prog 22 #[.agg #[.int .i64 a, .int .i64 b, .string P]] v fun e w' => e = .returned (.int .i64 c) ∧ But [] v w') := Lib.hid fun v => by rw [hc]; exact pcheck12_any v (by omega)
  by_cases hr : rightH (a : Int) (b : Int) 16 6 0 = 0
  · have hc0 : c = 0 := by
      obtain ⟨W, H, D, C, R⟩ := right_form hr
      have hW := R.wa; have hH := R.hb; have hA := R.area
      obtain rfl : a = W := by omega
      obtain rfl : b = H := by omega
      rw [hc]
      unfold checkA
      rw [if_neg (by rw [hr]; decide), if_neg]
      have h1 : x = a * b := by rw [hx, Nat.mod_eq_of_lt (by omega)]
      have h2 : z = 8 * (a * b) := by omega
      rw [hPs, h2]
      simp [Int.natCast_mul, Int.mul_assoc]
    subst hc0
    have HD : Hid (decide (rightH (a : Int) (b : Int) 16 6 0 = 0) = true) := Lib.hid (decide_eq_true hr)
    rw [HD.out]
    clear hr hc hP hx hy hz
    go_enter Tryd.func32, Tryd.ntmps32
    go_wp2_with fail
    refine (HR.out _).mono ?_
    rintro e w1 ⟨rfl, hB1⟩
    have HB1 := Lib.hid hB1
    clear hB1
    go_wp2_with fail
    refine (HC.out _).mono ?_
    rintro e w2 ⟨rfl, hB2⟩
    have HB2 := Lib.hid (HB1.out.trans hB2)
    clear hB2
    go_wp2
    go_ret
    exact ⟨rfl, HB2.out⟩
  · have hc0 : c ≠ 0 := by
      rw [hc]
      unfold checkA
      rw [if_pos hr]
      exact hr
    have HD : Hid (decide (rightH (a : Int) (b : Int) 16 6 0 = 0) = false) := Lib.hid (decide_eq_false hr)
    rw [HD.out]
    have q1 : (c == 0) = false := by simpa using hc0
    have q2 : (c = 0) = False := by simpa using hc0
    clear hr hc hP hx hy hz hc0
    go_enter Tryd.func32, Tryd.ntmps32
    go_wp2_with fail
    refine (HR.out _).mono ?_
    rintro e w1 ⟨rfl, hB1⟩
    have HB1 := Lib.hid hB1
    clear hB1
    go_wp2_with fail
    refine (HC.out _).mono ?_
    rintro e w2 ⟨rfl, hB2⟩
    have HB2 := Lib.hid (HB1.out.trans hB2)
    clear hB2
    go_wp2
    go_ret
    exact ⟨rfl, HB2.out⟩
end Go.Proofs.YtmdiilnipoblbaaDoor
set_option maxRecDepth 100000
set_option linter.unusedVariables false
namespace Go.Proofs.YtmdiilnipoblbaaDoor
set_option maxRecDepth 100000
open Go Go.RowKit
set_option maxHeartbeats 1000000 in
theorem preadB_any (w : World) {s : List UInt8} (h : okM s) :
    Calls Tryd.prog 17 #[.string (strL s)] w fun e w' => ∃ b v, e = .returned (.tuple #[.int .i64 (manW s : Nat), .int .i64 (manH s : Nat), v, .int .i64 0]) ∧ OwnSt w' b v ((hashesB s).map strL) ∧ But [] w w' := by
  have hR := okM_right h
  obtain ⟨h8, hr, hl⟩ := h
  have HV1 : Hid (∀ v, Calls Tryd.prog 31 #[.string (strL s)] v fun e w' => e = .returned (.int .u32 (manW s : Nat)) ∧ But [] v w') := Lib.hid fun v => bvalue_any v (s := s) (by omega)
  have HV2 : Hid (∀ v, Calls Tryd.prog 31 #[.string (strL (s.drop 4))] v fun e w' => e = .returned (.int .u32 (manH s : Nat)) ∧ But [] v w') := Lib.hid fun v => bvalue_any v (s := s.drop 4) (by rw [List.length_drop]; omega)
  have k4 : ∀ v, (Instr.slice 9 (.string (strL s)) (some (.int .i64 4)) none none).run Tryd.prog v = .ok (.string (strL (s.drop 4))) v := fun v => cutB_from s (i := 4) v (by omega)
  have k8 : ∀ v, (Instr.slice 9 (.string (strL s)) (some (.int .i64 8)) none none).run Tryd.prog v = .ok (.string (strL (s.drop 8))) v := fun v => cutB_from s (i := 8) v (by omega)
  have hWl := manW_lt s (by omega)
  have hHl := manH_lt s (by omega)
  obtain ⟨m, hm⟩ : ∃ m, m = manyB (manH s) := ⟨_, rfl⟩
  have hml : m ≤ 1000000000 := by rw [hm]; unfold manyB; omega
  have HM : Hid (∀ v, Calls Tryd.prog 33 #[.int .i64 (manH s : Nat)] v fun e w' => e = .returned (.int .i64 (m : Nat)) ∧ v = w') := Lib.hid fun v => by rw [hm]; exact bcount_any v (Nat.le_of_lt hHl)
  have HR : Hid (∀ v, Calls Tryd.prog 32 #[.int .u32 (manW s : Nat), .int .u32 (manH s : Nat)] v fun e w' => e = .returned (.bool true) ∧ But [] v w') := Lib.hid fun v => by
    have h := hasraster_any v hWl hHl
    rw [decide_eq_true hr] at h
    exact h
  have HP : Hid (∀ v, Calls Tryd.prog 23 #[.string (strL (s.drop 8)), .int .i64 32] v fun e w' => ∃ b u, e = .returned u ∧ OwnSt w' b u ((hashesB s).map strL) ∧ But [] v w') := Lib.hid fun v => by
    rw [← pcs_hashes]
    have hml2 : manyB (manH s) ≤ 128 := by unfold manyB; omega
    exact ppieces_any v (n := 32) (by omega) (by omega) (by rw [List.length_drop]; omega) (by omega) (fun i hi => by rw [List.length_drop]; omega) (by rw [List.length_drop]; omega)
  obtain ⟨LL, hLL⟩ : ∃ z, z = (hashesB s).map strL := ⟨_, rfl⟩
  rw [← hLL] at HP ⊢
  rw [← hm] at hl
  obtain ⟨W, hW⟩ : ∃ z, z = manW s := ⟨_, rfl⟩
  obtain ⟨H, hH⟩ : ∃ z, z = manH s := ⟨_, rfl⟩
  rw [← hW] at HV1 HR hWl
  rw [← hH] at HV2 HR HM hHl
  obtain ⟨f, hf⟩ : ∃ z, z = strL s := ⟨_, rfl⟩
  obtain ⟨f4, hf4⟩ : ∃ z, z = strL (s.drop 4) := ⟨_, rfl⟩
  obtain ⟨f8, hf8⟩ : ∃ z, z = strL (s.drop 8) := ⟨_, rfl⟩
  obtain ⟨t0, ht0⟩ : ∃ z, z = 32 * m := ⟨_, rfl⟩
  have e1 : (32 : Int) * (m : Int) = (t0 : Int) := by omega
  have v1 := wrapI_in (show t0 < 1000000000000000 by omega)
  have v3 := wrapI_in (show W < 1000000000000000 by omega)
  have v4 := wrapI_in (show H < 1000000000000000 by omega)
  obtain ⟨n, hn⟩ : ∃ z, z = s.length := ⟨_, rfl⟩
  obtain ⟨n8, hn8⟩ : ∃ z, z = s.length - 8 := ⟨_, rfl⟩
  have hfz : f.size = n := by rw [hf, strL_size, hn]
  have hfz8 : f8.size = n8 := by rw [hf8, strL_size, List.length_drop, hn8]
  have q1 : ¬ (n : Int) < 8 := by omega
  rw [← hf] at HV1 ⊢
  rw [← hf4] at HV2
  simp only [← hf, ← hf4] at k4
  simp only [← hf, ← hf8] at k8
  rw [← hW, ← hH]
  rw [← hf8] at HP
  have q2 : ((n8 : Int) != (t0 : Int)) = false := by simp; omega
  have q3 : ((n8 : Int) = (t0 : Int)) = True := by simp; omega
  clear hLL hl hm hr hW hH hf hf4 hf8 hn hn8 ht0 hWl hHl h8 hR
  go_enter Tryd.func17, Tryd.ntmps17
  go_upto_region 3 with (fail)
  refine wp_region_m (S := fun v => But [] w v) (R := fun v v' => But [] v v') (fun w => But.refl [] w) (by kernel_rfl) ((But.refl [] w).drew) ?_
  refine rdk 0 (.string f) ?_
  refine wpM_take (fun w => But.refl [] w) (fun x y z h k => h.trans k) (i := 1) (v := .int .u32 (W : Nat)) rfl (by kernel_rfl) (by kernel_rfl) (by kernel_rfl) (fun _ _ _ h => h) (.inl ⟨?_, fun w hS => .inr ⟨_, _, ?_, (HV1.out w).mono ?_⟩⟩) ?_
  · go_simp
  · go_simp
  · rintro e wy ⟨rfl, hB⟩; exact ⟨rfl, hS.trans hB, hB⟩
  refine rdk 2 (.string f) ?_
  refine rdk 3 (.string f4) ?_
  refine wpM_take (fun w => But.refl [] w) (fun x y z h k => h.trans k) (i := 4) (v := .int .u32 (H : Nat)) rfl (by kernel_rfl) (by kernel_rfl) (by kernel_rfl) (fun _ _ _ h => h) (.inl ⟨?_, fun w hS => .inr ⟨_, _, ?_, (HV2.out w).mono ?_⟩⟩) ?_
  · go_simp
  · go_simp
  · rintro e wy ⟨rfl, hB⟩; exact ⟨rfl, hS.trans hB, hB⟩
  refine rdk 5 (.string f) ?_
  refine rdk 6 (.string f8) ?_
  refine rdk 7 (.int .u32 (W : Nat)) ?_
  refine rdk 8 (.int .u32 (H : Nat)) ?_
  refine rdk 9 (.string f8) ?_
  refine ⟨by kernel_rfl, fun w8 hR8 hS8 => ?_⟩
  have HB8 := Lib.hid hS8
  clear hR8 hS8 k4 k8
  go_simp
  go_wp2_with fail
  refine (HR.out _).mono ?_
  rintro e w1 ⟨rfl, hB1⟩
  have HB1 := Lib.hid (HB8.out.trans hB1)
  clear hB1 HB8
  go_wp2_with fail
  refine (HM.out _).mono ?_
  rintro e wz ⟨rfl, rfl⟩
  go_wp2_with fail
  refine (HP.out _).mono ?_
  rintro e w3 ⟨bs, u, rfl, hO, hB3⟩
  have HO3 := Lib.hid hO
  have HB3 := Lib.hid (HB1.out.trans hB3)
  clear hO hB3
  go_wp2
  refine bodyPost_ret (results_tmp4 rfl _ _ _) rfl ?_
  exact ⟨_, _, rfl, HO3.out, HB3.out⟩
set_option maxHeartbeats 1000000 in
theorem preadB_bad (w : World) {s : List UInt8} (hs : s.length ≤ 140737488351232) (h : ¬ okM s) :
    Calls Tryd.prog 17 #[.string (strL s)] w fun e w' => e = .returned (.tuple #[.int .i64 0, .int .i64 0, .slice none 0 0, .int .i64 42]) ∧ But [] w w' := by
  have hsz : (strL s).size = s.length := strL_size s
  by_cases h8 : s.length < 8
  · have q1 : (s.length : Int) < 8 := by omega
    rw [← hsz] at q1
    obtain ⟨f, hf⟩ : ∃ z, z = strL s := ⟨_, rfl⟩
    rw [← hf] at q1 ⊢
    clear hf hsz hs h h8
    go_enter Tryd.func17, Tryd.ntmps17
    go_wp2_with fail
    refine bodyPost_ret (results_tmp4 rfl _ _ _) rfl ?_
    exact ⟨rfl, But.refl [] _⟩
  have HV1 : Hid (∀ v, Calls Tryd.prog 31 #[.string (strL s)] v fun e w' => e = .returned (.int .u32 (manW s : Nat)) ∧ But [] v w') := Lib.hid fun v => bvalue_any v (s := s) (by omega)
  have HV2 : Hid (∀ v, Calls Tryd.prog 31 #[.string (strL (s.drop 4))] v fun e w' => e = .returned (.int .u32 (manH s : Nat)) ∧ But [] v w') := Lib.hid fun v => bvalue_any v (s := s.drop 4) (by rw [List.length_drop]; omega)
  have k4 : ∀ v, (Instr.slice 9 (.string (strL s)) (some (.int .i64 4)) none none).run Tryd.prog v = .ok (.string (strL (s.drop 4))) v := fun v => cutB_from s (i := 4) v (by omega)
  have k8 : ∀ v, (Instr.slice 9 (.string (strL s)) (some (.int .i64 8)) none none).run Tryd.prog v = .ok (.string (strL (s.drop 8))) v := fun v => cutB_from s (i := 8) v (by omega)
  have hWl := manW_lt s (by omega)
  have hHl := manH_lt s (by omega)
  obtain ⟨m, hm⟩ : ∃ m, m = manyB (manH s) := ⟨_, rfl⟩
  have hml : m ≤ 1000000000 := by rw [hm]; unfold manyB; omega
  have HM : Hid (∀ v, Calls Tryd.prog 33 #[.int .i64 (manH s : Nat)] v fun e w' => e = .returned (.int .i64 (m : Nat)) ∧ v = w') := Lib.hid fun v => by rw [hm]; exact bcount_any v (Nat.le_of_lt hHl)
  by_cases hr : rightH (manW s : Int) (manH s : Int) 16 6 0 = 0
  · have HR : Hid (∀ v, Calls Tryd.prog 32 #[.int .u32 (manW s : Nat), .int .u32 (manH s : Nat)] v fun e w' => e = .returned (.bool true) ∧ But [] v w') := Lib.hid fun v => by
      have h := hasraster_any v hWl hHl
      rw [decide_eq_true hr] at h
      exact h
    have hne : s.length ≠ 8 + 32 * m := fun hl => h ⟨by omega, hr, by rw [hl, hm]⟩
    obtain ⟨W, hW⟩ : ∃ z, z = manW s := ⟨_, rfl⟩
    obtain ⟨H, hH⟩ : ∃ z, z = manH s := ⟨_, rfl⟩
    rw [← hW] at HV1 HR hWl
    rw [← hH] at HV2 HR HM hHl
    obtain ⟨f, hf⟩ : ∃ z, z = strL s := ⟨_, rfl⟩
    obtain ⟨f4, hf4⟩ : ∃ z, z = strL (s.drop 4) := ⟨_, rfl⟩
    obtain ⟨f8, hf8⟩ : ∃ z, z = strL (s.drop 8) := ⟨_, rfl⟩
    obtain ⟨t0, ht0⟩ : ∃ z, z = 32 * m := ⟨_, rfl⟩
    have e1 : (32 : Int) * (m : Int) = (t0 : Int) := by omega
    have v1 := wrapI_in (show t0 < 1000000000000000 by omega)
    have v3 := wrapI_in (show W < 1000000000000000 by omega)
    have v4 := wrapI_in (show H < 1000000000000000 by omega)
    obtain ⟨n, hn⟩ : ∃ z, z = s.length := ⟨_, rfl⟩
    obtain ⟨n8, hn8⟩ : ∃ z, z = s.length - 8 := ⟨_, rfl⟩
    have hfz : f.size = n := by rw [hf, strL_size, hn]
    have hfz8 : f8.size = n8 := by rw [hf8, strL_size, List.length_drop, hn8]
    have q1 : ¬ (n : Int) < 8 := by omega
    rw [← hf] at HV1 ⊢
    rw [← hf4] at HV2
    simp only [← hf, ← hf4] at k4
    simp only [← hf, ← hf8] at k8
    have q2 : ((n8 : Int) != (t0 : Int)) = true := by simp; omega
    have q3 : ((n8 : Int) = (t0 : Int)) = False := by simp; omega
    clear hm hr hW hH hf hf4 hf8 hn hn8 ht0 hWl hHl h8 h hne hsz hs
    go_enter Tryd.func17, Tryd.ntmps17
    go_upto_region 3 with (fail)
    refine wp_region_m (S := fun v => But [] w v) (R := fun v v' => But [] v v') (fun w => But.refl [] w) (by kernel_rfl) ((But.refl [] w).drew) ?_
    refine rdk 0 (.string f) ?_
    refine wpM_take (fun w => But.refl [] w) (fun x y z h k => h.trans k) (i := 1) (v := .int .u32 (W : Nat)) rfl (by kernel_rfl) (by kernel_rfl) (by kernel_rfl) (fun _ _ _ h => h) (.inl ⟨?_, fun w hS => .inr ⟨_, _, ?_, (HV1.out w).mono ?_⟩⟩) ?_
    · go_simp
    · go_simp
    · rintro e wy ⟨rfl, hB⟩; exact ⟨rfl, hS.trans hB, hB⟩
    refine rdk 2 (.string f) ?_
    refine rdk 3 (.string f4) ?_
    refine wpM_take (fun w => But.refl [] w) (fun x y z h k => h.trans k) (i := 4) (v := .int .u32 (H : Nat)) rfl (by kernel_rfl) (by kernel_rfl) (by kernel_rfl) (fun _ _ _ h => h) (.inl ⟨?_, fun w hS => .inr ⟨_, _, ?_, (HV2.out w).mono ?_⟩⟩) ?_
    · go_simp
    · go_simp
    · rintro e wy ⟨rfl, hB⟩; exact ⟨rfl, hS.trans hB, hB⟩
    refine rdk 5 (.string f) ?_
    refine rdk 6 (.string f8) ?_
    refine rdk 7 (.int .u32 (W : Nat)) ?_
    refine rdk 8 (.int .u32 (H : Nat)) ?_
    refine rdk 9 (.string f8) ?_
    refine ⟨by kernel_rfl, fun w8 hR8 hS8 => ?_⟩
    have HB8 := Lib.hid hS8
    clear hR8 hS8 k4 k8
    go_simp
    go_wp2_with fail
    refine (HR.out _).mono ?_
    rintro e w1 ⟨rfl, hB1⟩
    have HB1 := Lib.hid (HB8.out.trans hB1)
    clear hB1 HB8
    go_wp2_with fail
    refine (HM.out _).mono ?_
    rintro e wz ⟨rfl, rfl⟩
    go_wp2_with fail
    refine bodyPost_ret (results_tmp4 rfl _ _ _) rfl ?_
    exact ⟨rfl, HB1.out⟩
  · have HR : Hid (∀ v, Calls Tryd.prog 32 #[.int .u32 (manW s : Nat), .int .u32 (manH s : Nat)] v fun e w' => e = .returned (.bool false) ∧ But [] v w') := Lib.hid fun v => by
      have h := hasraster_any v hWl hHl
      rw [decide_eq_false hr] at h
      exact h
    obtain ⟨W, hW⟩ : ∃ z, z = manW s := ⟨_, rfl⟩
    obtain ⟨H, hH⟩ : ∃ z, z = manH s := ⟨_, rfl⟩
    rw [← hW] at HV1 HR hWl
    rw [← hH] at HV2 HR HM hHl
    obtain ⟨f, hf⟩ : ∃ z, z = strL s := ⟨_, rfl⟩
    obtain ⟨f4, hf4⟩ : ∃ z, z = strL (s.drop 4) := ⟨_, rfl⟩
    obtain ⟨f8, hf8⟩ : ∃ z, z = strL (s.drop 8) := ⟨_, rfl⟩
    obtain ⟨t0, ht0⟩ : ∃ z, z = 32 * m := ⟨_, rfl⟩
    have e1 : (32 : Int) * (m : Int) = (t0 : Int) := by omega
    have v1 := wrapI_in (show t0 < 1000000000000000 by omega)
    have v3 := wrapI_in (show W < 1000000000000000 by omega)
    have v4 := wrapI_in (show H < 1000000000000000 by omega)
    obtain ⟨n, hn⟩ : ∃ z, z = s.length := ⟨_, rfl⟩
    obtain ⟨n8, hn8⟩ : ∃ z, z = s.length - 8 := ⟨_, rfl⟩
    have hfz : f.size = n := by rw [hf, strL_size, hn]
    have hfz8 : f8.size = n8 := by rw [hf8, strL_size, List.length_drop, hn8]
    have q1 : ¬ (n : Int) < 8 := by omega
    rw [← hf] at HV1 ⊢
    rw [← hf4] at HV2
    simp only [← hf, ← hf4] at k4
    simp only [← hf, ← hf8] at k8
    clear hm hr hW hH hf hf4 hf8 hn hn8 ht0 hWl hHl h8 h hsz hs
    go_enter Tryd.func17, Tryd.ntmps17
    go_upto_region 3 with (fail)
    refine wp_region_m (S := fun v => But [] w v) (R := fun v v' => But [] v v') (fun w => But.refl [] w) (by kernel_rfl) ((But.refl [] w).drew) ?_
    refine rdk 0 (.string f) ?_
    refine wpM_take (fun w => But.refl [] w) (fun x y z h k => h.trans k) (i := 1) (v := .int .u32 (W : Nat)) rfl (by kernel_rfl) (by kernel_rfl) (by kernel_rfl) (fun _ _ _ h => h) (.inl ⟨?_, fun w hS => .inr ⟨_, _, ?_, (HV1.out w).mono ?_⟩⟩) ?_
    · go_simp
    · go_simp
    · rintro e wy ⟨rfl, hB⟩; exact ⟨rfl, hS.trans hB, hB⟩
    refine rdk 2 (.string f) ?_
    refine rdk 3 (.string f4) ?_
    refine wpM_take (fun w => But.refl [] w) (fun x y z h k => h.trans k) (i := 4) (v := .int .u32 (H : Nat)) rfl (by kernel_rfl) (by kernel_rfl) (by kernel_rfl) (fun _ _ _ h => h) (.inl ⟨?_, fun w hS => .inr ⟨_, _, ?_, (HV2.out w).mono ?_⟩⟩) ?_
    · go_simp
    · go_simp
    · rintro e wy ⟨rfl, hB⟩; exact ⟨rfl, hS.trans hB, hB⟩
    refine rdk 5 (.string f) ?_
    refine rdk 6 (.string f8) ?_
    refine rdk 7 (.int .u32 (W : Nat)) ?_
    refine rdk 8 (.int .u32 (H : Nat)) ?_
    refine rdk 9 (.string f8) ?_
    refine ⟨by kernel_rfl, fun w8 hR8 hS8 => ?_⟩
    have HB8 := Lib.hid hS8
    clear hR8 hS8 k4 k8
    go_simp
    go_wp2_with fail
    refine (HR.out _).mono ?_
    rintro e w1 ⟨rfl, hB1⟩
    have HB1 := Lib.hid (HB8.out.trans hB1)
    clear hB1 HB8
    go_wp2_with fail
    refine bodyPost_ret (results_tmp4 rfl _ _ _) rfl ?_
    exact ⟨rfl, HB1.out⟩
end Go.Proofs.YtmdiilnipoblbaaDoor
