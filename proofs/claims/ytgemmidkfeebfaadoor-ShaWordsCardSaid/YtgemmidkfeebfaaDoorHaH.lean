/- The program's state behind whole blocks. -/
import Derived.Test.YtgemmidkfeebfaaDoorHaG
import Derived.Test.YtgemmidkfeebfaaDoorAb
set_option maxRecDepth 100000
set_option linter.unusedVariables false
namespace Go.Proofs.YtgemmidkfeebfaaDoor
set_option maxRecDepth 100000
open Go Go.RowKit
theorem exec_load_is {o : Oper} {a : Act} {w : World} (T : TypeId) {b : Nat} {t : TypeId} {cs : Array Value} (x : Operand) (ho : o.op = .load T x) (hx : a.eval x = .pointer (some ⟨b, 0, none⟩)) (hT : AggT T cs.size) (h : Is w b t cs) : (execOp a.eval o).run Tryd.prog w = .ok (.value (.agg cs)) w := by
  unfold execOp
  simp only [ho, hx, load_is h hT, Sem.run_bind, Sem.run_pure, Result.andThen_ok]
/-- Words added, the first so many. -/
def midS (h v : List Nat) (k : Nat) : List Nat := (List.range 8).map fun i => if i < k then (h.getD i 0 + v.getD i 0) % 4294967296 else h.getD i 0
theorem midS_length (h v : List Nat) (k : Nat) : (midS h v k).length = 8 := by unfold midS; rw [List.length_map, List.length_range]
theorem midS_at {h v : List Nat} {k i : Nat} (hi : i < 8) : (midS h v k).getD i 0 = if i < k then (h.getD i 0 + v.getD i 0) % 4294967296 else h.getD i 0 := by
  unfold midS
  rw [List.getD_eq_getElem?_getD, List.getElem?_map, List.getElem?_range hi]
  rfl
theorem list_eq8 {a b : List Nat} (ha : a.length = 8) (hb : b.length = 8) (h : ∀ i, i < 8 → a.getD i 0 = b.getD i 0) : a = b := by
  apply List.ext_getElem (by rw [ha, hb])
  intro i h1 h2
  have := h i (by omega)
  rw [List.getD_eq_getElem?_getD, List.getD_eq_getElem?_getD, List.getElem?_eq_getElem h1, List.getElem?_eq_getElem h2] at this
  exact this
theorem midS_zero {h : List Nat} (hh : h.length = 8) (v : List Nat) : midS h v 0 = h := list_eq8 (midS_length _ _ _) hh fun i hi => by rw [midS_at hi, if_neg (by omega)]
theorem addS_length (h v : List Nat) : (addS h v).length = 8 := by unfold addS; rw [List.length_map, List.length_range]
theorem addS_at {h v : List Nat} {i : Nat} (hi : i < 8) : (addS h v).getD i 0 = (h.getD i 0 + v.getD i 0) % 4294967296 := by
  unfold addS
  rw [List.getD_eq_getElem?_getD, List.getElem?_map, List.getElem?_range hi]
  rfl
theorem midS_all (h v : List Nat) : midS h v 8 = addS h v := list_eq8 (midS_length _ _ _) (addS_length _ _) fun i hi => by rw [midS_at hi, if_pos hi, addS_at hi]
theorem midS_next {h v : List Nat} {k : Nat} (hk : k < 8) : (midS h v k).set k ((h.getD k 0 + v.getD k 0) % 4294967296) = midS h v (k + 1) := by
  refine list_eq8 (by rw [List.length_set, midS_length]) (midS_length _ _ _) fun i hi => ?_
  rw [midS_at hi, List.getD_eq_getElem?_getD]
  by_cases e : k = i
  · subst e
    rw [List.getElem?_set_self (by rw [midS_length]; exact hi), if_pos (by omega)]
    rfl
  · rw [List.getElem?_set_ne e, ← List.getD_eq_getElem?_getD, midS_at hi]
    by_cases h1 : i < k
    · rw [if_pos h1, if_pos (by omega)]
    · rw [if_neg h1, if_neg (by omega)]
theorem rowW_set {L : List Nat} {n i : Nat} (x : Nat) (hL : L.length = n) : (rowW L n).setIfInBounds i (.int .u32 (x : Nat)) = rowW (L.set i x) n := by
  unfold rowW uCells
  rw [List.length_set, hL, Nat.sub_self, List.replicate_zero, List.append_nil, List.append_nil]
  apply Array.ext'
  simp [List.map_set]
theorem idxV {v : List Nat} (hv : v.length = 8) : ∀ (k : Nat), k < 8 → ∀ W : World, (Instr.index 30 (.agg (rowW v 8)) (.int .i64 k)).run Tryd.prog W = .ok (.int .u32 (v.getD k 0 : Nat)) W := by
  obtain ⟨a, b, c, d, e, f, g, h, rfl⟩ := list8 hv
  rw [rowW8]
  exact idx8 a b c d e f g h
theorem roundsS_length {X v : List Nat} (hv : v.length = 8) : ∀ n, (roundsS X v n).length = 8
  | 0 => hv
  | n + 1 => by rw [roundsS_succ]; rfl
theorem blockS_of (h : List Nat) (b : List UInt8) : blockS h b = addS h (roundsS (extWd 48 (wordsB b)) h 64) := rfl
theorem empty_toH {B : List UInt8} (h : B.length = 0) : (strL B).toList = [] := by
  obtain rfl : B = [] := List.eq_nil_of_length_eq_zero h
  rw [ByteArray.toList_eq]; rfl
theorem empty_neH {B : List UInt8} (h : B.length ≠ 0) : ((strL B).toList == []) = false := by
  rw [ByteArray.toList_eq]
  have h2 : (strL B).data.toList ≠ [] := fun e => h (by rw [show (strL B).data.toList = B from strL_list B] at e; rw [e]; rfl)
  simpa using h2
attribute [local irreducible] rowW rotT kSha roundsS roundS extWd wordsB blockS addS midS blocksS
set_option maxHeartbeats 4000000 in
theorem pbehind_any (w : World) {h0 : List Nat} {B0 : List UInt8} (hh : h0.length = 8) (hs : Small h0) (hB0 : B0.length % 64 = 0) (hBl : B0.length ≤ 1000000000) (hG : GK w) :
    Calls Tryd.prog 12 #[.agg (rowW h0 8), .string (strL B0)] w fun e w' => e = .returned (.agg (rowW (blocksS (B0.length / 64) B0 h0) 8)) ∧ But [] w w' := by
  have z8 : (rowW h0 8).size = 8 := rowW_size (by omega)
  obtain ⟨w0, hw0⟩ : ∃ W, W = (w.alloc (.cells (rowW h0 8) 30)).alloc (.cells #[.int .u32 0, .int .u32 0, .int .u32 0, .int .u32 0, .int .u32 0, .int .u32 0, .int .u32 0, .int .u32 0] 30) := ⟨_, rfl⟩
  obtain ⟨g2, hg2⟩ : ∃ g, g = w.heap.size := ⟨_, rfl⟩
  obtain ⟨g4, hg4⟩ : ∃ g, g = w.heap.size + 1 := ⟨_, rfl⟩
  have HI2 : Hid (Is w0 g2 30 (rowW h0 8)) := Lib.hid (by rw [hw0, hg2]; exact (Is.fresh w _ _).alloc _)
  have HI4 : Hid (Is w0 g4 30 (rowW [] 8)) := Lib.hid (by
    rw [rowW08]
    have h := Is.fresh (w.alloc (.cells (rowW h0 8) 30)) 30 #[.int .u32 0, .int .u32 0, .int .u32 0, .int .u32 0, .int .u32 0, .int .u32 0, .int .u32 0, .int .u32 0]
    rw [hw0, hg4]
    simpa using h)
  have HB0 : Hid (But [] w w0) := Lib.hid (by rw [hw0]; exact ((But.refl [] w).alloc _).alloc _)
  have HGw := Lib.hid hG
  have HG : Hid (GK w0) := Lib.hid (hG.but HB0.out)
  have HL2 : Hid (w.heap.size ≤ g2) := Lib.hid (by omega)
  have HL4 : Hid (w.heap.size ≤ g4) := Lib.hid (by omega)
  have HNE : Hid (g2 ≠ g4) := Lib.hid (by omega)
  have HS0 := Lib.hid hs
  have HH0 := Lib.hid hh
  have HBM := Lib.hid hB0
  have HBL := Lib.hid hBl
  obtain ⟨R, hR⟩ : ∃ R, R = blocksS (B0.length / 64) B0 h0 := ⟨_, rfl⟩
  have HR0 := Lib.hid hR
  rw [← hR]
  clear hR hh hs hB0 hBl hG z8
  go_enter Tryd.func12, Tryd.ntmps12
  go_wp2_with fail
  rw [← hw0, ← hg4, ← hg2]
  clear hw0 hg4 hg2
  go_loopw [1, 5, 6, 16] (fun sv _ _ _ wr => ∃ (B : List UInt8) (h : List Nat), sv = .string (strL B) ∧ B.length ≤ 1000000000 ∧ Hid (B.length % 64 = 0) ∧ Hid (R = blocksS (B.length / 64) B h) ∧ Hid (h.length = 8) ∧ Hid (Small h) ∧ Hid (Is wr g2 30 (rowW h 8)) ∧ Hid (Is wr g4 30 (rowW [] 8)) ∧ Hid (But [] w wr) ∧ Hid (GK wr)) (fun sv _ _ _ _ => match sv with | .string s => s.size | _ => 0)
  case atStart => exact ⟨B0, h0, rfl, HBL.out, HBM, HR0, HH0, HS0, HI2, HI4, HB0, HG⟩
  case round =>
    clear HBM HR0 HH0 HS0 HI2 HI4 HB0 HG HBL
    obtain ⟨B, h, rfl, hBl, HBM, HR, HH, HS, HI2, HI4, HB, HG⟩ := hrel
    by_cases hz : B.length = 0
    · have e1 := empty_toH hz
      have z4 : (rowW [] 8).size = 8 := rowW_size (by decide)
      have zh : (rowW h 8).size = 8 := rowW_size (by rw [HH.out]; exact Nat.le_refl _)
      have HRh : Hid (R = h) := Lib.hid (by rw [HR.out, hz]; unfold blocksS; rfl)
      have HI5 := HI4.out.row (rowW h 8)
      have HB5 := HB.out.setRow (b := g4) (.inr HL4.out) (rowW h 8)
      have HZ := Lib.hid hz
      clear hz
      go_wp2_with (first
        | (refine wpList_load_is 30 rfl _ rfl rfl (by rw [zh]; exact agg8) HI2.out ?_)
        | (refine wpList_store_is 30 rfl _ _ rfl rfl rfl (by rw [zh]; exact agg8) HI4.out (by rw [z4, zh]) rowW_one ?_))
      go_simp
      rw [HRh.out]
      refine bodyPost_ret (v := .agg (rowW h 8)) ?_ rfl ⟨rfl, HB5⟩
      have hl := loadVar_is (T := 30) HI5 (by rw [zh]; exact agg8)
      simp [results, Tryd.results12, asAddr, hl]
    · have e1 := empty_neH hz
      have zh : (rowW h 8).size = 8 := rowW_size (by rw [HH.out]; exact Nat.le_refl _)
      have h64 : 64 ≤ B.length := by have := HBM.out; omega
      have kc : ∀ W, (Instr.slice 9 (.string (strL B)) none (some (.int .i64 64)) none).run Tryd.prog W = .ok (.string (strL (B.take 64))) W := fun W => cut_toH B (j := 64) W h64
      have kd : ∀ W, (Instr.slice 9 (.string (strL B)) (some (.int .i64 64)) none none).run Tryd.prog W = .ok (.string (strL (B.drop 64))) W := fun W => cut_fromH B (i := 64) W h64
      have ht : (B.take 64).length = 64 := by rw [List.length_take]; omega
      have HSc := Lib.hid fun W => pschedule_any W ht
      obtain ⟨X, hX⟩ : ∃ X, X = extWd 48 (wordsB (B.take 64)) := ⟨_, rfl⟩
      have hXl : X.length = 64 := by rw [hX, extWd_length, wordsB_length]
      have hXs : Small X := by rw [hX]; exact small_ext 48 (small_words _)
      rw [← hX] at HSc
      obtain ⟨V, hV⟩ : ∃ V, V = roundsS X h 64 := ⟨_, rfl⟩
      have HMx : Hid (∀ W, GK W → Calls Tryd.prog 18 #[.agg (rowW h 8), .agg (rowW X 64)] W fun e w' => e = .returned (.agg (rowW V 8)) ∧ But [] W w') := Lib.hid fun W hG => by
        rw [hV]; exact pmixed_any W HH.out HS.out hXl hXs hG
      have hVl : V.length = 8 := by rw [hV]; exact roundsS_length HH.out 64
      have HVl := Lib.hid hVl
      have HVs : Hid (Small V) := Lib.hid (by rw [hV]; exact small_rounds X HS.out 64)
      have HN : Hid (R = blocksS ((B.drop 64).length / 64) (B.drop 64) (addS h V)) := Lib.hid (by
        have e : B.length / 64 = (B.drop 64).length / 64 + 1 := by rw [List.length_drop]; omega
        rw [HR.out, e, hV, hX, ← blockS_of]
        rw [blocksS])
      have HD : Hid ((B.drop 64).length % 64 = 0 ∧ (B.drop 64).length ≤ 1000000000 ∧ (strL (B.drop 64)).size < (strL B).size) := Lib.hid (by
        have := HBM.out
        rw [strL_size, strL_size, List.length_drop]; omega)
      have HIX := Lib.hid (idxV hVl)
      obtain ⟨S, hS⟩ : ∃ S, S = strL B := ⟨_, rfl⟩
      obtain ⟨T, hT⟩ : ∃ S, S = strL (B.take 64) := ⟨_, rfl⟩
      obtain ⟨D, hD⟩ : ∃ S, S = B.drop 64 := ⟨_, rfl⟩
      rw [← hS] at e1
      simp only [← hS, ← hT] at kc
      simp only [← hS, ← hD] at kd
      rw [← hT] at HSc
      rw [← hD] at HN HD
      rw [← hS] at HD ⊢
      clear hX hXl hXs hV hVl ht h64 hS hT hD HR hz
      go_upto_region 3 with (fail)
      refine wp_region_m (S := fun v => But [] wr v) (R := fun v v' => But [] v v') (fun w => But.refl [] w) (by kernel_rfl) (But.refl [] wr).drew ?_
      refine rdq 0 (.agg (rowW h 8)) (fun W hS => exec_load_is 30 _ rfl rfl (by rw [zh]; exact agg8) (HI2.out.but hS (by simp))) ?_
      refine rdk 1 (.string S) ?_
      refine rdk 2 (.string T) ?_
      refine wpM_take (fun w => But.refl [] w) (fun x y z h k => h.trans k) (i := 3) (v := .agg (rowW X 64)) rfl (by kernel_rfl) (by kernel_rfl) (by kernel_rfl) (fun _ _ _ h => h) (.inl ⟨?_, fun w hS => .inr ⟨_, _, ?_, (HSc.out w).mono ?_⟩⟩) ?_
      · go_simp
      · go_simp
      · rintro e wy ⟨rfl, hB⟩; exact ⟨rfl, hS.trans hB, hB⟩
      refine wpM_take (fun w => But.refl [] w) (fun x y z h k => h.trans k) (i := 4) (v := .agg (rowW V 8)) rfl (by kernel_rfl) (by kernel_rfl) (by kernel_rfl) (fun _ _ _ h => h) (.inl ⟨?_, fun w hS => .inr ⟨_, _, ?_, (HMx.out w (HG.out.but hS)).mono ?_⟩⟩) ?_
      · go_simp
      · go_simp
      · rintro e wy ⟨rfl, hB⟩; exact ⟨rfl, hS.trans hB, hB⟩
      refine rdk 5 (.int .i64 0) ?_
      refine ⟨by kernel_rfl, fun w4 hR4 hS4 => ?_⟩
      have HJ2 : Hid (Is w4 g2 30 (rowW (midS h V 0) 8)) := Lib.hid (by rw [midS_zero HH.out]; exact HI2.out.but hS4 (by simp))
      have HJ4 : Hid (Is w4 g4 30 (rowW [] 8)) := Lib.hid (HI4.out.but hS4 (by simp))
      have HBj := Lib.hid (HB.out.trans hS4)
      clear hR4 hS4 HI2 HI4 HB HG HSc HMx kc e1
      go_simp
      go_wp2_with fail
      go_loopw [5, 6, 16] (fun _ _ kv wx => ∃ k : Nat, k ≤ 8 ∧ kv = .int .i64 k ∧ Hid (Is wx g2 30 (rowW (midS h V k) 8)) ∧ Hid (Is wx g4 30 (rowW [] 8)) ∧ Hid (But [] w wx)) (fun _ _ kv _ => 8 - (intOf kv).toNat)
      case atStart => exact ⟨0, Nat.zero_le _, rfl, HJ2, HJ4, HBj⟩
      case round =>
        clear HJ2 HJ4 HBj
        obtain ⟨k, hk, rfl, HI2, HI4, HB⟩ := hrel
        by_cases hlt : k < 8
        · have kx := HIX.out k hlt
          obtain ⟨n, hn⟩ : ∃ n, n = V.getD k 0 := ⟨_, rfl⟩
          obtain ⟨x, hx⟩ : ∃ n, n = h.getD k 0 := ⟨_, rfl⟩
          rw [← hn] at kx
          have c0 := HI2.out.cell k
          rw [rowW_at (by rw [midS_length]; exact hlt), midS_at hlt, if_neg (Nat.lt_irrefl k), ← hx] at c0
          have c1 := HI2.out.free k
          obtain ⟨s, hs⟩ : ∃ z, z = x + n := ⟨_, rfl⟩
          obtain ⟨y, hy⟩ : ∃ z, z = s % 4294967296 := ⟨_, rfl⟩
          have f1 : (x : Int) + (n : Int) = (s : Int) := by omega
          have f2 : IntKind.u32.wrap (s : Int) = (y : Int) := by rw [wrapW, hy]
          have HPUT : Hid ((rowW (midS h V k) 8).setIfInBounds k (.int .u32 (y : Nat)) = rowW (midS h V (k + 1)) 8) := Lib.hid (by
            rw [rowW_set y (midS_length h V k), ← midS_next hlt, hy, hs, hx, hn])
          have HI2b : Hid (Is (wr.setCell ⟨g2, k, none⟩ (.int .u32 (y : Nat))) g2 30 (rowW (midS h V (k + 1)) 8)) := Lib.hid (by
            have e := HI2.out.put k (.int .u32 (y : Nat))
            rw [HPUT.out] at e
            exact e)
          have HI4b : Hid (Is (wr.setCell ⟨g2, k, none⟩ (.int .u32 (y : Nat))) g4 30 (rowW [] 8)) := Lib.hid (HI4.out.far (fun e => HNE.out e.symm) _)
          have HBb : Hid (But [] w (wr.setCell ⟨g2, k, none⟩ (.int .u32 (y : Nat)))) := Lib.hid (HB.out.setCell (.inr HL2.out) _)
          clear hn hx hs hy HPUT HI2 HI4 HB
          go_wp2
          go_roundw
          case rel => exact ⟨k + 1, by omega, by go_num, HI2b, HI4b, HBb⟩
          case measure => simp [intOf] <;> omega
        · have h8 : k = 8 := by omega
          have HI2b : Hid (Is wr g2 30 (rowW (addS h V) 8)) := Lib.hid (by
            have e := HI2.out
            rw [h8, midS_all] at e
            exact e)
          have k8 : ¬ (k : Int) < 8 := by omega
          clear h8 HI2
          go_wp2
          go_roundw
          case rel => exact ⟨D, addS h V, rfl, HD.out.2.1, Lib.hid HD.out.1, HN, Lib.hid (addS_length h V), Lib.hid (small_add h V), HI2b, HI4, HB, Lib.hid (HGw.out.but HB.out)⟩
          case measure => exact HD.out.2.2
end Go.Proofs.YtgemmidkfeebfaaDoor
