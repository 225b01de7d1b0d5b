/- Several texts in one: Math, Four, HeM, Mem, SbA, SbB, RwF, SbC, SbE, SbG, SbH, SbI, LcC (what PixelImages reach of them). -/
import Derived.Test.YtfiedoejdikcgaaDoorQ01
import Derived.Test.YtfiedoejdikcgaaDoorQ02
import Derived.Test.YtfiedoejdikcgaaDoorQ03
import Derived.Test.YtfiedoejdikcgaaDoorQ04
import Derived.Test.YtfiedoejdikcgaaDoorQ05
import Derived.Test.YtfiedoejdikcgaaDoorQ06
import Derived.Below
import Derived.BigQuiet
import Derived.BigRegion
import Derived.Deep.AppendLies
import Derived.Deep.CutBlock
import Derived.Deep.CutRange
import Derived.Deep.DeepCutAuto
import Derived.Deep.Draws
import Derived.Deep.QuietTactic
import Derived.Deep.RegionLaw
import Derived.Deep.RegionWith
import Derived.Handy
import Derived.Laws.BitsAllLaws
import Derived.Laws.BitsLemmas
import Derived.Laws.BytesArg
import Derived.Laws.IdiomStrings
import Derived.Laws.MakeOwn
import Derived.Laws.OwnMore
import Derived.Laws.Rows
import Derived.Laws.StructEq
import Derived.Lib.Hide
import Derived.Maps.AppendAt
import Derived.OrdersHeld
import Derived.OrdersIn
import Derived.Outline
import Derived.OwnWalk
import Derived.OwnWalkIn
import Derived.RangeFuncCalls
import Derived.RegionTactic
import Derived.TacticsInMore
import Derived.Test.YtfiedoejdikcgaaDoorChecked
import Derived.WalkKit
set_option maxRecDepth 100000
set_option linter.unusedVariables false
namespace Go.Proofs.YtfiedoejdikcgaaDoor
set_option maxRecDepth 100000
open Go
theorem take_snoc (s : ByteArray) (k : Nat) (h : k < s.size) : s.data.toList.take (k + 1) = s.data.toList.take k ++ [s[k]] := by
  rw [List.take_succ_eq_append_getElem (by simpa using h)]; rfl
end Go.Proofs.YtfiedoejdikcgaaDoor
set_option linter.unusedVariables false
namespace Go.Proofs.YtfiedoejdikcgaaDoor
set_option maxRecDepth 100000
open Go
theorem strL_append (a b : List UInt8) : strL (a ++ b) = strL a ++ strL b := by
  unfold strL
  apply ByteArray.ext
  simp
end Go.Proofs.YtfiedoejdikcgaaDoor
set_option linter.unusedVariables false
namespace Go.Proofs.YtfiedoejdikcgaaDoor
set_option maxRecDepth 100000
open Go
def hs0 : HS := ⟨false, false, false, false, [], [], []⟩
end Go.Proofs.YtfiedoejdikcgaaDoor
namespace Go.Proofs.YtfiedoejdikcgaaDoor
set_option maxRecDepth 100000
open Go Go.RowKit
section
variable {w w' w'' : World} {b : Nat} {t : TypeId} {cs : Array Value} {S T : List Nat}
variable {A : Option Addr} {n : Nat} {l : List UInt8}
/-- A cut from k on. -/
theorem ByteRow.cut (h : ByteRow w A n l) {k c : Nat} (hk : k ≤ n) (hc : n ≤ c) : ByteRow w (if c = k then A else A.map (·.add k)) (n - k) (l.drop k) := by
  refine ⟨by rw [List.length_drop, h.1], fun hn => ?_⟩
  obtain ⟨g, o, rfl, hcell⟩ := h.2 (by omega)
  rw [if_neg (by omega)]
  refine ⟨g, o + k, by simp [Addr.add], fun i hi => ?_⟩
  have hl := h.1
  rw [List.length_drop] at hi
  have := hcell (k + i) (by omega)
  rw [List.getElem_drop, Nat.add_assoc]
  exact this
theorem Off.cut {k c : Nat} (h : Off A b) : Off (if c = k then A else A.map (·.add k)) b := by
  split
  · exact h
  · intro a ha
    rcases A with _ | a0
    · simp at ha
    · simp only [Option.map_some, Option.some.injEq] at ha
      subst ha
      have := h a0 rfl
      unfold Addr.add
      split <;> exact this
end
end Go.Proofs.YtfiedoejdikcgaaDoor
set_option maxRecDepth 100000
set_option linter.unusedVariables false
namespace Go.Proofs.YtfiedoejdikcgaaDoor
set_option maxRecDepth 100000
open Go Go.RowKit
set_option maxHeartbeats 1000000 in
theorem ewide_1 (w : World) (v : Int) (hv : -9223372036854775808 ≤ v ∧ v ≤ 9223372036854775807) : Calls Tryd.prog 51 #[.int .i64 v, .int .i64 1] w fun e w' => e = .returned (.int .i64 (wideA v 1 : Nat)) ∧ w = w' := by
  have HD := Lib.hid fun W => edepth_any W 1
  rw [show depB 1 = true by decide] at HD
  obtain ⟨m, hm⟩ : ∃ m, m = (v % 2).toNat := ⟨_, rfl⟩
  have hmi : (m : Int) = v % 2 := by omega
  have hml : m ≤ 1 := by omega
  have e1 : bits .and .i64 v 1 = (m : Int) := by
    have h := i64_mask v 1 (by decide)
    rw [hmi]
    exact h
  have HR : Hid (wideA v 1 = m * 65535 / 1) := Lib.hid (by unfold wideA wideN; rw [if_pos (by decide), hm]; rfl)
  obtain ⟨v1, v2⟩ := hv
  clear hm hmi
  go_enter Tryd.func51, Tryd.ntmps51
  go_wp2_with fail
  refine (HD.out _).mono ?_
  rintro e w1 ⟨rfl, rfl⟩
  go_wp2
  go_ret
  refine ⟨?_, rfl⟩
  rw [HR.out]
  refine congrArg (fun x => Ending.returned (.int .i64 x)) ?_
  first | omega | (rw [Int.tdiv_eq_ediv_of_nonneg (by omega)]; omega)
set_option maxHeartbeats 1000000 in
theorem ewide_2 (w : World) (v : Int) (hv : -9223372036854775808 ≤ v ∧ v ≤ 9223372036854775807) : Calls Tryd.prog 51 #[.int .i64 v, .int .i64 2] w fun e w' => e = .returned (.int .i64 (wideA v 2 : Nat)) ∧ w = w' := by
  have HD := Lib.hid fun W => edepth_any W 2
  rw [show depB 2 = true by decide] at HD
  obtain ⟨m, hm⟩ : ∃ m, m = (v % 4).toNat := ⟨_, rfl⟩
  have hmi : (m : Int) = v % 4 := by omega
  have hml : m ≤ 3 := by omega
  have e1 : bits .and .i64 v 3 = (m : Int) := by
    have h := i64_mask v 2 (by decide)
    rw [hmi]
    exact h
  have HR : Hid (wideA v 2 = m * 65535 / 3) := Lib.hid (by unfold wideA wideN; rw [if_pos (by decide), hm]; rfl)
  obtain ⟨v1, v2⟩ := hv
  clear hm hmi
  go_enter Tryd.func51, Tryd.ntmps51
  go_wp2_with fail
  refine (HD.out _).mono ?_
  rintro e w1 ⟨rfl, rfl⟩
  go_wp2
  go_ret
  refine ⟨?_, rfl⟩
  rw [HR.out]
  refine congrArg (fun x => Ending.returned (.int .i64 x)) ?_
  first | omega | (rw [Int.tdiv_eq_ediv_of_nonneg (by omega)]; omega)
set_option maxHeartbeats 1000000 in
theorem ewide_4 (w : World) (v : Int) (hv : -9223372036854775808 ≤ v ∧ v ≤ 9223372036854775807) : Calls Tryd.prog 51 #[.int .i64 v, .int .i64 4] w fun e w' => e = .returned (.int .i64 (wideA v 4 : Nat)) ∧ w = w' := by
  have HD := Lib.hid fun W => edepth_any W 4
  rw [show depB 4 = true by decide] at HD
  obtain ⟨m, hm⟩ : ∃ m, m = (v % 16).toNat := ⟨_, rfl⟩
  have hmi : (m : Int) = v % 16 := by omega
  have hml : m ≤ 15 := by omega
  have e1 : bits .and .i64 v 15 = (m : Int) := by
    have h := i64_mask v 4 (by decide)
    rw [hmi]
    exact h
  have HR : Hid (wideA v 4 = m * 65535 / 15) := Lib.hid (by unfold wideA wideN; rw [if_pos (by decide), hm]; rfl)
  obtain ⟨v1, v2⟩ := hv
  clear hm hmi
  go_enter Tryd.func51, Tryd.ntmps51
  go_wp2_with fail
  refine (HD.out _).mono ?_
  rintro e w1 ⟨rfl, rfl⟩
  go_wp2
  go_ret
  refine ⟨?_, rfl⟩
  rw [HR.out]
  refine congrArg (fun x => Ending.returned (.int .i64 x)) ?_
  first | omega | (rw [Int.tdiv_eq_ediv_of_nonneg (by omega)]; omega)
set_option maxHeartbeats 1000000 in
theorem ewide_8 (w : World) (v : Int) (hv : -9223372036854775808 ≤ v ∧ v ≤ 9223372036854775807) : Calls Tryd.prog 51 #[.int .i64 v, .int .i64 8] w fun e w' => e = .returned (.int .i64 (wideA v 8 : Nat)) ∧ w = w' := by
  have HD := Lib.hid fun W => edepth_any W 8
  rw [show depB 8 = true by decide] at HD
  obtain ⟨m, hm⟩ : ∃ m, m = (v % 256).toNat := ⟨_, rfl⟩
  have hmi : (m : Int) = v % 256 := by omega
  have hml : m ≤ 255 := by omega
  have e1 : bits .and .i64 v 255 = (m : Int) := by
    have h := i64_mask v 8 (by decide)
    rw [hmi]
    exact h
  have HR : Hid (wideA v 8 = m * 65535 / 255) := Lib.hid (by unfold wideA wideN; rw [if_pos (by decide), hm]; rfl)
  obtain ⟨v1, v2⟩ := hv
  clear hm hmi
  go_enter Tryd.func51, Tryd.ntmps51
  go_wp2_with fail
  refine (HD.out _).mono ?_
  rintro e w1 ⟨rfl, rfl⟩
  go_wp2
  go_ret
  refine ⟨?_, rfl⟩
  rw [HR.out]
  refine congrArg (fun x => Ending.returned (.int .i64 x)) ?_
  first | omega | (rw [Int.tdiv_eq_ediv_of_nonneg (by omega)]; omega)
set_option maxHeartbeats 1000000 in
theorem ewide_16 (w : World) (v : Int) (hv : -9223372036854775808 ≤ v ∧ v ≤ 9223372036854775807) : Calls Tryd.prog 51 #[.int .i64 v, .int .i64 16] w fun e w' => e = .returned (.int .i64 (wideA v 16 : Nat)) ∧ w = w' := by
  have HD := Lib.hid fun W => edepth_any W 16
  rw [show depB 16 = true by decide] at HD
  obtain ⟨m, hm⟩ : ∃ m, m = (v % 65536).toNat := ⟨_, rfl⟩
  have hmi : (m : Int) = v % 65536 := by omega
  have hml : m ≤ 65535 := by omega
  have e1 : bits .and .i64 v 65535 = (m : Int) := by
    have h := i64_mask v 16 (by decide)
    rw [hmi]
    exact h
  have HR : Hid (wideA v 16 = m * 65535 / 65535) := Lib.hid (by unfold wideA wideN; rw [if_pos (by decide), hm]; rfl)
  obtain ⟨v1, v2⟩ := hv
  clear hm hmi
  go_enter Tryd.func51, Tryd.ntmps51
  go_wp2_with fail
  refine (HD.out _).mono ?_
  rintro e w1 ⟨rfl, rfl⟩
  go_wp2
  go_ret
  refine ⟨?_, rfl⟩
  rw [HR.out]
  refine congrArg (fun x => Ending.returned (.int .i64 x)) ?_
  first | omega | (rw [Int.tdiv_eq_ediv_of_nonneg (by omega)]; omega)
set_option maxHeartbeats 1000000 in
theorem ewide_any (w : World) (v d : Int) (hv : -9223372036854775808 ≤ v ∧ v ≤ 9223372036854775807) : Calls Tryd.prog 51 #[.int .i64 v, .int .i64 d] w fun e w' => e = .returned (.int .i64 (wideA v d : Nat)) ∧ w = w' := by
  by_cases h : depB d = true
  · have h2 := of_decide_eq_true h
    rcases h2 with rfl | rfl | rfl | rfl | rfl
    · exact ewide_1 w v hv
    · exact ewide_2 w v hv
    · exact ewide_4 w v hv
    · exact ewide_8 w v hv
    · exact ewide_16 w v hv
  · have hf : depB d = false := by simpa using h
    have HD := Lib.hid fun W => edepth_any W d
    rw [hf] at HD
    have HR := Lib.hid (wideA_no (v := v) hf)
    rw [HR.out]
    clear h hf
    go_enter Tryd.func51, Tryd.ntmps51
    go_wp2_with fail
    refine (HD.out _).mono ?_
    rintro e w1 ⟨rfl, rfl⟩
    go_wp2
    go_ret
    exact ⟨rfl, rfl⟩
end Go.Proofs.YtfiedoejdikcgaaDoor
set_option maxRecDepth 100000
set_option linter.unusedVariables false
namespace Go.Proofs.YtfiedoejdikcgaaDoor
set_option maxRecDepth 100000
open Go Go.RowKit
/-- One number appended. -/
theorem wpList_append_n {w0 : World} (w : World) {ops : Array Oper} {rest : List Oper} {o : Oper} {a : Act} {Q : Exit → Act → World → Prop} (hgd : o.guard = none) (sl x : Operand)
    (ho : o.op = .call { callee := .builtin .append, args := #[sl, x], argTypes := #[37, 37] })
    (v : Value) (L : List Nat) (hs : a.eval sl = v) (hO : OwnN w w0.heap.size v L) (hB : But [] w0 w) (p : Nat) {g : Nat} (hx : a.eval x = .slice (some ⟨g, 0, none⟩) 1 1) (hI : Is w g 3 #[.int .i64 (p : Nat)]) (hbound : L.length < 1000000000)
    (h : ∀ A c w', Hid (OwnN w' w0.heap.size (.slice A (L.length + 1) c) (L ++ [p])) → Hid (But [] w0 w') → wpList Tryd.prog ops Q rest (a.put o.dst (.slice A (L.length + 1) c)) w') : wpList Tryd.prog ops Q (o :: rest) a w := by
  obtain ⟨i0, hi0, hz0, hz1, hz2⟩ := info_parts info_intN
  refine wpList_append_own_at w hgd sl x 37 ho w0.heap.size 3 i0 _ 1 8 Tryd.underlying37 hi0 hz0 hz1 hz2 rfl (by decide) v L.length (nCells L) hs hO ⟨g, 0, none⟩ 1 1 [.int .i64 (p : Nat)] hx rfl (news_n hI) (by simp [Value.oneCell']) (by unfold maxLen; omega) (by omega) hB.size ?_
  intro v' w' hown hgrow _ hat
  have hO2 : OwnN w' w0.heap.size v' (L ++ [p]) := by
    unfold OwnN
    rw [List.length_append, nCells_append]
    exact hown
  obtain ⟨A, c, rfl, _⟩ := hO2.shape
  have key := h A c w'
  rw [List.length_append] at hO2 ⊢
  exact key (Lib.hid hO2) (Lib.hid (hB.grown hgrow (fun k e => .inr (hO.lt k e))))
end Go.Proofs.YtfiedoejdikcgaaDoor
set_option maxRecDepth 100000
set_option linter.unusedVariables false
namespace Go.Proofs.YtfiedoejdikcgaaDoor
set_option maxRecDepth 100000
open Go Go.RowKit
theorem OwnF.byte {w : World} {base : Nat} {A : Option Addr} {n c : Nat} {L : List UInt8} (h : OwnF w base (.slice A n c) L) {i : Nat} (hi : i < L.length) :
    ∃ g, A = some ⟨g, 0, none⟩ ∧ w.cell? ⟨g, i, none⟩ = some (.int .u8 ((L.getD i 0).toNat : Int)) := by
  unfold OwnF at h
  obtain ⟨g, cap, e, h1, h2⟩ := h.form (by omega)
  injection e with e1 e2 e3
  subst e1 e3
  refine ⟨g, rfl, ?_⟩
  have hc := World.ownsRow.cells h (g := g) rfl i (.int .u8 (L[i].toNat : Int)) (by simp [cellsF, hi])
  have e2 : (⟨g, 0, none⟩ : Addr).add i = ⟨g, i, none⟩ := by unfold Addr.add; split <;> simp_all
  rw [e2] at hc
  rw [hc, getD_lt hi]
section
variable {w w' : World} {g : Nat} {l : List UInt8}
end
end Go.Proofs.YtfiedoejdikcgaaDoor
set_option maxRecDepth 100000
set_option linter.unusedVariables false
namespace Go.Proofs.YtfiedoejdikcgaaDoor
set_option maxRecDepth 100000
open Go Go.RowKit
theorem u8_one {y : Nat} (hy : y < 256) : bits .and .u8 (y : Int) 1 = ((y % 2 : Nat) : Int) := by
  have h := u8_and_nat y 1 hy (by decide)
  rw [Nat.and_one_is_mod] at h
  exact h
set_option maxHeartbeats 1000000 in
theorem eunpack_bad (w : World) {s : ByteArray} {d n : Int} (hs : s.size ≤ 140737488351232) (hn : -9223372036854775808 ≤ n ∧ n ≤ 9223372036854775807) (h : depB d = false ∨ n < 0 ∨ 4096 < n) :
    Calls Tryd.prog 29 #[.string s, .int .i64 d, .int .i64 n] w (GotN w (unpackA s d n)) := by
  have HR : Hid (unpackA s d n = ([], 1)) := Lib.hid (by unfold unpackA; rw [if_pos h])
  rw [HR.out]
  have HD := Lib.hid fun W => edepth_any W d
  obtain ⟨n1, n2⟩ := hn
  cases hd : depB d with
  | false =>
    rw [hd] at HD
    clear hd h
    go_enter Tryd.func29, Tryd.ntmps29
    go_wp2_with fail
    refine (HD.out _).mono ?_
    rintro e w1 ⟨rfl, rfl⟩
    go_wp2
    go_ret2
    exact ⟨none, 0, rfl, Nums.nil _ _, Nat.le_refl _, But.refl [] _⟩
  | true =>
    rw [hd] at HD h
    by_cases h1 : n < 0
    · clear hd h
      go_enter Tryd.func29, Tryd.ntmps29
      go_wp2_with fail
      refine (HD.out _).mono ?_
      rintro e w1 ⟨rfl, rfl⟩
      go_wp2
      go_ret2
      exact ⟨none, 0, rfl, Nums.nil _ _, Nat.le_refl _, But.refl [] _⟩
    · have h2 : 4096 < n := by rcases h with h | h | h; exact absurd h (by decide); exact absurd h h1; exact h
      clear hd h
      go_enter Tryd.func29, Tryd.ntmps29
      go_wp2_with fail
      refine (HD.out _).mono ?_
      rintro e w1 ⟨rfl, rfl⟩
      go_wp2
      go_ret2
      exact ⟨none, 0, rfl, Nums.nil _ _, Nat.le_refl _, But.refl [] _⟩
set_option maxHeartbeats 2000000 in
theorem eunpack_any (w : World) {s : ByteArray} {d n : Int} (hs : s.size ≤ 140737488351232) (hn : -9223372036854775808 ≤ n ∧ n ≤ 9223372036854775807) :
    Calls Tryd.prog 29 #[.string s, .int .i64 d, .int .i64 n] w (GotN w (unpackA s d n)) := by
  by_cases hb : depB d = false ∨ n < 0 ∨ 4096 < n
  · exact eunpack_bad w hs hn hb
  have hd : depB d = true := by cases h : depB d; exact absurd (Or.inl h) hb; rfl
  obtain ⟨D, rfl, hdep, hD1, hD16⟩ := depB_nat hd
  obtain ⟨N, rfl⟩ : ∃ N : Nat, n = (N : Int) := ⟨n.toNat, by omega⟩
  have hN : N ≤ 4096 := by omega
  have HD := Lib.hid fun W => edepth_any W D
  rw [hd] at HD
  obtain ⟨t, ht⟩ : ∃ t, t = N * D := ⟨_, rfl⟩
  have e0 : (N : Int) * (D : Int) = (t : Int) := by rw [ht, Int.natCast_mul]
  have ht2 : t ≤ 65536 := by rw [ht]; show _ ≤ 4096 * 16; exact Nat.mul_le_mul hN hD16
  have q1 : decide ((N : Int) < 0) = false := decide_eq_false (by omega)
  have q2 : decide ((4096 : Int) < (N : Int)) = false := decide_eq_false (by omega)
  by_cases hsh : 8 * s.size < t
  · have HR : Hid (unpackA s (D : Int) (N : Int) = ([], 30)) := Lib.hid (by unfold unpackA; rw [if_neg hb, e0, if_pos (by omega)])
    rw [HR.out]
    clear hb hd hdep ht
    go_enter Tryd.func29, Tryd.ntmps29
    go_wp2_with fail
    refine (HD.out _).mono ?_
    rintro e w1 ⟨rfl, rfl⟩
    go_wp2
    go_ret2
    exact ⟨none, 0, rfl, Nums.nil _ _, Nat.le_refl _, But.refl [] _⟩
  have HR : Hid (unpackA s (D : Int) (N : Int) = (unpackT s.data.toList D N, 0)) := Lib.hid (by unfold unpackA; rw [if_neg hb, e0, if_neg (by omega)]; rfl)
  rw [HR.out]
  have HT := Lib.hid ht
  clear hb hd hdep ht
  go_enter Tryd.func29, Tryd.ntmps29
  go_wp2_with fail
  refine (HD.out _).mono ?_
  rintro e w1 ⟨rfl, rfl⟩
  go_wp2_with fail
  go_loopw [8, 9] (fun ov iv wr => ∃ i : Nat, i ≤ N ∧ iv = .int .i64 i ∧ Hid (OwnN wr w.heap.size ov (unpackT s.data.toList D i)) ∧ Hid (But [] w wr)) (fun _ iv _ => N - (intOf iv).toNat)
  case atStart => exact ⟨0, Nat.zero_le _, rfl, Lib.hid (OwnN.nil _ _), Lib.hid (But.refl [] _)⟩
  case round =>
    obtain ⟨i, hi, rfl, HO, HB⟩ := hrel
    by_cases hlt : i < N
    · obtain ⟨q, hq⟩ : ∃ q, q = i * D := ⟨_, rfl⟩
      have e1 : (i : Int) * (D : Int) = (q : Int) := by rw [hq, Int.natCast_mul]
      have hqn : (i + 1) * D = q + D := by rw [hq, Nat.add_mul, Nat.one_mul]
      have e2 : ((i : Int) + 1) * (D : Int) = (q : Int) + (D : Int) := by
        have h := congrArg (fun x : Nat => (x : Int)) hqn
        simpa using h
      have hqt : q + D ≤ t := by rw [← hqn, HT.out]; exact Nat.mul_le_mul_right D hlt
      obtain ⟨F, hF⟩ : ∃ F : Nat → Nat, F = fun b => rowBit s.data.toList (q + b) := ⟨_, rfl⟩
      have HFS : Hid (valN F D = sampleN s.data.toList D i) := Lib.hid (by rw [hF, hq]; rfl)
      have HF2 : Hid (∀ b, F b < 2) := Lib.hid fun b => by rw [hF]; exact bitN_lt _ _
      have HFB : Hid (∀ b, F b = rowBit s.data.toList (q + b)) := Lib.hid fun b => by rw [hF]
      have HVL : Hid (∀ b, b ≤ D → valN F b < 65536) := Lib.hid fun b hb => by
        have h := valN_lt (f := F) (n := b) (fun b _ => HF2.out b)
        have h2 : 2 ^ b ≤ 2 ^ 16 := Nat.pow_le_pow_right (by decide) (by omega)
        have h3 : (2 : Nat) ^ 16 = 65536 := by decide
        omega
      have HNX := Lib.hid (unpackT_next s.data.toList D i)
      have HLEN := Lib.hid (unpackT_length s.data.toList D i)
      clear hq hqn hF
      go_wp2_with fail
      go_loopw [10, 11] (fun vv kv wx => ∃ b v : Nat, b ≤ D ∧ kv = .int .i64 ((q + b : Nat) : Int) ∧ vv = .int .i64 (v : Nat) ∧ Hid (v = valN F b) ∧ Hid (OwnN wx w.heap.size u8 (unpackT s.data.toList D i)) ∧ Hid (But [] w wx)) (fun _ kv _ => q + D - (intOf kv).toNat)
      case atStart => exact ⟨0, 0, Nat.zero_le _, rfl, rfl, Lib.hid rfl, HO, HB⟩
      case round =>
        clear HO HB
        obtain ⟨b, v, hb, rfl, rfl, HV, HO, HB⟩ := hrel
        have hv : v < 65536 := by rw [HV.out]; exact HVL.out b hb
        by_cases hbl : b < D
        · obtain ⟨k, hk⟩ : ∃ k, k = q + b := ⟨_, rfl⟩
          rw [← hk]
          obtain ⟨kq, hkq⟩ : ∃ x, x = k / 8 := ⟨_, rfl⟩
          obtain ⟨km, hkm⟩ : ∃ x, x = k % 8 := ⟨_, rfl⟩
          obtain ⟨sh, hsh2⟩ : ∃ x, x = 7 - km := ⟨_, rfl⟩
          have hkt : k < t := by omega
          have hks : kq < s.size := by omega
          obtain ⟨bt, hbt⟩ : ∃ x, x = s[kq].toNat := ⟨_, rfl⟩
          have hb256 : bt < 256 := by rw [hbt]; exact s[kq].toNat_lt
          obtain ⟨y, hy⟩ : ∃ x, x = bt / 2 ^ sh := ⟨_, rfl⟩
          have hy256 : y < 256 := by rw [hy]; exact Nat.lt_of_le_of_lt (Nat.div_le_self _ _) hb256
          obtain ⟨z, hz⟩ : ∃ x, x = y % 2 := ⟨_, rfl⟩
          have hz2 : z < 2 := by omega
          have f1 : (k : Int).tdiv 8 = (kq : Int) := by rw [Int.tdiv_eq_ediv_of_nonneg (by omega)]; omega
          have f2 : (k : Int) / 8 = (kq : Int) := by omega
          have f3 : (k : Int).tmod 8 = (km : Int) := by rw [Int.tmod_eq_emod_of_nonneg (by omega)]; omega
          have f4 : (k : Int) % 8 = (km : Int) := by omega
          have f5 : (7 : Int) - (km : Int) = (sh : Int) := by omega
          have f6 : (bt : Int) / 2 ^ sh = (y : Int) := by rw [hy]; simp
          have f7 : bits .and .u8 (y : Int) 1 = (z : Int) := by rw [hz]; exact u8_one hy256
          have kx : ∀ w, (Instr.index 9 (.string s) (.int .i64 (kq : Int))).run Tryd.prog w = .ok (.int .u8 (bt : Int)) w := fun w => by rw [hbt]; exact byteR_run hks w
          have HN : Hid (2 * v + z = valN F (b + 1)) := Lib.hid (by
            have e : z = F b := by
              rw [HFB.out, ← hk]
              unfold rowBit bitN
              rw [← hkq, ← hkm, ← hsh2, getD_byte s hks, ← hbt, ← hy, hz]
            rw [e, HV.out]
            rfl)
          have HK := Lib.hid hk
          have hkb : k + 1 = q + (b + 1) := by omega
          have HKB := Lib.hid hkb
          have hsh7 : sh ≤ 7 := by omega
          have hkd : k < q + D := by omega
          have HKD := Lib.hid hkd
          clear hkq hkm hsh2 hbt hy hz hkb hk
          go_wp2
          go_roundw
          case rel => exact ⟨b + 1, 2 * v + z, by omega, by rw [← HKB.out]; go_num, by go_num, HN, HO, HB⟩
          case measure => simp [intOf] <;> omega
        · obtain rfl : b = D := by omega
          have HV2 : Hid (v = sampleN s.data.toList b i) := Lib.hid (by rw [HV.out, HFS.out])
          have HLT : Hid ((unpackT s.data.toList b i).length < 1000000000) := Lib.hid (by rw [HLEN.out]; omega)
          go_wp2_with (at_builtin; refine wpList_append_n (w0 := w) _ rfl _ _ rfl _ (unpackT s.data.toList b i) rfl (HO.out.but ((But.refl [] _).alloc _)) (HB.out.alloc _) v rfl (Is.fresh _ _ _) HLT.out ?_)
          intro A9 c9 w9 HO9 HB9
          have HO8 : Hid (OwnN w9 w.heap.size (.slice A9 ((unpackT s.data.toList b i).length + 1) c9) (unpackT s.data.toList b (i + 1))) := Lib.hid (by rw [HNX.out, ← HV2.out]; exact HO9.out)
          clear HO9 HO HB
          go_wp2
          go_roundw
          case rel => exact ⟨i + 1, by omega, by go_num, HO8, HB9⟩
          case measure => simp [intOf] <;> omega
    · obtain rfl : i = N := by omega
      obtain ⟨A, cp, rfl, hcp⟩ := HO.out.shape
      have hps := HO.out.nums
      go_wp2
      go_ret2
      exact ⟨A, cp, rfl, hps, hcp, HB.out⟩
end Go.Proofs.YtfiedoejdikcgaaDoor
set_option maxRecDepth 100000
set_option linter.unusedVariables false
namespace Go.Proofs.YtfiedoejdikcgaaDoor
set_option maxRecDepth 100000
open Go Go.RowKit
theorem conv_two (W : World) {a b : Int} {n : Nat} (ha : a = ((n / 256 % 256 : Nat) : Int)) (hb : b = ((n % 256 : Nat) : Int)) :
    (convert 45 9 (.slice (some ⟨W.heap.size, 0, none⟩) 2 2)).run Tryd.prog (W.alloc (.cells #[.int .u8 a, .int .u8 b] 5)) = .ok (.string (strL (twoB n))) (W.alloc (.cells #[.int .u8 a, .int .u8 b] 5)) := by
  have hI := Is.fresh W 5 #[.int .u8 a, .int .u8 b]
  refine conv_atF (L := twoB n) (cap := 2) fun j hj => ?_
  rw [hI.cell]
  match j, hj with
  | 0, _ => show some (Value.int .u8 a) = some (.int .u8 ((UInt8.ofNat (n / 256)).toNat : Int)); rw [ha, UInt8.toNat_ofNat']
  | 1, _ => show some (Value.int .u8 b) = some (.int .u8 ((UInt8.ofNat n).toNat : Int)); rw [hb, UInt8.toNat_ofNat']
set_option maxHeartbeats 1000000 in
theorem etwo_any (w : World) {n : Nat} (hn : n < 65536) : Calls Tryd.prog 50 #[.int .i64 n] w fun e w' => e = .returned (.string (strL (twoB n))) ∧ But [] w w' := by
  obtain ⟨x, hx⟩ : ∃ x, x = n / 256 := ⟨_, rfl⟩
  obtain ⟨y, hy⟩ : ∃ x, x = n % 256 := ⟨_, rfl⟩
  have hx2 : x < 256 := by omega
  have hy2 : y < 256 := by omega
  have f1 : (n : Int).tdiv 256 = (x : Int) := by rw [Int.tdiv_eq_ediv_of_nonneg (by omega)]; omega
  have f2 : (n : Int) / 256 = (x : Int) := by omega
  have f3 : IntKind.u8.wrap (n : Int) = (y : Int) := by rw [IntKind.wrap_u8]; omega
  have f4 : IntKind.u8.wrap (x : Int) = (x : Int) := wrapY_in hx2
  have kc := fun W : World => conv_two W (a := (x : Int)) (b := (y : Int)) (n := n) (by omega) (by omega)
  have HB := Lib.hid ((But.refl [] w).alloc (.cells #[.int .u8 (x : Nat), .int .u8 (y : Nat)] 5))
  clear hx hy
  go_enter Tryd.func50, Tryd.ntmps50
  go_wp2
  go_ret
  exact ⟨rfl, HB.out⟩
set_option maxHeartbeats 2000000 in
theorem esame_any (w : World) {a b c e : Int} {D : Nat} {pal tr : ByteArray} {has : Bool} {A : Option Addr} {n cp : Nat} {l : List Int} (hD1 : 1 ≤ D) (hD16 : D ≤ 16) (hZ : Zs w A n l) (hn : n ≤ 1000) (ht : tr.size ≤ 140737488351232) :
    Calls Tryd.prog 52 #[.agg #[.int .i64 a, .int .i64 b, .int .i64 D, .int .i64 c, .int .i64 e, .string pal, .string tr, .bool has], .slice A n cp] w fun r w' => r = .returned (.bool (sameS D tr has l)) ∧ But [] w w' := by
  have hln := hZ.1
  have hA := (But.refl [] w).alloc (.cells #[.int .i64 a, .int .i64 b, .int .i64 D, .int .i64 c, .int .i64 e, .string pal, .string tr, .bool has] 31)
  have HS0 : Hid (SmS w w.heap.size #[.int .i64 a, .int .i64 b, .int .i64 D, .int .i64 c, .int .i64 e, .string pal, .string tr, .bool has] A n l (w.alloc (.cells #[.int .i64 a, .int .i64 b, .int .i64 D, .int .i64 c, .int .i64 e, .string pal, .string tr, .bool has] 31))) := Lib.hid ⟨Is.fresh _ _ _, hZ.but hA, hA⟩
  have c2 := HS0.out.1.cell 2
  have c6 := HS0.out.1.cell 6
  have c7 := HS0.out.1.cell 7
  clear hA hZ
  cases has with
  | false =>
    have HR := Lib.hid (sameS_no (D := D) (tr := tr) (l := l) (.inl (rfl : false = false)))
    rw [HR.out]
    clear hln
    go_enter Tryd.func52, Tryd.ntmps52
    go_wp2
    go_ret
    exact ⟨rfl, HS0.out.2.2⟩
  | true =>
    by_cases hsz : tr.size = 2 * n
    · have HLN := Lib.hid hln
      have HSZ := Lib.hid hsz
      have b1 : ((tr.size : Int) == 2 * (n : Int)) = true := by simp; omega
      have b2 : (tr.size : Int) = 2 * (n : Int) := by omega
      have HR : Hid ((∀ i, i < n → sameAt D tr l i = true) → sameS D tr true l = true) := Lib.hid fun h => by
        unfold sameS
        rw [decide_eq_true (by rw [HLN.out]; exact hsz), Bool.true_and, Bool.true_and, List.all_eq_true]
        intro i hi
        exact h i (by rw [← HLN.out]; exact List.mem_range.1 hi)
      have HRF : Hid (∀ i, i < n → sameAt D tr l i = false → sameS D tr true l = false) := Lib.hid fun i hi h => by
        unfold sameS
        rw [Bool.and_eq_false_iff]
        right
        rw [List.all_eq_false]
        exact ⟨i, List.mem_range.2 (by rw [HLN.out]; exact hi), by rw [h]; decide⟩
      obtain ⟨R, hR⟩ : ∃ R, R = sameS D tr true l := ⟨_, rfl⟩
      rw [← hR] at HR HRF ⊢
      obtain ⟨M, hM⟩ : ∃ M, M = 2 ^ D := ⟨_, rfl⟩
      have hM1 : 1 ≤ M := by rw [hM]; exact Nat.pow_pos (by decide)
      have hM2 : M ≤ 65536 := by rw [hM]; exact Nat.pow_le_pow_right (by decide) hD16
      have p1 : (2 : Int) ^ D = (M : Int) := by rw [hM]; simp
      have HM := Lib.hid hM
      clear hln hsz hR hM
      go_enter Tryd.func52, Tryd.ntmps52
      go_wp2_with fail
      go_loopw [5] (fun iv wr => ∃ i : Nat, i ≤ n ∧ iv = .int .i64 i ∧ Hid (∀ j, j < i → sameAt D tr l j = true) ∧ Hid (SmS w w.heap.size #[.int .i64 a, .int .i64 b, .int .i64 D, .int .i64 c, .int .i64 e, .string pal, .string tr, .bool true] A n l wr)) (fun iv _ => n - (intOf iv).toNat)
      case atStart => exact ⟨0, Nat.zero_le _, rfl, Lib.hid (fun j h => absurd h (by omega)), HS0⟩
      case round =>
        clear HS0 c2 c6 c7
        obtain ⟨i, hi, rfl, HJ, HS⟩ := hrel
        by_cases hlt : i < n
        · have HS1 := Lib.hid (HS.out.but ((But.refl [] wr).drew))
          have HS2 := Lib.hid (HS1.out.but ((But.refl [] wr.drew).drew))
          obtain ⟨g, o, x, rfl, hg, hx, k0⟩ := HS2.out.2.1.at hlt
          have c6 := HS1.out.1.cell 6
          have c2 := HS2.out.1.cell 2
          obtain ⟨i2, hi2⟩ : ∃ z, z = 2 * i := ⟨_, rfl⟩
          have e1 : (2 : Int) * (i : Int) = (i2 : Int) := by omega
          have e1b : (i2 : Int) + 1 = ((i2 + 1 : Nat) : Int) := by omega
          have hl1 : i2 < tr.size := by have := HSZ.out; omega
          have hl2 : i2 + 1 < tr.size := by have := HSZ.out; omega
          obtain ⟨x1, hx1⟩ : ∃ z, z = tr[i2].toNat := ⟨_, rfl⟩
          obtain ⟨x2, hx2⟩ : ∃ z, z = tr[i2 + 1].toNat := ⟨_, rfl⟩
          have x1b : x1 < 256 := by rw [hx1]; exact tr[i2].toNat_lt
          have x2b : x2 < 256 := by rw [hx2]; exact tr[i2 + 1].toNat_lt
          obtain ⟨i3, hi3⟩ : ∃ z, z = i2 + 1 := ⟨_, rfl⟩
          have kx1 : ∀ w, (Instr.index 9 (.string tr) (.int .i64 (i2 : Int))).run Tryd.prog w = .ok (.int .u8 (x1 : Int)) w := fun w => by rw [hx1]; exact byteR_run hl1 w
          have kx2 : ∀ w, (Instr.index 9 (.string tr) (.int .i64 (i3 : Int))).run Tryd.prog w = .ok (.int .u8 (x2 : Int)) w := fun w => by rw [hx2, hi3]; exact byteR_run hl2 w
          rw [← hi3] at e1b
          obtain ⟨m, hm⟩ : ∃ z, z = 256 * x1 + x2 := ⟨_, rfl⟩
          obtain ⟨m1, hm1⟩ : ∃ z, z = 256 * x1 := ⟨_, rfl⟩
          have e2 : (256 : Int) * (x1 : Int) = (m1 : Int) := by omega
          have e3 : (m1 : Int) + (x2 : Int) = (m : Int) := by omega
          obtain ⟨r, hr⟩ : ∃ z, z = m % M := ⟨_, rfl⟩
          have e4 : (m : Int).tmod (M : Int) = (r : Int) := by rw [hr, Int.tmod_eq_emod_of_nonneg (by omega)]; simp
          have e5 : (m : Int) % (M : Int) = (r : Int) := by rw [hr]; simp
          have hrM : r < M := by rw [hr]; exact Nat.mod_lt _ hM1
          have hsa : sameAt D tr l i = decide ((r : Int) = x) := by
            unfold sameAt
            rw [← hi2, getD_byte tr hl1, getD_byte tr hl2, ← hx1, ← hx2, ← hm, ← HM.out, ← hr, List.getD_eq_getElem?_getD, hx]
            rfl
          have HSA := Lib.hid hsa
          have t1 := wrapI_in (show i2 < 1000000000000000 by omega)
          have t2 := wrapI_in (show i3 < 1000000000000000 by omega)
          have t3 := wrapI_in (show x1 < 1000000000000000 by omega)
          have t4 := wrapI_in (show x2 < 1000000000000000 by omega)
          have t5 := wrapI_in (show m1 < 1000000000000000 by omega)
          have t6 := wrapI_in (show m < 1000000000000000 by omega)
          have t7 := wrapI_in (show M < 1000000000000000 by omega)
          have t8 := wrapI_in (show r < 1000000000000000 by omega)
          have i0 : (0 : Int) ≤ (i : Int) := by omega
          have i1 : (i : Int) < (n : Int) := by omega
          have nM : ((M : Int) == 0) = false := by simp; omega
          clear hx hi2 hx1 hx2 hi3 hm hm1 hr hsa
          by_cases heq : (r : Int) = x
          · subst heq
            have HJ2 : Hid (∀ j, j < i + 1 → sameAt D tr l j = true) := Lib.hid fun j hj => by
              by_cases e : j = i
              · rw [e, HSA.out]; exact decide_eq_true rfl
              · exact HJ.out j (by omega)
            go_upto_region 6 with (fail)
            go_region_with fail
            all_goals go_upto_region 7 with (fail)
            all_goals go_region_with fail
            all_goals go_wp2
            all_goals exact ⟨⟨i + 1, by omega, by go_num, HJ2, HS2⟩, by simp [intOf] <;> omega⟩
          · have HE := Lib.hid (HRF.out i hlt (by rw [HSA.out]; exact decide_eq_false heq))
            have hne : ((r : Int) == x) = false := by simpa using heq
            go_upto_region 6 with (fail)
            go_region_with fail
            all_goals go_upto_region 7 with (fail)
            all_goals go_region_with fail
            all_goals go_wp2
            all_goals go_ret
            all_goals exact ⟨by rw [HE.out]; rfl, HS2.out.2.2⟩
        · obtain rfl : i = n := by omega
          have HE := Lib.hid (HR.out HJ.out)
          go_wp2
          go_ret
          exact ⟨by rw [HE.out]; rfl, HS.out.2.2⟩
    · have HR := Lib.hid (sameS_no (D := D) (tr := tr) (has := true) (l := l) (.inr (by rw [hln]; exact hsz)))
      rw [HR.out]
      have b1 : ((tr.size : Int) == 2 * (n : Int)) = false := by simp; omega
      have b2 : ¬ (tr.size : Int) = 2 * (n : Int) := by omega
      clear hln
      go_enter Tryd.func52, Tryd.ntmps52
      go_wp2
      go_ret
      exact ⟨rfl, HS0.out.2.2⟩
end Go.Proofs.YtfiedoejdikcgaaDoor
set_option maxRecDepth 100000
set_option linter.unusedVariables false
namespace Go.Proofs.YtfiedoejdikcgaaDoor
set_option maxRecDepth 100000
open Go Go.RowKit
theorem stCells_append (L M : List ByteArray) : stCells (L ++ M) = stCells L ++ stCells M := by simp [stCells]
theorem info_strS : (Tryd.prog.info? 9).map (fun i => (i.zero, i.size, i.bytes)) = some (some (.string ByteArray.empty), 1, 16) := by kernel_rfl
theorem news_s {w : World} {g : Nat} {x : Value} (h : Is w g 9 #[x]) : ∀ (j : Nat) u, [x][j]? = some u → w.cell? ((⟨g, 0, none⟩ : Addr).add j) = some u := by
  intro j u hj
  match j, hj with
  | 0, hj =>
    have e : x = u := by simpa using hj
    have := h.cell 0
    rw [← e]
    exact this
  | j + 1, hj => simp at hj
/-- One string appended, at a step of a drawn region. -/
theorem step_append_s {w0 : World} (w : World) {ops : Array Oper} {o : Oper} {a : Act} {K : Act → World → Prop} {Q : Exit → Act → World → Prop} {E : Prop} (hgd : o.guard = none) (sl x : Operand)
    (ho : o.op = .call { callee := .builtin .append, args := #[sl, x], argTypes := #[84, 84] })
    (v : Value) (L : List ByteArray) (hs : a.eval sl = v) (hO : OwnSt w w0.heap.size v L) (hB : But [] w0 w) (y : ByteArray) {g : Nat}
    (hx : a.eval x = .slice (some ⟨g, 0, none⟩) 1 1) (hI : Is w g 9 #[.string y]) (hbound : L.length < 1000000)
    (h : ∀ A c w', Hid (OwnSt w' w0.heap.size (.slice A (L.length + 1) c) (L ++ [y])) → Hid (But [] w0 w') → K (a.put o.dst (.slice A (L.length + 1) c)) w') : if Region.wanted o (yielded ops a.tmps) = true then Oper.wp Tryd.prog o a w K Q else E := by
  obtain ⟨i0, hi0, hz0, hz1, hz2⟩ := info_parts info_strS
  refine step_append_lies w hgd sl x 84 ho w0.heap.size 9 i0 (.string ByteArray.empty) 1 16 Tryd.underlying84 hi0 hz0 hz1 hz2 rfl (by omega) v L.length (stCells L) hs hO ⟨g, 0, none⟩ 1 1 [.string y] hx rfl (news_s hI) (by simp [Value.oneCell']) (by omega) (by unfold maxLen; omega) (by omega) hB.size w.heap.size rfl ?_
  intro g' cap w' hown hgrow _ _
  have hO2 : OwnSt w' w0.heap.size (.slice (some ⟨g', 0, none⟩) (L.length + 1) cap) (L ++ [y]) := by
    unfold OwnSt
    rw [List.length_append, stCells_append]
    exact hown
  exact h (some ⟨g', 0, none⟩) cap w' (Lib.hid hO2) (Lib.hid (hB.grown hgrow (fun k e => .inr (hO.lt k e))))
end Go.Proofs.YtfiedoejdikcgaaDoor
set_option maxRecDepth 100000
set_option linter.unusedVariables false
namespace Go.Proofs.YtfiedoejdikcgaaDoor
set_option maxRecDepth 100000
open Go Go.RowKit
theorem take_nextZ {l : List Int} {i : Nat} {x : Int} (h : l[i]? = some x) : l.take (i + 1) = l.take i ++ [x] := by
  rw [List.take_succ_eq_append_getElem (List.getElem?_eq_some_iff.1 h).1]
  congr 1
  rw [(List.getElem?_eq_some_iff.1 h).2]
end Go.Proofs.YtfiedoejdikcgaaDoor
set_option maxRecDepth 100000
set_option linter.unusedVariables false
namespace Go.Proofs.YtfiedoejdikcgaaDoor
set_option maxRecDepth 100000
open Go Go.RowKit
theorem px4_is (a b c d : Nat) : strL (twoB a) ++ strL (twoB b) ++ strL (twoB c) ++ strL (twoB d) = px4 a b c d := by
  unfold px4
  rw [strL_append, strL_append, strL_append]
end Go.Proofs.YtfiedoejdikcgaaDoor
set_option maxRecDepth 100000
set_option linter.unusedVariables false
namespace Go.Proofs.YtfiedoejdikcgaaDoor
set_option maxRecDepth 100000
open Go Go.RowKit
set_option maxHeartbeats 1000000 in
theorem erow_any (w : World) (a b d c l n : Int) :
    Calls Tryd.prog 26 #[.agg #[.int .i64 a, .int .i64 b, .int .i64 d, .int .i64 c, .int .i64 l], .int .i64 n] w fun e w' => e = .returned (.int .i64 (rowA a b d c l n : Nat)) ∧ But [] w w' := by
  have hE := fun v => eright_h v a b d c l
  obtain ⟨er, her⟩ : ∃ x, x = rightH a b d c l := ⟨_, rfl⟩
  have HER := Lib.hid her
  simp only [← her] at hE
  have HE := Lib.hid hE
  have hI := Is.fresh w 29 #[.int .i64 a, .int .i64 b, .int .i64 d, .int .i64 c, .int .i64 l]
  have HA := Lib.hid ((But.refl [] w).alloc (.cells #[.int .i64 a, .int .i64 b, .int .i64 d, .int .i64 c, .int .i64 l] 29))
  have c0 := hI.cell 0
  have c1 := hI.cell 1
  have c2 := hI.cell 2
  have c3 := hI.cell 3
  have c4 := hI.cell 4
  have HI := Lib.hid hI
  clear hE hI
  by_cases h0 : er = 0
  · subst h0
    by_cases h1 : n < 1
    · have HR := Lib.hid (rowA_bad (a := a) (b := b) (d := d) (c := c) (l := l) (n := n) (.inr (.inl h1)))
      rw [HR.out]
      clear her
      go_enter Tryd.func26, Tryd.ntmps26
      go_wp2_with fail
      refine (HE.out _).mono ?_
      rintro e w1 ⟨rfl, hB⟩
      have HB := Lib.hid (HA.out.trans hB)
      clear hB
      go_wp2
      go_ret
      exact ⟨rfl, HB.out⟩
    · by_cases h2 : 1024 < n
      · have HR := Lib.hid (rowA_bad (a := a) (b := b) (d := d) (c := c) (l := l) (n := n) (.inr (.inr h2)))
        rw [HR.out]
        clear her
        go_enter Tryd.func26, Tryd.ntmps26
        go_wp2_with fail
        refine (HE.out _).mono ?_
        rintro e w1 ⟨rfl, hB⟩
        have HB := Lib.hid (HA.out.trans hB)
        clear hB
        go_wp2
        go_ret
        exact ⟨rfl, HB.out⟩
      · obtain ⟨D, S, hd, hs, hD, hS, hm, _⟩ := depth_nat (rightH_ok her.symm).2.2.2.2
        obtain ⟨P, rfl⟩ : ∃ P : Nat, n = (P : Int) := ⟨n.toNat, by omega⟩
        have hr := rowA_ok her.symm hd hs (n := P) (by omega) (by omega)
        obtain ⟨q, hq⟩ : ∃ q, q = D * S := ⟨_, rfl⟩
        rw [← hq] at hr hm
        obtain ⟨r, hr2⟩ : ∃ r, r = q * P := ⟨_, rfl⟩
        rw [← hr2] at hr
        have hr3 : r ≤ 65536 := by rw [hr2]; show _ ≤ 64 * 1024; exact Nat.mul_le_mul hm (by omega)
        have e1 : (D : Int) * (S : Int) = (q : Int) := by rw [hq, Int.natCast_mul]
        have e2 : (q : Int) * (P : Int) = (r : Int) := by rw [hr2, Int.natCast_mul]
        subst hd
        have HSM : Hid (∀ v, Calls Tryd.prog 16 #[.int .i64 c] v fun e w' => e = .returned (.int .i64 (S : Int)) ∧ v = w') := Lib.hid fun v => by rw [← hs]; exact esamples_any v c
        have HR := Lib.hid hr
        rw [HR.out]
        obtain ⟨x, hx⟩ : ∃ x, x = (r + 7) / 8 := ⟨_, rfl⟩
        have f1 : ((r : Int) + 7).tdiv 8 = (x : Int) := by rw [Int.tdiv_eq_ediv_of_nonneg (by omega)]; omega
        have f2 : ((r : Int) + 7) / 8 = (x : Int) := by omega
        have v1 : IntKind.i64.wrap (q : Int) = (q : Int) := by rw [IntKind.wrap_i64]; omega
        have v2 : IntKind.i64.wrap (r : Int) = (r : Int) := by rw [IntKind.wrap_i64]; omega
        have v3 : IntKind.i64.wrap ((r : Int) + 7) = (r : Int) + 7 := by rw [IntKind.wrap_i64]; omega
        have v4 : IntKind.i64.wrap (x : Int) = (x : Int) := by rw [IntKind.wrap_i64]; omega
        rw [← hx]
        clear hx
        obtain ⟨D1, D2⟩ := hD
        obtain ⟨S1, S2⟩ := hS
        clear her hr hs hq hr2
        go_enter Tryd.func26, Tryd.ntmps26
        go_wp2_with fail
        refine (HE.out _).mono ?_
        rintro e w1 ⟨rfl, hB⟩
        have HB := Lib.hid (HA.out.trans hB)
        have hI1 := HI.out.but hB (by simp)
        have c2 := hI1.cell 2
        have c3 := hI1.cell 3
        have k2 := (hI1.drew).cell 2
        have k3 := (hI1.drew).cell 3
        have hlt := hI1.lt
        clear hB hI1
        go_upto_region 3 with (fail)
        go_region_with (refine (HSM.out _).mono ?_; rintro e w6 ⟨rfl, rfl⟩)
        all_goals go_wp2
        all_goals go_ret
        all_goals refine ⟨?_, HB.out.drew⟩
        all_goals go_simp
  · have h1 : er = 5 ∨ er = 24 := by rcases rightH_cases a b d c l with h | h | h <;> simp_all
    have HR := Lib.hid (rowA_bad (a := a) (b := b) (d := d) (c := c) (l := l) (n := n) (.inl (by rw [← her]; exact h0)))
    rw [HR.out]
    clear her h0 HER
    rcases h1 with rfl | rfl
    · go_enter Tryd.func26, Tryd.ntmps26
      go_wp2_with fail
      refine (HE.out _).mono ?_
      rintro e w1 ⟨rfl, hB⟩
      have HB := Lib.hid (HA.out.trans hB)
      clear hB
      go_wp2
      go_ret
      exact ⟨rfl, HB.out⟩
    · go_enter Tryd.func26, Tryd.ntmps26
      go_wp2_with fail
      refine (HE.out _).mono ?_
      rintro e w1 ⟨rfl, hB⟩
      have HB := Lib.hid (HA.out.trans hB)
      clear hB
      go_wp2
      go_ret
      exact ⟨rfl, HB.out⟩
end Go.Proofs.YtfiedoejdikcgaaDoor
