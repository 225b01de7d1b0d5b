/- Several texts in one: ShN, Words, Mem, SbB, RwF, SbK, BaA, HaA, HaB, HaJ, HaG, HaK, HaL, HaN (what BandsCuts, BandsJoins, BandsManifest reach of them). -/
import Derived.Test.YtmdiilnipoblbaaDoorK01
import Derived.Test.YtmdiilnipoblbaaDoorK02
import Derived.Test.YtmdiilnipoblbaaDoorK03
import Derived.Test.YtmdiilnipoblbaaDoorK04
import Derived.ArgAppend
import Derived.Below
import Derived.BigQuiet
import Derived.BigRegion
import Derived.Deep.AppendLies
import Derived.Deep.Cut
import Derived.Deep.CutBlock
import Derived.Deep.CutRange
import Derived.Deep.DeepCutAuto
import Derived.Deep.Draws
import Derived.Deep.LoopGhost
import Derived.Deep.QuietTactic
import Derived.Deep.RegionLaw
import Derived.Deep.RegionWith
import Derived.Deep.Slices
import Derived.Handy
import Derived.Laws.BitsAllLaws
import Derived.Laws.BitsLemmas
import Derived.Laws.BytesArg
import Derived.Laws.Cells
import Derived.Laws.Externs
import Derived.Laws.IdiomStrings
import Derived.Laws.MakeOwn
import Derived.Laws.OwnMore
import Derived.Laws.Rows
import Derived.Laws.StructEq
import Derived.Laws.Tables
import Derived.Lib.AppendStr
import Derived.Lib.BufferWrite
import Derived.Lib.Hide
import Derived.Lib.UnsafeStr
import Derived.Maps.AppendAt
import Derived.OpenShut
import Derived.OrdersHeld
import Derived.OrdersIn
import Derived.Outline
import Derived.OwnWalk
import Derived.OwnWalkIn
import Derived.ProofKit
import Derived.RangeFuncCalls
import Derived.RegionTactic
import Derived.Shelf.LaysM
import Derived.Shelf.Small.Wraps
import Derived.Shelf.Strconv.Clone
import Derived.Shelf.Strings.Builder1
import Derived.Shelf.Strings.BuilderF
import Derived.Shelf.Strings.Prefix
import Derived.Shelf.Strings.Repeat
import Derived.TacticsInMore
import Derived.Test.YtmdiilnipoblbaaDoorChecked
import Derived.WalkKit
set_option maxRecDepth 100000
set_option linter.unusedVariables false
set_option linter.unusedVariables false
namespace Go.Proofs.YtmdiilnipoblbaaDoor
set_option maxRecDepth 100000
open Go
theorem fillT_length (l : List UInt8) : (fillT l).length % 64 = 0 ∧ (fillT l).length = l.length + padN l.length + 9 := by
  unfold fillT eightL
  simp only [List.length_append, List.length_cons, List.length_replicate, fourL_length]
  unfold padN
  omega
end Go.Proofs.YtmdiilnipoblbaaDoor
namespace Go.Proofs.YtmdiilnipoblbaaDoor
set_option maxRecDepth 100000
open Go
theorem wraps_i64 (n : Int) (h₀ : 0 ≤ n) (h₁ : n < 2 ^ 63) : IntKind.i64.wrap n = n := by rw [IntKind.wrap_i64]; omega
theorem ofInt_i64 (a : Nat) (ha : a < 9223372036854775808) : (BitVec.ofInt 64 (a : Int)).toNat = a := by
  rw [BitVec.ofInt_natCast, BitVec.toNat_ofNat]; exact Nat.mod_eq_of_lt (by omega)
theorem i64_xor (a b : Nat) (ha : a < 9223372036854775808) (hb : b < 9223372036854775808) : bits .xor .i64 (a : Int) (b : Int) = ((a ^^^ b : Nat) : Int) := by
  have hx : a ^^^ b < 2 ^ 63 := Nat.xor_lt_two_pow (by omega) (by omega)
  show IntKind.i64.wrap ((BitVec.ofInt 64 (a : Int) ^^^ BitVec.ofInt 64 (b : Int)).toNat : Int) = _
  rw [BitVec.toNat_xor, ofInt_i64 a ha, ofInt_i64 b hb]
  exact wraps_i64 _ (by omega) (by omega)
theorem i64_or (a b : Nat) (ha : a < 9223372036854775808) (hb : b < 9223372036854775808) : bits .or .i64 (a : Int) (b : Int) = ((a ||| b : Nat) : Int) := by
  have hx : a ||| b < 2 ^ 63 := Nat.or_lt_two_pow (by omega) (by omega)
  show IntKind.i64.wrap ((BitVec.ofInt 64 (a : Int) ||| BitVec.ofInt 64 (b : Int)).toNat : Int) = _
  rw [BitVec.toNat_or, ofInt_i64 a ha, ofInt_i64 b hb]
  exact wraps_i64 _ (by omega) (by omega)
end Go.Proofs.YtmdiilnipoblbaaDoor
namespace Go.Proofs.YtmdiilnipoblbaaDoor
set_option maxRecDepth 100000
open Go Go.RowKit
section
variable {w w' w'' : World} {b : Nat} {t : TypeId} {cs : Array Value} {S T : List Nat}
theorem But.more (h : But S w w') (hS : ∀ k ∈ S, k ∈ T) : But T w w' := ⟨h.os, h.tape, h.output, h.size, fun k hk hT => h.block k hk (fun e => hT (hS k e))⟩
variable {A : Option Addr} {n : Nat} {l : List UInt8}
/-- A cut from k on. -/
theorem ByteRow.cut (h : ByteRow w A n l) {k c : Nat} (hk : k ≤ n) (hc : n ≤ c) : ByteRow w (if c = k then A else A.map (·.add k)) (n - k) (l.drop k) := by
  refine ⟨by rw [List.length_drop, h.1], fun hn => ?_⟩
  obtain ⟨g, o, rfl, hcell⟩ := h.2 (by omega)
  rw [if_neg (by omega)]
  refine ⟨g, o + k, by simp [Addr.add], fun i hi => ?_⟩
  have hl := h.1
  rw [List.length_drop] at hi
  have := hcell (k + i) (by omega)
  rw [List.getElem_drop, Nat.add_assoc]
  exact this
theorem Off.cut {k c : Nat} (h : Off A b) : Off (if c = k then A else A.map (·.add k)) b := by
  split
  · exact h
  · intro a ha
    rcases A with _ | a0
    · simp at ha
    · simp only [Option.map_some, Option.some.injEq] at ha
      subst ha
      have := h a0 rfl
      unfold Addr.add
      split <;> exact this
end
end Go.Proofs.YtmdiilnipoblbaaDoor
set_option maxRecDepth 100000
set_option linter.unusedVariables false
namespace Go.Proofs.YtmdiilnipoblbaaDoor
set_option maxRecDepth 100000
open Go Go.RowKit
theorem nCells_append (L M : List Nat) : nCells (L ++ M) = nCells L ++ nCells M := by simp [nCells]
theorem nCells_length (L : List Nat) : (nCells L).length = L.length := by simp [nCells]
theorem info_intN : (Tryd.prog.info? 3).map (fun i => (i.zero, i.size, i.bytes)) = some (some (.int .i64 0), 1, 8) := by kernel_rfl
end Go.Proofs.YtmdiilnipoblbaaDoor
set_option maxRecDepth 100000
set_option linter.unusedVariables false
namespace Go.Proofs.YtmdiilnipoblbaaDoor
set_option maxRecDepth 100000
open Go Go.RowKit
theorem cellsF_append (a b : List UInt8) : cellsF (a ++ b) = cellsF a ++ cellsF b := by simp [cellsF]
theorem news_is {w : World} {g : Nat} {x : Value} (h : Is w g 5 #[x]) : ∀ (j : Nat) u, [x][j]? = some u → w.cell? ((⟨g, 0, none⟩ : Addr).add j) = some u := by
  intro j u hj
  match j, hj with
  | 0, hj =>
    have e : x = u := by simpa using hj
    have := h.cell 0
    rw [← e]
    exact this
  | j + 1, hj => simp at hj
section
variable {w w' : World} {g : Nat} {l : List UInt8}
end
end Go.Proofs.YtmdiilnipoblbaaDoor
set_option maxRecDepth 100000
set_option linter.unusedVariables false
namespace Go.Proofs.YtmdiilnipoblbaaDoor
set_option maxRecDepth 100000
open Go Go.RowKit
theorem rowZ_put {L : List Nat} {n : Nat} (x : Nat) (h : L.length < n) : (rowZ L n).setIfInBounds L.length (.int .i64 (x : Nat)) = rowZ (L ++ [x]) n := by
  obtain ⟨k, hk⟩ : ∃ k, n - L.length = k + 1 := ⟨n - L.length - 1, by omega⟩
  unfold rowZ
  rw [hk, List.replicate_succ, List.length_append, show n - (L.length + [x].length) = k by simp; omega, nCells_append, nCells_append, nCells_append]
  apply Array.ext'
  simp [nCells]
theorem rowZ_size {L : List Nat} {n : Nat} (h : L.length ≤ n) : (rowZ L n).size = n := by
  unfold rowZ nCells
  simp
  omega
theorem rowZ_some {L : List Nat} {n i : Nat} (h : L.length ≤ n) (hi : i < n) : ∃ v, (rowZ L n)[i]? = some v := ⟨_, Array.getElem?_eq_getElem (by rw [rowZ_size h]; exact hi)⟩
/-- Numbers 0, laid anew. -/
def zeroZ (w : World) (n : Nat) : World := w.alloc (.cells (rowZ [] n) 3)
theorem run_zeroZ (w : World) {n : Nat} (hn : n ≤ 4096) : (Instr.makeSlice 70 (.int .i64 (n : Int)) (.int .i64 (n : Int))).run Tryd.prog w = .ok (.slice (some ⟨w.heap.size, 0, none⟩) n n) (zeroZ w n) := by
  obtain ⟨i0, hi0, hz0, hz1, hz2⟩ := info_parts info_intN
  have h := run_make (P := Tryd.prog) w 70 3 i0 (.int .i64 0) Tryd.underlying70 hi0 hz0 .i64 .i64 (n : Int) (n : Int) (by omega) (by omega) (by rw [hz2]; omega) (by omega)
  rw [hz1] at h
  have e : madeCells (Value.int .i64 0).cells n = rowZ [] n := by
    have e : (Value.int .i64 0).cells = #[.int .i64 0] := rfl
    unfold madeCells rowZ nCells
    rw [e]
    apply Array.ext'
    simp [Nat.mod_one]
    exact List.eq_replicate_iff.2 ⟨by simp, by simp⟩
  unfold zeroZ
  rw [← e]
  simpa using h
end Go.Proofs.YtmdiilnipoblbaaDoor
set_option maxRecDepth 100000
set_option linter.unusedVariables false
namespace Go.Proofs.YtmdiilnipoblbaaDoor
set_option maxRecDepth 100000
open Go Go.RowKit
set_option maxHeartbeats 1000000 in
theorem esizeB_any (w : World) {W h i : Nat} (hW : W ≤ 1024) (hh : h ≤ 1024) (hi : i < manyB h) : Calls Tryd.prog 27 #[.int .i64 W, .int .i64 h, .int .i64 i] w fun e w' => e = .returned (.int .i64 (sizeB W h i : Nat)) ∧ w' = w := by
  have hl := many_lt hi
  obtain ⟨a, ha⟩ : ∃ a, a = 8 * W := ⟨_, rfl⟩
  obtain ⟨j, hj⟩ : ∃ a, a = i * 8 := ⟨_, rfl⟩
  obtain ⟨d, hd⟩ : ∃ a, a = h - j := ⟨_, rfl⟩
  obtain ⟨m, hm⟩ : ∃ a, a = min 8 d := ⟨_, rfl⟩
  obtain ⟨p, hp⟩ : ∃ z, z = a * m := ⟨_, rfl⟩
  have hsz : sizeB W h i = p := by unfold sizeB; rw [hp, hm, hd, hj, ha]
  have hm8 : m ≤ 8 := by rw [hm]; exact Nat.min_le_left _ _
  have hp2 : p ≤ 8192 * 8 := by rw [hp]; exact Nat.mul_le_mul (by omega) hm8
  have e1 : (8 : Int) * (W : Int) = (a : Int) := by omega
  have e2 : (i : Int) * 8 = (j : Int) := by omega
  have e3 : (h : Int) - (j : Int) = (d : Int) := by omega
  have e4 : (if (d : Int) < 8 then (d : Int) else 8) = (m : Int) := by
    rw [hm]
    split <;> omega
  have e4b : (Builtin.min_ #[3, 3] 3 #[.int .i64 8, .int .i64 (d : Int)]).run Tryd.prog w = .ok (.int .i64 (m : Int)) w := by
    rw [← e4]
    simp [Builtin.min_, Builtin.min2]
  have e5 : (a : Int) * (m : Int) = (p : Int) := by rw [hp, Int.natCast_mul]
  have v1 := wrapI_in (show a < 1000000000000000 by omega)
  have v2 := wrapI_in (show j < 1000000000000000 by omega)
  have v3 := wrapI_in (show d < 1000000000000000 by omega)
  have v5 := wrapI_in (show p < 1000000000000000 by omega)
  rw [hsz]
  clear ha hj hd hm hp hsz hl hi e4
  go_enter Tryd.func27, Tryd.ntmps27
  go_wp2
  go_ret
  exact ⟨rfl, rfl⟩
end Go.Proofs.YtmdiilnipoblbaaDoor
set_option maxRecDepth 100000
set_option linter.unusedVariables false
namespace Go.Proofs.YtmdiilnipoblbaaDoor
set_option maxRecDepth 100000
open Go Go.RowKit
set_option maxHeartbeats 1000000 in
theorem eturned_any (w : World) {x n : Nat} (hx : x < 4294967296) (hn : n ≤ 31) (hn1 : 1 ≤ n) :
    Calls Tryd.prog 47 #[.int .i64 x, .int .i64 n] w fun e w' => e = .returned (.int .i64 (rotT x n : Nat)) ∧ ∃ q, w' = w.drewN q := by
  obtain ⟨m, hm⟩ : ∃ m, m = 32 - n := ⟨_, rfl⟩
  obtain ⟨a, ha⟩ : ∃ a, a = x / 2 ^ n := ⟨_, rfl⟩
  obtain ⟨p, hp⟩ : ∃ p, p = x * 2 ^ m := ⟨_, rfl⟩
  obtain ⟨o, ho⟩ : ∃ o, o = a ||| p := ⟨_, rfl⟩
  have hal : a < 4294967296 := by rw [ha]; exact Nat.lt_of_le_of_lt (Nat.div_le_self _ _) hx
  have hpl : p < 9223372036854775808 := by
    have h1 : 2 ^ m ≤ 2 ^ 31 := Nat.pow_le_pow_right (by decide) (by omega)
    have h2 : p ≤ x * 2 ^ 31 := by rw [hp]; exact Nat.mul_le_mul_left _ h1
    omega
  have hol : o < 9223372036854775808 := by rw [ho]; exact Nat.or_lt_two_pow (n := 63) (by omega) hpl
  have HR : Hid (rotT x n = o % 4294967296) := Lib.hid (by
    unfold rotT
    rw [Nat.shiftRight_eq_div_pow, Nat.shiftLeft_eq, ← hm, ← ha, ← hp, ← ho])
  have f1 : (x : Int) / 2 ^ n = (a : Int) := by rw [ha]; simp
  have f2 : (x : Int) * 2 ^ m = (p : Int) := by rw [hp]; simp
  have f3 : bits .or .i64 (a : Int) (p : Int) = (o : Int) := by rw [ho]; exact i64_or a p (by omega) hpl
  have f5 : (32 : Int) - (n : Int) = (m : Int) := by omega
  have f6 : IntKind.i64.wrap (m : Int) = (m : Int) := wrapI_in (by omega)
  have f7 : IntKind.i64.wrap (p : Int) = (p : Int) := wraps_i64 _ (by omega) (by omega)
  have f4 : IntKind.i64.wrap (a : Int) = (a : Int) := wraps_i64 _ (by omega) (by omega)
  have g1 : (o : Int) % 4294967296 = ((o % 4294967296 : Nat) : Int) := by omega
  have g2 : (o : Int).tmod 4294967296 = ((o % 4294967296 : Nat) : Int) := by rw [Int.tmod_eq_emod_of_nonneg (by omega)]; omega
  rw [HR.out]
  obtain ⟨r, hr⟩ : ∃ r, r = o % 4294967296 := ⟨_, rfl⟩
  have f8 : IntKind.i64.wrap (r : Int) = (r : Int) := wraps_i64 _ (by omega) (by omega)
  rw [← hr] at g1 g2 ⊢
  clear hm ha hp ho hr HR
  go_enter Tryd.func47, Tryd.ntmps47
  go_wp2
  go_quiet (fail)
  go_wp2
  go_ret
  exact ⟨rfl, nq, rfl⟩
end Go.Proofs.YtmdiilnipoblbaaDoor
set_option maxRecDepth 100000
set_option linter.unusedVariables false
namespace Go.Proofs.YtmdiilnipoblbaaDoor
set_option maxRecDepth 100000
open Go Go.RowKit
/-- Several bytes appended, at a step of a drawn region. -/
theorem step_append_h {w0 : World} (w : World) {ops : Array Oper} {o : Oper} {a : Act} {K : Act → World → Prop} {Q : Exit → Act → World → Prop} {E : Prop} (hgd : o.guard = none) (sl x : Operand)
    (ho : o.op = .call { callee := .builtin .append, args := #[sl, x], argTypes := #[48, 48] })
    (v : Value) (n : Nat) (L : List UInt8) (hs : a.eval sl = v) (hn : L.length = n) (hO : OwnF w w0.heap.size v L) (hB : But [] w0 w) (Y : List UInt8) {m g : Nat} (hm : Y.length = m)
    (hx : a.eval x = .slice (some ⟨g, 0, none⟩) m m) (hI : Is w g 5 (cellsF Y).toArray) (hpos : 0 < m) (hbound : n + m ≤ 140737488355328)
    (h : ∀ A c w', Hid (OwnF w' w0.heap.size (.slice A (n + m) c) (L ++ Y)) → Hid (But [] w0 w') → K (a.put o.dst (.slice A (n + m) c)) w') : if Region.wanted o (yielded ops a.tmps) = true then Oper.wp Tryd.prog o a w K Q else E := by
  obtain ⟨i0, hi0, hz0, hz1, hz2⟩ := info_parts info_u8F
  subst hn hm
  refine step_append_lies w hgd sl x 48 ho w0.heap.size 5 i0 (.int .u8 0) 1 1 Tryd.underlying48 hi0 hz0 hz1 hz2 rfl (by omega) v L.length (cellsF L) hs hO ⟨g, 0, none⟩ Y.length Y.length (cellsF Y) hx (by rw [cellsF_length, Nat.mul_one]) (fun j u hj => ?_) (fun u hu => ?_) hpos (by unfold maxLen; omega) (by omega) hB.size w.heap.size rfl ?_
  · have e2 : (⟨g, 0, none⟩ : Addr).add j = ⟨g, j, none⟩ := by unfold Addr.add; split <;> simp_all
    rw [e2, hI.cell, List.getElem?_toArray]
    exact hj
  · unfold cellsF at hu
    obtain ⟨y, _, rfl⟩ := List.mem_map.1 hu
    rfl
  · intro g' cap w' hown hgrow _ _
    have hO2 : OwnF w' w0.heap.size (.slice (some ⟨g', 0, none⟩) (L.length + Y.length) cap) (L ++ Y) := by
      unfold OwnF
      rw [List.length_append, cellsF_append]
      exact hown
    exact h (some ⟨g', 0, none⟩) cap w' (Lib.hid hO2) (Lib.hid (hB.grown hgrow (fun k e => .inr (hO.lt k e))))
end Go.Proofs.YtmdiilnipoblbaaDoor
set_option maxRecDepth 100000
set_option linter.unusedVariables false
namespace Go.Proofs.YtmdiilnipoblbaaDoor
set_option maxRecDepth 100000
open Go Go.RowKit
theorem Is.of {w : World} {b : Nat} {t : TypeId} {cs cs' : Array Value} (h : Is w b t cs) (e : cs = cs') : Is w b t cs' := e ▸ h
set_option maxHeartbeats 1000000 in
theorem econst_any (w : World) : Calls Tryd.prog 45 #[] w fun e w' => ∃ g, e = .returned (.slice (some ⟨g, 0, none⟩) 64 64) ∧ Is w' g 3 (rowZ kSha 64) ∧ But [] w w' := by
  go_enter Tryd.func45, Tryd.ntmps45
  go_wp2
  go_ret
  exact ⟨_, rfl, (Is.fresh _ _ _).of (by kernel_rfl), (But.refl [] _).alloc _⟩
/-- What '[]byte(s)' makes. -/
theorem OwnG.conv (w : World) (s : ByteArray) : (convert 9 48 (.string s)).run Tryd.prog w = .ok (.slice (some ⟨w.heap.size, 0, none⟩) s.size (grownCap w s.size 0 5))
      (w.drew.alloc (.cells (bytesRow s (grownCap w s.size 0 5)) 5 ((bytesRow s (grownCap w s.size 0 5)).size, (bytesRow s (grownCap w s.size 0 5)).size + 1))) ∧
    OwnG (w.drew.alloc (.cells (bytesRow s (grownCap w s.size 0 5)) 5 ((bytesRow s (grownCap w s.size 0 5)).size, (bytesRow s (grownCap w s.size 0 5)).size + 1))) w.heap.size (.slice (some ⟨w.heap.size, 0, none⟩) s.size (grownCap w s.size 0 5)) s.data.toList := by
  refine ⟨run_bytes_of_string w 9 48 5 s Tryd.underlying9 Tryd.underlying48 Tryd.underlying5, ?_⟩
  have hge := grownCap_ge w s.size 0 5
  have hsl : s.data.toList.length = s.size := Array.length_toList
  have hsz : (bytesRow s (grownCap w s.size 0 5)).size = grownCap w s.size 0 5 := by
    unfold bytesRow
    rw [Array.size_append, Array.size_map, Array.size_replicate]
    show s.size + _ = _
    omega
  refine ⟨w.heap.size, grownCap w s.size 0 5, _, _, by rw [hsl], Nat.le_refl _, heap_alloc_new w.drew _, by rw [hsl]; exact hge, hsz, fun i hi => ?_, fun j hj => ?_⟩
  · rw [hsz]
    simp
    omega
  · rw [hsl] at hj
    unfold bytesRow
    rw [Array.getElem?_append_left (by rw [Array.size_map]; exact hj), Array.getElem?_map, getD_byte s hj]
    have : s.data[j]? = some s[j] := Array.getElem?_eq_getElem hj
    rw [this]
    rfl
/-- One byte appended. -/
theorem wpList_append_g {w0 : World} (w : World) {ops : Array Oper} {rest : List Oper} {o : Oper} {a : Act} {Q : Exit → Act → World → Prop} (hgd : o.guard = none) (sl x : Operand)
    (ho : o.op = .call { callee := .builtin .append, args := #[sl, x], argTypes := #[48, 48] })
    (v : Value) (L : List UInt8) (hs : a.eval sl = v) (hO : OwnG w w0.heap.size v L) (hB : But [] w0 w) (y : UInt8) {g : Nat}
    (hx : a.eval x = .slice (some ⟨g, 0, none⟩) 1 1) (hI : Is w g 5 #[.int .u8 (y.toNat : Nat)]) (hbound : L.length + 1 ≤ 140737488355328)
    (h : ∀ g2 c w', Hid (OwnG w' w0.heap.size (.slice (some ⟨g2, 0, none⟩) (L.length + 1) c) (L ++ [y])) → Hid (But [] w0 w') → wpList Tryd.prog ops Q rest (a.put o.dst (.slice (some ⟨g2, 0, none⟩) (L.length + 1) c)) w') : wpList Tryd.prog ops Q (o :: rest) a w := by
  obtain ⟨i0, hi0, hz0, hz1, hz2⟩ := info_parts info_u8F
  obtain ⟨gv, cap, cur, fr, rfl, hb, hgv, hlc, hcs, hfr, hcur⟩ := hO
  have hcell : ∀ j, j < L.length → w.cell? ⟨gv, j, none⟩ = some (.int .u8 ((L.getD j 0).toNat : Nat)) := fun j hj => by simp [World.cell?, hgv, hcur j hj]
  refine wpList_append_arg w hgd sl x 48 ho 5 i0 (.int .u8 0) 1 1 Tryd.underlying48 hi0 hz0 hz1 hz2 rfl (by decide) gv 0 L.length cap (cellsF L) hs (by rw [cellsF_length, Nat.mul_one]) (fun j u hj => ?_) ⟨g, 0, none⟩ 1 1 [.int .u8 (y.toNat : Nat)] hx rfl (news_is hI) (by simp [Value.oneCell']) (fun hr j hj => ?_) (by unfold maxLen; omega) (by omega) (fun hr => ?_) (fun hr v' w' hown hgrow => ?_)
  · have hj2 : j < L.length := by
      rw [← cellsF_length L]; exact (List.getElem?_eq_some_iff.1 hj).1
    rw [Nat.zero_add, hcell j hj2, ← hj]
    unfold cellsF
    rw [List.getElem?_map, List.getElem?_eq_getElem hj2, getD_lt hj2]
    rfl
  · have hj0 : j = 0 := by simpa using hj
    subst hj0
    have hlt : L.length < cur.size := by omega
    refine ⟨by simp [World.cell?, hgv, hlt], ?_⟩
    have := hfr L.length (by omega)
    simp only [World.frozen?, Nat.zero_add, Nat.mul_one, Nat.add_zero, hgv]
    exact this
  · refine h gv cap _ (Lib.hid ?_) (Lib.hid ?_)
    · refine ⟨gv, cap, cur.setIfInBounds L.length (.int .u8 (y.toNat : Nat)), fr, by simp, hb, ?_, by simpa using hr, by rw [Array.size_setIfInBounds]; exact hcs, hfr, fun j hj => ?_⟩
      · simp [World.setCells, World.setCell, Array.getElem?_modify, hgv]
      · rw [List.length_append, List.length_singleton] at hj
        by_cases e : L.length = j
        · subst e
          rw [Array.getElem?_setIfInBounds_self, if_pos (by omega)]
          congr 3
          rw [List.getD_eq_getElem?_getD, List.getElem?_append_right (Nat.le_refl _), Nat.sub_self]
          rfl
        · rw [Array.getElem?_setIfInBounds_ne e, hcur j (by omega)]
          congr 3
          rw [List.getD_eq_getElem?_getD, List.getD_eq_getElem?_getD, List.getElem?_append_left (by omega)]
    · show But [] w0 ((w.setCell ⟨gv, 0 + L.length * 1, none⟩ (.int .u8 (y.toNat : Nat))))
      exact hB.setCell (.inr hb) _
  · rcases hown.2 with ⟨_, h0⟩ | ⟨g2, cap2, cur2, rfl, hg2, hh2, hn2, _, hs2, ht2⟩
    · omega
    · refine h g2 cap2 w' (Lib.hid ⟨g2, cap2, cur2, (0, 0), by simp, Nat.le_trans hB.size hg2, hh2, by simpa using hn2, by omega, fun i hi => by simp, fun j hj => ?_⟩) (Lib.hid (hB.grown hgrow (by simp)))
      have e1 : (L.length + 1) * 1 = L.length + 1 := Nat.mul_one _
      rw [e1] at ht2
      have hj2 : j < L.length + 1 := by simpa using hj
      have e3 : cur2[j]? = (cur2.toList.take (L.length + 1))[j]? := by rw [List.getElem?_take_of_lt hj2, Array.getElem?_toList]
      rw [e3, ht2, show ([Value.int .u8 (y.toNat : Nat)] : List Value) = cellsF [y] from rfl, ← cellsF_append]
      unfold cellsF
      rw [List.getElem?_map, List.getElem?_eq_getElem hj, getD_lt hj]
      rfl
theorem wpList_append_gn {w0 : World} (w : World) {ops : Array Oper} {rest : List Oper} {o : Oper} {a : Act} {Q : Exit → Act → World → Prop} (hgd : o.guard = none) (sl x : Operand)
    (ho : o.op = .call { callee := .builtin .append, args := #[sl, x], argTypes := #[48, 48] })
    (v : Value) (n : Nat) (L : List UInt8) (hs : a.eval sl = v) (hn : L.length = n) (hO : OwnG w w0.heap.size v L) (hB : But [] w0 w) (y : UInt8) {g : Nat}
    (hx : a.eval x = .slice (some ⟨g, 0, none⟩) 1 1) (hI : Is w g 5 #[.int .u8 (y.toNat : Nat)]) (hbound : n + 1 ≤ 140737488355328)
    (h : ∀ g2 c w', Hid (OwnG w' w0.heap.size (.slice (some ⟨g2, 0, none⟩) (n + 1) c) (L ++ [y])) → Hid (But [] w0 w') → wpList Tryd.prog ops Q rest (a.put o.dst (.slice (some ⟨g2, 0, none⟩) (n + 1) c)) w') : wpList Tryd.prog ops Q (o :: rest) a w := by
  subst hn
  exact wpList_append_g w hgd sl x ho v L hs hO hB y hx hI hbound h
end Go.Proofs.YtmdiilnipoblbaaDoor
set_option maxRecDepth 100000
set_option linter.unusedVariables false
namespace Go.Proofs.YtmdiilnipoblbaaDoor
set_option maxRecDepth 100000
open Go Go.RowKit
theorem outK_all (h : List Nat) : outK h 8 = outS h := rfl
end Go.Proofs.YtmdiilnipoblbaaDoor
set_option maxRecDepth 100000
set_option linter.unusedVariables false
namespace Go.Proofs.YtmdiilnipoblbaaDoor
set_option maxRecDepth 100000
open Go Go.RowKit
theorem eight_at {z : Nat} (hz : z < 4294967296) : ∀ j, j < 8 → (eightL z).take (j + 1) = (eightL z).take j ++ [UInt8.ofNat (z / 2 ^ (8 * (7 - j)))] := by
  have h0 : ∀ q, 4294967296 ≤ q → z / q = 0 := fun q hq => Nat.div_eq_of_lt (by omega)
  have h1 : z / 4294967296 = 0 := h0 _ (Nat.le_refl _)
  intro j hj
  unfold eightL fourL
  rw [h1]
  match j, hj with
  | 0, _ => rw [h0 (2 ^ (8 * (7 - 0))) (by decide)]; rfl
  | 1, _ => rw [h0 (2 ^ (8 * (7 - 1))) (by decide)]; rfl
  | 2, _ => rw [h0 (2 ^ (8 * (7 - 2))) (by decide)]; rfl
  | 3, _ => rw [h0 (2 ^ (8 * (7 - 3))) (by decide)]; rfl
  | 4, _ => rfl
  | 5, _ => rfl
  | 6, _ => rfl
  | 7, _ => rw [show 2 ^ (8 * (7 - 7)) = 1 from rfl, Nat.div_one]; rfl
theorem eight_len (z : Nat) : (eightL z).length = 8 := by unfold eightL; rw [List.length_append, fourL_length, fourL_length]
/-- The bytes, 80, and so many noughts. -/
def preF (l : List UInt8) (q : Nat) : List UInt8 := l ++ (128 :: List.replicate q 0)
theorem preF_len (l : List UInt8) (q : Nat) : (preF l q).length = l.length + 1 + q := by unfold preF; rw [List.length_append, List.length_cons, List.length_replicate]; omega
theorem preF_next (l : List UInt8) (q : Nat) : preF l q ++ [0] = preF l (q + 1) := by
  unfold preF
  rw [List.replicate_succ', List.append_assoc, List.cons_append]
theorem preF_fill (l : List UInt8) : preF l (padN l.length) ++ (eightL (8 * l.length)).take 8 = fillT l := by
  rw [List.take_of_length_le (by rw [eight_len]; exact Nat.le_refl _)]
  unfold preF fillT
  rw [List.append_assoc, List.cons_append]
def lenV (v : Value) : Nat := match v with | .slice _ n _ => n | _ => 0
attribute [local irreducible] preF eightL padN
set_option maxHeartbeats 2000000 in
theorem efilled_any (w : World) (s : ByteArray) (hs : s.size ≤ 100000000) :
    Calls Tryd.prog 46 #[.string s] w fun e w' => ∃ g c, e = .returned (.slice (some ⟨g, 0, none⟩) (fillT s.data.toList).length c) ∧ w.heap.size ≤ g ∧ g < w'.heap.size ∧ (fillT s.data.toList).length ≤ c ∧ ByteRow w' (some ⟨g, 0, none⟩) (fillT s.data.toList).length (fillT s.data.toList) ∧ But [] w w' := by
  obtain ⟨hc1, hc2⟩ := OwnG.conv w s
  obtain ⟨c0, hc0⟩ : ∃ c, c = grownCap w s.size 0 5 := ⟨_, rfl⟩
  rw [← hc0] at hc1 hc2
  have hB1 := (But.refl [] w).drew.alloc (.cells (bytesRow s c0) 5 ((bytesRow s c0).size, (bytesRow s c0).size + 1))
  obtain ⟨W1, hW1⟩ : ∃ W, W = w.drew.alloc (.cells (bytesRow s c0) 5 ((bytesRow s c0).size, (bytesRow s c0).size + 1)) := ⟨_, rfl⟩
  rw [← hW1] at hc1 hc2 hB1
  obtain ⟨l, hl⟩ : ∃ l, l = s.data.toList := ⟨_, rfl⟩
  have hln : l.length = s.size := by rw [hl, Array.length_toList]; rfl
  rw [← hl] at hc2
  have HO := Lib.hid (hc2.but ((But.refl [] W1).alloc (.cells #[.int .u8 128] 5)))
  have HB := Lib.hid (hB1.alloc (.cells #[.int .u8 128] 5))
  have HLN := Lib.hid hln
  have HPL : Hid (∀ q, (preF l q).length = s.size + 1 + q) := Lib.hid fun q => by rw [preF_len, hln]
  have HPZ : Hid (l ++ [128] = preF l 0) := Lib.hid (by unfold preF; rfl)
  have HPF : Hid (preF l (padN s.size) ++ (eightL (8 * s.size)).take 8 = fillT l) := Lib.hid (by rw [← hln]; exact preF_fill l)
  have HFL : Hid ((fillT l).length = s.size + padN s.size + 9) := Lib.hid (by rw [(fillT_length l).2, hln])
  have HPD : Hid (∀ q, q ≤ padN s.size → ((s.size + 1 + q) % 64 = 56 ↔ q = padN s.size)) := Lib.hid fun q hq => by unfold padN at hq ⊢; omega
  have HP63 := Lib.hid (padN_lt s.size)
  have HE8 := Lib.hid (fun j hj => eight_at (z := 8 * s.size) (by omega) j hj)
  have HEL := Lib.hid (eight_len (8 * s.size))
  rw [← hl]
  clear hc0 hc2 hB1 hW1 hl hln
  go_enter Tryd.func46, Tryd.ntmps46
  go_wp2_with (at_builtin; refine wpList_append_gn (w0 := w) _ rfl _ _ rfl (.slice (some ⟨w.heap.size, 0, none⟩) s.size c0) s.size l rfl HLN.out HO.out HB.out 128 rfl (Is.fresh _ _ _) (by omega) ?_; intro g2 c2 w2 HO2 HB2)
  rw [HPZ.out] at HO2
  clear HO HB hc1
  go_loopw [3] (fun rv wr => ∃ (q m g c : Nat), Hid (q ≤ padN s.size) ∧ Hid (m = s.size + 1 + q) ∧ m ≤ 100000064 ∧ rv = .slice (some ⟨g, 0, none⟩) m c ∧ Hid (OwnG wr w.heap.size (.slice (some ⟨g, 0, none⟩) m c) (preF l q)) ∧ Hid (But [] w wr)) (fun rv _ => 100000164 - lenV rv)
  case atStart => exact ⟨0, s.size + 1, g2, c2, Lib.hid (Nat.zero_le _), Lib.hid rfl, by omega, rfl, HO2, HB2⟩
  case round =>
    clear HO2 HB2
    obtain ⟨q, m, g, c, HQ, HM, hm, rfl, HO, HB⟩ := hrel
    obtain ⟨r, hr⟩ : ∃ r, r = m % 64 := ⟨_, rfl⟩
    have e1 : (m : Int) % 64 = (r : Int) := by omega
    have e2 : (m : Int).tmod 64 = (r : Int) := by rw [Int.tmod_eq_emod_of_nonneg (by omega)]; omega
    have v1 := wrapI_in (show r < 1000000000000000 by omega)
    have HR := Lib.hid hr
    clear hr
    by_cases h56 : r = 56
    · have HQE : Hid (q = padN s.size) := Lib.hid ((HPD.out q HQ.out).1 (by rw [← HM.out, ← HR.out]; exact h56))
      have b1 : ((r : Int) == 56) = true := by rw [h56]; rfl
      have b2 : (r : Int) = 56 := by rw [h56]; rfl
      have HB2 := HB
      have HO2 : Hid (OwnG wr w.heap.size (.slice (some ⟨g, 0, none⟩) m c) (preF l (padN s.size) ++ (eightL (8 * s.size)).take 0)) := Lib.hid (by
        rw [List.take_zero, List.append_nil, ← HQE.out]; exact HO.out)
      have HM2 : Hid (m = s.size + 1 + padN s.size) := Lib.hid (by rw [← HQE.out]; exact HM.out)
      obtain ⟨z, hz⟩ : ∃ z, z = 8 * s.size := ⟨_, rfl⟩
      have ez : (8 : Int) * (s.size : Int) = (z : Int) := by omega
      have vz := wrapI_in (show z < 1000000000000000 by omega)
      have HZ := Lib.hid hz
      rw [← hz] at HO2 HE8 HEL HPF
      clear hz HO HQ HM HQE HPD
      go_upto_region 6 with (fail)
      clear b1 b2 h56 e1 e2 v1 ez vz HR
      have HBW := HB2
      obtain ⟨wv, rfl⟩ : ∃ W, W = wr := ⟨wr, rfl⟩
      go_loopw [3, 5] (fun rv iv wx => ∃ (j g c mm : Nat) (i : Int), j ≤ 8 ∧ iv = .int .i64 i ∧ Hid (i = 7 - (j : Int)) ∧ Hid (mm = m + j) ∧ mm ≤ 100000072 ∧ rv = .slice (some ⟨g, 0, none⟩) mm c ∧ Hid (OwnG wx w.heap.size (.slice (some ⟨g, 0, none⟩) mm c) (preF l (padN s.size) ++ (eightL z).take j)) ∧ Hid (But [] w wx)) (fun _ iv _ => (intOf iv + 1).toNat)
      case atStart => exact ⟨0, g, c, m, 7, Nat.zero_le _, rfl, Lib.hid rfl, Lib.hid rfl, by omega, rfl, HO2, HBW⟩
      case round =>
        clear HO2 HBW HB2 HB
        obtain ⟨j, g3, c3, mm, i, hj, rfl, HI, HMM, hmm, rfl, HO, HB⟩ := hrel
        by_cases hlt : j < 8
        · obtain ⟨i, rfl⟩ : ∃ k : Nat, i = (k : Int) := ⟨i.toNat, by have := HI.out; omega⟩
          have HIJ : Hid (i = 7 - j) := Lib.hid (by have := HI.out; omega)
          obtain ⟨e, he⟩ : ∃ e, e = 8 * i := ⟨_, rfl⟩
          have ee : (8 : Int) * (i : Int) = (e : Int) := by omega
          have hi7 : i ≤ 7 := by have := HIJ.out; omega
          have ve := wrapI_in (show e < 1000000000000000 by omega)
          obtain ⟨y, hy⟩ : ∃ y, y = z / 2 ^ e := ⟨_, rfl⟩
          obtain ⟨b, hb⟩ : ∃ b, b = UInt8.ofNat y := ⟨_, rfl⟩
          have f1 : (z : Int) / 2 ^ e = (y : Int) := by rw [hy]; simp
          have f2 : IntKind.u8.wrap (y : Int) = ((b.toNat : Nat) : Int) := by rw [hb, UInt8.toNat_ofNat', IntKind.wrap_u8]; omega
          have hz2 : z < 1000000000000000 := by have := HZ.out; omega
          have vy : IntKind.i64.wrap (y : Int) = (y : Int) := wrapI_in (by
            have : y ≤ z := by rw [hy]; exact Nat.div_le_self _ _
            omega)
          have HN : Hid ((preF l (padN s.size) ++ (eightL z).take j) ++ [b] = preF l (padN s.size) ++ (eightL z).take (j + 1)) := Lib.hid (by
            rw [HE8.out j hlt, hb, hy, he, HIJ.out, List.append_assoc])
          have HML : Hid ((preF l (padN s.size) ++ (eightL z).take j).length = mm) := Lib.hid (by
            rw [List.length_append, HPL.out, List.length_take, HEL.out, HMM.out, HM2.out]; omega)
          have hmm2 : mm + 1 ≤ 100000072 := by have h1 := HMM.out; have h2 := HM2.out; have h3 := HP63.out; omega
          have HI2 : Hid ((i : Int) - 1 = 7 - ((j + 1 : Nat) : Int)) := Lib.hid (by have := HI.out; omega)
          have HM3 : Hid (mm + 1 = m + (j + 1)) := Lib.hid (by rw [HMM.out]; omega)
          have HJ := Lib.hid hlt
          have HIw : Hid (0 ≤ (i : Int)) := Lib.hid (by omega)
          clear he hy hb hlt HI HMM
          go_wp2_with (at_builtin; refine wpList_append_gn (w0 := w) _ rfl _ _ rfl (.slice (some ⟨g3, 0, none⟩) mm c3) mm (preF l (padN s.size) ++ (eightL z).take j) rfl HML.out (HO.out.but ((But.refl [] wr).alloc _)) (HB.out.alloc _) b rfl (Is.fresh _ _ _) (by omega) ?_; intro g4 c4 w4 HO4 HB4)
          rw [HN.out] at HO4
          go_wp2
          go_roundw
          case rel => exact ⟨j + 1, g4, c4, mm + 1, (i : Int) - 1, by have := HJ.out; omega, rfl, HI2, HM3, hmm2, rfl, HO4, HB4⟩
          case measure => simp [intOf] <;> omega
        · have hj8 : j = 8 := by omega
          rw [hj8] at HO HI HMM
          have hi : i = -1 := by have := HI.out; omega
          have hneg : ¬ (0 : Int) ≤ i := by omega
          have HMF : Hid (mm = (fillT l).length) := Lib.hid (by rw [HMM.out, HM2.out, HFL.out]; omega)
          have HO5 : Hid (OwnG wr w.heap.size (.slice (some ⟨g3, 0, none⟩) mm c3) (fillT l)) := Lib.hid (by
            have h := HO.out
            rw [HPF.out] at h
            exact h)
          clear HI hi hj8 hlt HO
          go_wp2
          go_ret
          obtain ⟨g9, c9, e9, r1, r2, r3, r4⟩ := HO5.out.row
          rw [HMF.out] at e9 ⊢
          injection e9 with e1 e2 e3
          injection e1 with e1
          injection e1 with e1
          subst e1 e3
          exact ⟨g3, c3, rfl, r1, r2, r3, r4, HB.out⟩
    · have b1 : ((r : Int) == 56) = false := by simp; omega
      have b2 : ¬ (r : Int) = 56 := by omega
      have HQL : Hid (q + 1 ≤ padN s.size) := Lib.hid (by
        have h1 := HQ.out
        have h2 : ¬ q = padN s.size := fun e => h56 (by rw [HR.out, HM.out]; exact (HPD.out q h1).2 e)
        omega)
      have HMV : Hid (m + 1 = s.size + 1 + (q + 1)) := Lib.hid (by rw [HM.out]; omega)
      have hm2 : m + 1 ≤ 100000064 := by have h1 := HM.out; have h2 := HQL.out; have h3 := HP63.out; omega
      have HML : Hid ((preF l q).length = m) := Lib.hid (by rw [HPL.out, HM.out])
      go_wp2_with (at_builtin; refine wpList_append_gn (w0 := w) _ rfl _ _ rfl (.slice (some ⟨g, 0, none⟩) m c) m (preF l q) rfl HML.out (HO.out.but ((But.refl [] wr).alloc _)) (HB.out.alloc _) 0 rfl (Is.fresh _ _ _) (by omega) ?_; intro g3 c3 w3 HO3 HB3)
      rw [preF_next] at HO3
      go_wp2
      go_roundw
      case rel => exact ⟨q + 1, m + 1, g3, c3, HQL, HMV, hm2, rfl, HO3, HB3⟩
      case measure => simp [lenV] <;> omega
end Go.Proofs.YtmdiilnipoblbaaDoor
set_option maxRecDepth 1000000
set_option linter.unusedVariables false
namespace Go.Proofs.YtmdiilnipoblbaaDoor
set_option maxRecDepth 100000
open Go Go.RowKit
/-- The loops of a piece of code that lie in no other of its loops: what each repeats. -/
def loopsOf : Code → List Code
  | .loop c => [c]
  | .seq a b => loopsOf a ++ loopsOf b
  | .block _ c => loopsOf c
  | .scope c => loopsOf c
  | .cond _ a b => loopsOf a ++ loopsOf b
  | _ => []
noncomputable def eOuter (k : Nat) : Code := ((Tryd.f30.body.map loopsOf).getD []).getD k .skip
noncomputable def eInner (k : Nat) : Code := (loopsOf (eOuter 0)).getD k .skip
/-- Words in memory, as the document has them. -/
theorem rowZ_get {L : List Nat} {i : Nat} (h : i < L.length) (n : Nat) : (rowZ L n)[i]? = some (.int .i64 (L.getD i 0 : Nat)) := by
  rw [rowZ_at h, List.getD_eq_getElem?_getD, List.getElem?_eq_getElem h]; rfl
theorem rowZ_set {L : List Nat} {n i : Nat} (x : Nat) (hL : L.length = n) : (rowZ L n).setIfInBounds i (.int .i64 (x : Nat)) = rowZ (L.set i x) n := by
  unfold rowZ nCells
  rw [List.length_set, hL, Nat.sub_self, List.replicate_zero, List.append_nil, List.append_nil]
  apply Array.ext'
  simp [List.map_set]
theorem SB.cut {w : World} {g o n : Nat} {S : List UInt8} {k : Nat} (h : SB w g o n S) (hk : k ≤ n) : SB w g (o + k) (n - k) (S.drop k) :=
  ⟨by rw [List.length_drop, h.1], fun i hi => by rw [Nat.add_assoc, h.2 (k + i) (by omega), List.getD_eq_getElem?_getD, List.getD_eq_getElem?_getD, List.getElem?_drop]⟩
end Go.Proofs.YtmdiilnipoblbaaDoor
set_option maxRecDepth 1000000
set_option linter.unusedVariables false
namespace Go.Proofs.YtmdiilnipoblbaaDoor
set_option maxRecDepth 100000
open Go Go.RowKit
theorem four_ofH {l : List UInt8} {i : Nat} (h : i + 4 ≤ l.length) : (l.drop i).take 4 = [l.getD i 0, l.getD (i + 1) 0, l.getD (i + 2) 0, l.getD (i + 3) 0] := by
  apply List.ext_getElem?
  intro j
  by_cases hj : j < 4
  · rw [List.getElem?_take_of_lt hj, List.getElem?_drop]
    have e : ∀ q, q < l.length → l[q]? = some (l.getD q 0) := fun q hq => by rw [List.getD_eq_getElem?_getD, List.getElem?_eq_getElem hq]; rfl
    rw [e (i + j) (by omega)]
    match j, hj with
    | 0, _ => rfl
    | 1, _ => rfl
    | 2, _ => rfl
    | 3, _ => rfl
  · rw [List.getElem?_eq_none (by rw [List.length_take]; omega), List.getElem?_eq_none (by show 4 ≤ j; omega)]
theorem getD_takeH {l : List UInt8} {i n : Nat} (h : i < n) : (l.take n).getD i 0 = l.getD i 0 := by
  rw [List.getD_eq_getElem?_getD, List.getElem?_take_of_lt h, ← List.getD_eq_getElem?_getD]
theorem word_of {S : List UInt8} {k : Nat} (hk : k < 16) (hS : 64 ≤ S.length) : ofL (((S.take 64).drop (4 * k)).take 4) = (S.getD (4 * k) 0).toNat * 16777216 + (S.getD (4 * k + 1) 0).toNat * 65536 + (S.getD (4 * k + 2) 0).toNat * 256 + (S.getD (4 * k + 3) 0).toNat := by
  rw [four_ofH (by rw [List.length_take]; omega), getD_takeH (by omega), getD_takeH (by omega), getD_takeH (by omega), getD_takeH (by omega)]
  show 256 * (256 * (256 * (256 * 0 + _) + _) + _) + _ = _
  omega
theorem or_numI (x y i : Nat) (hi : i ≤ 62) (hx : x % 2 ^ i = 0) (hx1 : x < 9223372036854775808) (hy : y < 2 ^ i) : Go.bits .or .i64 (x : Int) (y : Int) = ((x + y : Nat) : Int) := by
  have hp : 2 ^ i ≤ 2 ^ 62 := Nat.pow_le_pow_right (by decide) hi
  rw [i64_or _ _ hx1 (by omega), nat_join i x y hx hy]
attribute [local irreducible] rowZ wordsB
set_option maxHeartbeats 4000000 in
theorem eword_loop {wr : World} {gf o n c g6 : Nat} {S : List UInt8} {Q0 : Exit → Act → World → Prop} {c0 c1 c2 c3 c4 c8 c9 c10 c11 c12 c13 c14 c15 c16 c17 c18 c19 c20 c21 c22 c23 c24 c25 c26 c27 c68 c69 c70 c71 c72 c73 c74 c75 c76 c77 c78 c79 c80 c81 c82 c83 c84 c85 c86 c87 c88 c89 c90 c91 c92 c93 c94 c95 c96 c97 c98 c99 c100 c101 c102 c103 c104 c105 c106 c107 c108 c109 c110 c111 c112 c113 c114 c115 c116 c117 c118 c119 c120 c121 c122 c123 c124 c125 c126 c127 c128 c129 c130 c131 c132 c133 c134 c135 c136 c137 c138 c139 c140 c141 c142 c143 c144 c145 c146 c147 c148 c149 c150 c151 c152 c153 c154 c155 c156 c157 c158 c159 c160 c161 c162 c163 c164 c165 c166 c167 c168 c169 c170 c171 c172 c173 c174 c175 c176 c177 c178 c179 c180 c181 c182 c183 c184 c185 c186 c187 c188 c189 c190 c191 c192 c193 c194 c195 c196 c197 c198 c199 c200 c201 c202 c203 c204 c205 c206 c207 c208 c209 c210 c211 c212 c213 c214 c215 c216 c217 c218 c219 c220 c221 c222 c223 c224 c225 c226 c227 c228 c229 c230 c231 c232 c233 c234 c235 c236 c237 c238 c239 c240 c241 c242 c243 c244 c245 c246 c247 c248 c249 c250 c251 c252 c253 c254 c255 c256 c257 c258 c259 c260 c261 c262 c263 c264 c265 c266 c267 c268 c269 c270 c271 c272 u28 u29 u30 u31 u32 u33 u34 u35 u36 u37 u38 u39 u40 u41 u42 u43 u44 u45 u46 u47 u48 u49 u50 u51 u52 u53 u54 u55 u56 u57 u58 u59 u60 u61 u62 u63 u64 u65 u66 u67 : Value} (hI : Is wr g6 3 (rowZ [] 64)) (hS : SB wr gf o n S) (hn : 64 ≤ n) (hn2 : n ≤ 200000000) (hne : gf ≠ g6) (hpan : ∀ (c : List PanicEntry) (a : Act) (d : Option Tmp) (v : Value) (w : World), Q0 (.panic c) (a.put d v) w → Q0 (.panic c) a w)
    (hK : ∀ (v28 v29 v30 v31 v32 v33 v34 v35 v36 v37 v38 v39 v40 v41 v42 v43 v44 v45 v46 v47 v48 v49 v50 v51 v52 v53 v54 v55 v56 v57 v58 v59 v60 v61 v62 v63 v64 v65 v66 v67 : Value) w1, Is w1 g6 3 (rowZ (wordsB (S.take 64)) 64) → But [g6] wr w1 → Q0 (.exit 2) ⟨(c0 :: c1 :: c2 :: c3 :: c4 :: .slice (some ⟨gf, o, none⟩) n c :: .slice (some ⟨g6, 0, none⟩) 64 64 :: .int .i64 16 :: c8 :: c9 :: c10 :: c11 :: c12 :: c13 :: c14 :: c15 :: c16 :: c17 :: c18 :: c19 :: c20 :: c21 :: c22 :: c23 :: c24 :: c25 :: c26 :: c27 :: v28 :: v29 :: v30 :: v31 :: v32 :: v33 :: v34 :: v35 :: v36 :: v37 :: v38 :: v39 :: v40 :: v41 :: v42 :: v43 :: v44 :: v45 :: v46 :: v47 :: v48 :: v49 :: v50 :: v51 :: v52 :: v53 :: v54 :: v55 :: v56 :: v57 :: v58 :: v59 :: v60 :: v61 :: v62 :: v63 :: v64 :: v65 :: v66 :: v67 :: c68 :: c69 :: c70 :: c71 :: c72 :: c73 :: c74 :: c75 :: c76 :: c77 :: c78 :: c79 :: c80 :: c81 :: c82 :: c83 :: c84 :: c85 :: c86 :: c87 :: c88 :: c89 :: c90 :: c91 :: c92 :: c93 :: c94 :: c95 :: c96 :: c97 :: c98 :: c99 :: c100 :: c101 :: c102 :: c103 :: c104 :: c105 :: c106 :: c107 :: c108 :: c109 :: c110 :: c111 :: c112 :: c113 :: c114 :: c115 :: c116 :: c117 :: c118 :: c119 :: c120 :: c121 :: c122 :: c123 :: c124 :: c125 :: c126 :: c127 :: c128 :: c129 :: c130 :: c131 :: c132 :: c133 :: c134 :: c135 :: c136 :: c137 :: c138 :: c139 :: c140 :: c141 :: c142 :: c143 :: c144 :: c145 :: c146 :: c147 :: c148 :: c149 :: c150 :: c151 :: c152 :: c153 :: c154 :: c155 :: c156 :: c157 :: c158 :: c159 :: c160 :: c161 :: c162 :: c163 :: c164 :: c165 :: c166 :: c167 :: c168 :: c169 :: c170 :: c171 :: c172 :: c173 :: c174 :: c175 :: c176 :: c177 :: c178 :: c179 :: c180 :: c181 :: c182 :: c183 :: c184 :: c185 :: c186 :: c187 :: c188 :: c189 :: c190 :: c191 :: c192 :: c193 :: c194 :: c195 :: c196 :: c197 :: c198 :: c199 :: c200 :: c201 :: c202 :: c203 :: c204 :: c205 :: c206 :: c207 :: c208 :: c209 :: c210 :: c211 :: c212 :: c213 :: c214 :: c215 :: c216 :: c217 :: c218 :: c219 :: c220 :: c221 :: c222 :: c223 :: c224 :: c225 :: c226 :: c227 :: c228 :: c229 :: c230 :: c231 :: c232 :: c233 :: c234 :: c235 :: c236 :: c237 :: c238 :: c239 :: c240 :: c241 :: c242 :: c243 :: c244 :: c245 :: c246 :: c247 :: c248 :: c249 :: c250 :: c251 :: c252 :: c253 :: c254 :: c255 :: c256 :: c257 :: c258 :: c259 :: c260 :: c261 :: c262 :: c263 :: c264 :: c265 :: c266 :: c267 :: c268 :: c269 :: c270 :: c271 :: c272 :: []).toArray, []⟩ w1) :
    Code.wp Tryd.prog (Code.loop (eInner 0)) Q0 ⟨(c0 :: c1 :: c2 :: c3 :: c4 :: .slice (some ⟨gf, o, none⟩) n c :: .slice (some ⟨g6, 0, none⟩) 64 64 :: .int .i64 0 :: c8 :: c9 :: c10 :: c11 :: c12 :: c13 :: c14 :: c15 :: c16 :: c17 :: c18 :: c19 :: c20 :: c21 :: c22 :: c23 :: c24 :: c25 :: c26 :: c27 :: u28 :: u29 :: u30 :: u31 :: u32 :: u33 :: u34 :: u35 :: u36 :: u37 :: u38 :: u39 :: u40 :: u41 :: u42 :: u43 :: u44 :: u45 :: u46 :: u47 :: u48 :: u49 :: u50 :: u51 :: u52 :: u53 :: u54 :: u55 :: u56 :: u57 :: u58 :: u59 :: u60 :: u61 :: u62 :: u63 :: u64 :: u65 :: u66 :: u67 :: c68 :: c69 :: c70 :: c71 :: c72 :: c73 :: c74 :: c75 :: c76 :: c77 :: c78 :: c79 :: c80 :: c81 :: c82 :: c83 :: c84 :: c85 :: c86 :: c87 :: c88 :: c89 :: c90 :: c91 :: c92 :: c93 :: c94 :: c95 :: c96 :: c97 :: c98 :: c99 :: c100 :: c101 :: c102 :: c103 :: c104 :: c105 :: c106 :: c107 :: c108 :: c109 :: c110 :: c111 :: c112 :: c113 :: c114 :: c115 :: c116 :: c117 :: c118 :: c119 :: c120 :: c121 :: c122 :: c123 :: c124 :: c125 :: c126 :: c127 :: c128 :: c129 :: c130 :: c131 :: c132 :: c133 :: c134 :: c135 :: c136 :: c137 :: c138 :: c139 :: c140 :: c141 :: c142 :: c143 :: c144 :: c145 :: c146 :: c147 :: c148 :: c149 :: c150 :: c151 :: c152 :: c153 :: c154 :: c155 :: c156 :: c157 :: c158 :: c159 :: c160 :: c161 :: c162 :: c163 :: c164 :: c165 :: c166 :: c167 :: c168 :: c169 :: c170 :: c171 :: c172 :: c173 :: c174 :: c175 :: c176 :: c177 :: c178 :: c179 :: c180 :: c181 :: c182 :: c183 :: c184 :: c185 :: c186 :: c187 :: c188 :: c189 :: c190 :: c191 :: c192 :: c193 :: c194 :: c195 :: c196 :: c197 :: c198 :: c199 :: c200 :: c201 :: c202 :: c203 :: c204 :: c205 :: c206 :: c207 :: c208 :: c209 :: c210 :: c211 :: c212 :: c213 :: c214 :: c215 :: c216 :: c217 :: c218 :: c219 :: c220 :: c221 :: c222 :: c223 :: c224 :: c225 :: c226 :: c227 :: c228 :: c229 :: c230 :: c231 :: c232 :: c233 :: c234 :: c235 :: c236 :: c237 :: c238 :: c239 :: c240 :: c241 :: c242 :: c243 :: c244 :: c245 :: c246 :: c247 :: c248 :: c249 :: c250 :: c251 :: c252 :: c253 :: c254 :: c255 :: c256 :: c257 :: c258 :: c259 :: c260 :: c261 :: c262 :: c263 :: c264 :: c265 :: c266 :: c267 :: c268 :: c269 :: c270 :: c271 :: c272 :: []).toArray, []⟩ wr := by
  have HPN := Lib.hid hpan
  have HI0 : Hid (Is wr g6 3 (rowZ ((wordsB (S.take 64)).take 0) 64)) := Lib.hid hI
  have HS := Lib.hid hS
  have HNE := Lib.hid hne
  have HK := Lib.hid hK
  have HB0 : Hid (But [g6] wr wr) := Lib.hid (But.refl _ _)
  have hSl := hS.1
  have HWL := Lib.hid (wordsB_length (S.take 64))
  have HWO : Hid (∀ k, k < 16 → (wordsB (S.take 64)).take (k + 1) = (wordsB (S.take 64)).take k ++ [(S.getD (4 * k) 0).toNat * 16777216 + (S.getD (4 * k + 1) 0).toNat * 65536 + (S.getD (4 * k + 2) 0).toNat * 256 + (S.getD (4 * k + 3) 0).toNat]) := Lib.hid fun k hk => by
    rw [wordsB_next _ hk, word_of hk (by omega)]
  obtain ⟨X, hX⟩ : ∃ X, X = wordsB (S.take 64) := ⟨_, rfl⟩
  rw [← hX] at HI0 HWL HWO
  have HX := Lib.hid hX
  obtain ⟨wz, hwz⟩ : ∃ W, W = wr := ⟨wr, rfl⟩
  have HWZ := Lib.hid hwz
  conv => arg 2; arg 1; whnf
  clear hpan hI hS hne hK hwz hX hSl
  go_loopw [7] (fun kv wx => ∃ k : Nat, k ≤ 16 ∧ kv = .int .i64 k ∧ Hid (Is wx g6 3 (rowZ (X.take k) 64)) ∧ Hid (But [g6] wz wx)) (fun kv _ => 16 - (intOf kv).toNat)
  case atStart => exact ⟨0, Nat.zero_le _, rfl, HI0, by rw [HWZ.out]; exact HB0⟩
  case round =>
    clear HI0 HB0
    obtain ⟨k, hk, rfl, HI, HB⟩ := hrel
    by_cases hlt : k < 16
    · obtain ⟨p0, hp0⟩ : ∃ p, p = 4 * k := ⟨_, rfl⟩
      obtain ⟨p1, hp1⟩ : ∃ p, p = p0 + 1 := ⟨_, rfl⟩
      obtain ⟨p2, hp2⟩ : ∃ p, p = p0 + 2 := ⟨_, rfl⟩
      obtain ⟨p3, hp3⟩ : ∃ p, p = p0 + 3 := ⟨_, rfl⟩
      have e0 : (4 : Int) * (k : Int) = (p0 : Int) := by omega
      have e1 : (p0 : Int) + 1 = (p1 : Int) := by omega
      have e2 : (p0 : Int) + 2 = (p2 : Int) := by omega
      have e3 : (p0 : Int) + 3 = (p3 : Int) := by omega
      obtain ⟨b0, hb0⟩ : ∃ b, b = (S.getD p0 0).toNat := ⟨_, rfl⟩
      have lb0 : b0 < 256 := by rw [hb0]; exact UInt8.toNat_lt _
      have HC0 : Hid (∀ W, But [] wr W → W.cell? ⟨gf, o + p0, none⟩ = some (.int .u8 (b0 : Nat))) := Lib.hid fun W hW => by
        rw [hb0]
        exact ((HS.out.but (by rw [← HWZ.out]; exact HB.out) (by simpa using HNE.out)).but hW (by simp)).2 p0 (by omega)
      have i0 : (p0 : Int) < (n : Int) := by omega
      have j0 : (0 : Int) ≤ (p0 : Int) := by omega
      have wp0 := wrapI_in (show p0 < 1000000000000000 by omega)
      have wb0 := wrapI_in (show b0 < 1000000000000000 by omega)
      obtain ⟨b1, hb1⟩ : ∃ b, b = (S.getD p1 0).toNat := ⟨_, rfl⟩
      have lb1 : b1 < 256 := by rw [hb1]; exact UInt8.toNat_lt _
      have HC1 : Hid (∀ W, But [] wr W → W.cell? ⟨gf, o + p1, none⟩ = some (.int .u8 (b1 : Nat))) := Lib.hid fun W hW => by
        rw [hb1]
        exact ((HS.out.but (by rw [← HWZ.out]; exact HB.out) (by simpa using HNE.out)).but hW (by simp)).2 p1 (by omega)
      have i1 : (p1 : Int) < (n : Int) := by omega
      have j1 : (0 : Int) ≤ (p1 : Int) := by omega
      have wp1 := wrapI_in (show p1 < 1000000000000000 by omega)
      have wb1 := wrapI_in (show b1 < 1000000000000000 by omega)
      obtain ⟨b2, hb2⟩ : ∃ b, b = (S.getD p2 0).toNat := ⟨_, rfl⟩
      have lb2 : b2 < 256 := by rw [hb2]; exact UInt8.toNat_lt _
      have HC2 : Hid (∀ W, But [] wr W → W.cell? ⟨gf, o + p2, none⟩ = some (.int .u8 (b2 : Nat))) := Lib.hid fun W hW => by
        rw [hb2]
        exact ((HS.out.but (by rw [← HWZ.out]; exact HB.out) (by simpa using HNE.out)).but hW (by simp)).2 p2 (by omega)
      have i2 : (p2 : Int) < (n : Int) := by omega
      have j2 : (0 : Int) ≤ (p2 : Int) := by omega
      have wp2 := wrapI_in (show p2 < 1000000000000000 by omega)
      have wb2 := wrapI_in (show b2 < 1000000000000000 by omega)
      obtain ⟨b3, hb3⟩ : ∃ b, b = (S.getD p3 0).toNat := ⟨_, rfl⟩
      have lb3 : b3 < 256 := by rw [hb3]; exact UInt8.toNat_lt _
      have HC3 : Hid (∀ W, But [] wr W → W.cell? ⟨gf, o + p3, none⟩ = some (.int .u8 (b3 : Nat))) := Lib.hid fun W hW => by
        rw [hb3]
        exact ((HS.out.but (by rw [← HWZ.out]; exact HB.out) (by simpa using HNE.out)).but hW (by simp)).2 p3 (by omega)
      have i3 : (p3 : Int) < (n : Int) := by omega
      have j3 : (0 : Int) ≤ (p3 : Int) := by omega
      have wp3 := wrapI_in (show p3 < 1000000000000000 by omega)
      have wb3 := wrapI_in (show b3 < 1000000000000000 by omega)
      obtain ⟨s0, hs0⟩ : ∃ z, z = b0 * 16777216 := ⟨_, rfl⟩
      obtain ⟨s1, hs1⟩ : ∃ z, z = b1 * 65536 := ⟨_, rfl⟩
      obtain ⟨s2, hs2⟩ : ∃ z, z = b2 * 256 := ⟨_, rfl⟩
      obtain ⟨r1, hr1⟩ : ∃ z, z = s0 + s1 := ⟨_, rfl⟩
      obtain ⟨r2, hr2⟩ : ∃ z, z = r1 + s2 := ⟨_, rfl⟩
      obtain ⟨y, hy⟩ : ∃ z, z = r2 + b3 := ⟨_, rfl⟩
      have f0 : (b0 : Int) * 16777216 = (s0 : Int) := by omega
      have f1 : (b1 : Int) * 65536 = (s1 : Int) := by omega
      have f2 : (b2 : Int) * 256 = (s2 : Int) := by omega
      have v0 := wrapI_in (show s0 < 1000000000000000 by omega)
      have v1 := wrapI_in (show s1 < 1000000000000000 by omega)
      have v2 := wrapI_in (show s2 < 1000000000000000 by omega)
      have o1 : bits .or .i64 (s0 : Int) (s1 : Int) = (r1 : Int) := by rw [hr1]; exact or_numI s0 s1 24 (by decide) (by omega) (by omega) (by omega)
      have o2 : bits .or .i64 (r1 : Int) (s2 : Int) = (r2 : Int) := by rw [hr2]; exact or_numI r1 s2 16 (by decide) (by omega) (by omega) (by omega)
      have o3 : bits .or .i64 (r2 : Int) (b3 : Int) = (y : Int) := by rw [hy]; exact or_numI r2 b3 8 (by decide) (by omega) (by omega) (by omega)
      have HTL : Hid ((X.take k).length = k) := Lib.hid (by rw [List.length_take, HWL.out]; omega)
      have HN : Hid (X.take k ++ [y] = X.take (k + 1)) := Lib.hid (by
        rw [HWO.out k hlt, hy, hr2, hr1, hs0, hs1, hs2, hb0, hb1, hb2, hb3, hp1, hp2, hp3, hp0])
      obtain ⟨cx, hcx⟩ := rowZ_some (L := X.take k) (n := 64) (i := k) (by rw [HTL.out]; omega) (by omega)
      have HCX := Lib.hid hcx
      have HPUT : Hid ((rowZ (X.take k) 64).setIfInBounds k (.int .i64 (y : Nat)) = rowZ (X.take (k + 1)) 64) := Lib.hid (by
        have e := rowZ_put (L := X.take k) (n := 64) y (by rw [HTL.out]; omega)
        rw [HTL.out] at e
        rw [e, HN.out])
      have bk0 : (0 : Int) ≤ (k : Int) := by omega
      have bk1 : (k : Int) < 64 := by omega
      have bk2 : (k : Int) < 16 := by omega
      clear hp0 hp1 hp2 hp3 hb0 hb1 hb2 hb3 hs0 hs1 hs2 hr1 hr2 hy hcx lb0 lb1 lb2 lb3
      go_upto_region 9 with (fail)
      refine wp_region_z (z := 36) (S := fun v => But [] wr v) (R := fun v v' => But [] v v') (fun w => But.refl [] w) (by kernel_rfl) (But.refl [] wr).drew ?_
      refine rzk 0 (.slice (some ⟨g6, 0, none⟩) 64 64) ?_ (hQ := fun _ _ _ h => HPN.out _ _ _ _ _ h)
      refine rzk 1 (.int .i64 (k : Int)) ?_ (hQ := fun _ _ _ h => HPN.out _ _ _ _ _ h)
      refine rzk 2 (.slice (some ⟨gf, o, none⟩) n c) ?_ (hQ := fun _ _ _ h => HPN.out _ _ _ _ _ h)
      refine rzk 3 (.int .i64 (k : Int)) ?_ (hQ := fun _ _ _ h => HPN.out _ _ _ _ _ h)
      refine rzk 4 (.int .i64 (p0 : Int)) ?_ (hQ := fun _ _ _ h => HPN.out _ _ _ _ _ h)
      refine rzk 5 (.pointer (some ⟨gf, o + p0, none⟩)) ?_ (hQ := fun _ _ _ h => HPN.out _ _ _ _ _ h)
      refine rzq 6 (.int .u8 (b0 : Int)) ?_ ?_ (hQ := fun _ _ _ h => HPN.out _ _ _ _ _ h)
      · intro W hS
        have cc := HC0.out W hS
        go_simp
      refine rzk 7 (.int .i64 (b0 : Int)) ?_ (hQ := fun _ _ _ h => HPN.out _ _ _ _ _ h)
      refine rzk 8 (.int .i64 (s0 : Int)) ?_ (hQ := fun _ _ _ h => HPN.out _ _ _ _ _ h)
      refine rzk 9 (.slice (some ⟨gf, o, none⟩) n c) ?_ (hQ := fun _ _ _ h => HPN.out _ _ _ _ _ h)
      refine rzk 10 (.int .i64 (k : Int)) ?_ (hQ := fun _ _ _ h => HPN.out _ _ _ _ _ h)
      refine rzk 11 (.int .i64 (p0 : Int)) ?_ (hQ := fun _ _ _ h => HPN.out _ _ _ _ _ h)
      refine rzk 12 (.int .i64 (p1 : Int)) ?_ (hQ := fun _ _ _ h => HPN.out _ _ _ _ _ h)
      refine rzk 13 (.pointer (some ⟨gf, o + p1, none⟩)) ?_ (hQ := fun _ _ _ h => HPN.out _ _ _ _ _ h)
      refine rzq 14 (.int .u8 (b1 : Int)) ?_ ?_ (hQ := fun _ _ _ h => HPN.out _ _ _ _ _ h)
      · intro W hS
        have cc := HC1.out W hS
        go_simp
      refine rzk 15 (.int .i64 (b1 : Int)) ?_ (hQ := fun _ _ _ h => HPN.out _ _ _ _ _ h)
      refine rzk 16 (.int .i64 (s1 : Int)) ?_ (hQ := fun _ _ _ h => HPN.out _ _ _ _ _ h)
      refine rzk 17 (.int .i64 (r1 : Int)) ?_ (hQ := fun _ _ _ h => HPN.out _ _ _ _ _ h)
      refine rzk 18 (.slice (some ⟨gf, o, none⟩) n c) ?_ (hQ := fun _ _ _ h => HPN.out _ _ _ _ _ h)
      refine rzk 19 (.int .i64 (k : Int)) ?_ (hQ := fun _ _ _ h => HPN.out _ _ _ _ _ h)
      refine rzk 20 (.int .i64 (p0 : Int)) ?_ (hQ := fun _ _ _ h => HPN.out _ _ _ _ _ h)
      refine rzk 21 (.int .i64 (p2 : Int)) ?_ (hQ := fun _ _ _ h => HPN.out _ _ _ _ _ h)
      refine rzk 22 (.pointer (some ⟨gf, o + p2, none⟩)) ?_ (hQ := fun _ _ _ h => HPN.out _ _ _ _ _ h)
      refine rzq 23 (.int .u8 (b2 : Int)) ?_ ?_ (hQ := fun _ _ _ h => HPN.out _ _ _ _ _ h)
      · intro W hS
        have cc := HC2.out W hS
        go_simp
      refine rzk 24 (.int .i64 (b2 : Int)) ?_ (hQ := fun _ _ _ h => HPN.out _ _ _ _ _ h)
      refine rzk 25 (.int .i64 (s2 : Int)) ?_ (hQ := fun _ _ _ h => HPN.out _ _ _ _ _ h)
      refine rzk 26 (.int .i64 (r2 : Int)) ?_ (hQ := fun _ _ _ h => HPN.out _ _ _ _ _ h)
      refine rzk 27 (.slice (some ⟨gf, o, none⟩) n c) ?_ (hQ := fun _ _ _ h => HPN.out _ _ _ _ _ h)
      refine rzk 28 (.int .i64 (k : Int)) ?_ (hQ := fun _ _ _ h => HPN.out _ _ _ _ _ h)
      refine rzk 29 (.int .i64 (p0 : Int)) ?_ (hQ := fun _ _ _ h => HPN.out _ _ _ _ _ h)
      refine rzk 30 (.int .i64 (p3 : Int)) ?_ (hQ := fun _ _ _ h => HPN.out _ _ _ _ _ h)
      refine rzk 31 (.pointer (some ⟨gf, o + p3, none⟩)) ?_ (hQ := fun _ _ _ h => HPN.out _ _ _ _ _ h)
      refine rzq 32 (.int .u8 (b3 : Int)) ?_ ?_ (hQ := fun _ _ _ h => HPN.out _ _ _ _ _ h)
      · intro W hS
        have cc := HC3.out W hS
        go_simp
      refine rzk 33 (.int .i64 (b3 : Int)) ?_ (hQ := fun _ _ _ h => HPN.out _ _ _ _ _ h)
      refine rzk 34 (.int .i64 (y : Int)) ?_ (hQ := fun _ _ _ h => HPN.out _ _ _ _ _ h)
      refine rzk 35 (.pointer (some ⟨g6, k, none⟩)) ?_ (hQ := fun _ _ _ h => HPN.out _ _ _ _ _ h)
      refine wpZ_last rfl (by kernel_rfl) (by kernel_rfl) fun w1 hR1 hS1 K' hK' => ?_
      have hI1 := HI.out.but hS1 (by simp)
      have cc := hI1.cell k
      rw [HCX.out] at cc
      have cf := hI1.free k
      have HI2 : Hid (Is (w1.setCell ⟨g6, k, none⟩ (.int .i64 (y : Nat))) g6 3 (rowZ (X.take (k + 1)) 64)) := Lib.hid (by
        have e := hI1.put k (.int .i64 (y : Nat))
        rw [HPUT.out] at e
        exact e)
      have HB2 : Hid (But [g6] wz (w1.setCell ⟨g6, k, none⟩ (.int .i64 (y : Nat)))) := Lib.hid ((HB.out.trans (hS1.more (by simp))).setCell (.inl (by simp)) _)
      clear hR1 hS1 hI1
      go_simp
      refine hK' _ _ ?_
      clear hK' K' cc cf HI HB HC0 HC1 HC2 HC3 HPUT HCX
      go_simp
      go_wp2
      go_roundw
      case rel => exact ⟨k + 1, by omega, by go_num, HI2, HB2⟩
      case measure => simp [intOf] <;> omega
    · have h8 : k = 16 := by omega
      have HI2 : Hid (Is wr g6 3 (rowZ (wordsB (S.take 64)) 64)) := Lib.hid (by
        have e := HI.out
        rw [h8, List.take_of_length_le (by rw [HWL.out]; exact Nat.le_refl _), HX.out] at e
        exact e)
      subst h8
      clear HI hlt hk
      go_wp2_with fail
      exact HK.out _ _ _ _ _ _ _ _ _ _ _ _ _ _ _ _ _ _ _ _ _ _ _ _ _ _ _ _ _ _ _ _ _ _ _ _ _ _ _ _ _ HI2.out (by rw [← HWZ.out]; exact HB.out)
end Go.Proofs.YtmdiilnipoblbaaDoor
