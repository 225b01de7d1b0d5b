/- Several texts in one: LcB, PxN, PxA, BaA, BaB, Ab, BaC, StM, HaA, Slib, CkA, BuA, BuB, HpA, HpD, PyA, BbA (what BandsApart, BandsCuts, BandsJoins, BandsManifest, BandsNames, BandsReads reach of them). -/
import Derived.Test.YtmdiilnipoblbaaDoorK01
import Derived.Below
import Derived.BigQuiet
import Derived.BigRegion
import Derived.Deep.AppendLies
import Derived.Deep.Cut
import Derived.Deep.CutBlock
import Derived.Deep.CutRange
import Derived.Deep.DeepCutAuto
import Derived.Deep.Draws
import Derived.Deep.LoopGhost
import Derived.Deep.QuietTactic
import Derived.Deep.RegionLaw
import Derived.Deep.RegionWith
import Derived.Deep.Slices
import Derived.Handy
import Derived.Laws.BitsAllLaws
import Derived.Laws.BitsLemmas
import Derived.Laws.BytesArg
import Derived.Laws.Externs
import Derived.Laws.IdiomStrings
import Derived.Laws.MakeOwn
import Derived.Laws.OwnMore
import Derived.Laws.Rows
import Derived.Laws.StructEq
import Derived.Lib.AppendStr
import Derived.Lib.BufferWrite
import Derived.Lib.Hide
import Derived.Lib.UnsafeStr
import Derived.Maps.AppendAt
import Derived.OpenShut
import Derived.OrdersHeld
import Derived.OrdersIn
import Derived.Outline
import Derived.OwnWalk
import Derived.OwnWalkIn
import Derived.ProofKit
import Derived.RangeFuncCalls
import Derived.RegionTactic
import Derived.Shelf.LaysM
import Derived.Shelf.Small.Wraps
import Derived.Shelf.Strconv.Clone
import Derived.Shelf.Strings.Builder1
import Derived.Shelf.Strings.BuilderF
import Derived.Shelf.Strings.Prefix
import Derived.Sort.CutIn
import Derived.TacticsInMore
import Derived.Test.YtmdiilnipoblbaaDoorChecked
import Derived.WalkKit
set_option maxRecDepth 100000
set_option linter.unusedVariables false
set_option maxRecDepth 100000
set_option linter.unusedVariables false
namespace Go.Proofs.YtmdiilnipoblbaaDoor
set_option maxRecDepth 100000
open Go Go.RowKit
theorem rightH_ok {a b d c l : Int} (h : rightH a b d c l = 0) : (1 ≤ a ∧ a ≤ 1024) ∧ (1 ≤ b ∧ b ≤ 1024) ∧ a * b ≤ 4096 ∧ (l = 0 ∨ l = 1) ∧ depthOk d c = true := by
  unfold rightH at h
  by_cases h1 : a < 1 ∨ 2147483647 < a ∨ b < 1 ∨ 2147483647 < b ∨ depthOk d c = false ∨ (l ≠ 0 ∧ l ≠ 1)
  · rw [if_pos h1] at h; exact absurd h (by decide)
  · rw [if_neg h1] at h
    by_cases h2 : 1024 < a ∨ 1024 < b ∨ 4096 < a * b
    · rw [if_pos h2] at h; exact absurd h (by decide)
    · have h3 : depthOk d c = true := by
        cases hd : depthOk d c
        · exact absurd (Or.inr (Or.inr (Or.inr (Or.inr (Or.inl hd))))) h1
        · rfl
      refine ⟨⟨by omega, by omega⟩, ⟨by omega, by omega⟩, by omega, by omega, h3⟩
def p6 (w h : Nat) (p : PassL) : P6 := (p.x, p.y, p.dx, p.dy, manyL w p.x p.dx, manyL h p.y p.dy)
/-- What stands while the passes are gone through. -/
def PsS (w : World) (g1 g3 : Nat) (a b d c l : Int) (N : Nat) (M : List P6) (v : World) : Prop := Is v g1 55 #[.int .i64 a, .int .i64 b, .int .i64 d, .int .i64 c, .int .i64 l] ∧ Pss v (some ⟨g3, 0, none⟩) N M ∧ But [] w v
theorem PsS.but {w v v' : World} {g1 g3 : Nat} {a b d c l : Int} {N : Nat} {M : List P6} (h : PsS w g1 g3 a b d c l N M v) (k : But [] v v') : PsS w g1 g3 a b d c l N M v' := ⟨h.1.but k (by simp), h.2.1.but k, h.2.2.trans k⟩
end Go.Proofs.YtmdiilnipoblbaaDoor
set_option linter.unusedVariables false
namespace Go.Proofs.YtmdiilnipoblbaaDoor
set_option maxRecDepth 100000
open Go
/-- What holds of a head that may be. -/
structure RightP (a b d c l : Int) (W H D C : Nat) : Prop where
  wa : a = (W : Int)
  hb : b = (H : Int)
  dd : d = (D : Int)
  cc : c = (C : Int)
  w1 : 1 ≤ W
  w2 : W ≤ 1024
  h1 : 1 ≤ H
  h2 : H ≤ 1024
  area : W * H ≤ 4096
  lace : l = 0 ∨ l = 1
  dep : depB (D : Int) = true
  d1 : 1 ≤ D
  d16 : D ≤ 16
  col : C = 0 ∨ C = 2 ∨ C = 3 ∨ C = 4 ∨ C = 6
  sam : samplesI (C : Int) = (samplesN C : Int)
  s1 : 1 ≤ samplesN C
  s4 : samplesN C ≤ 4
theorem right_form {a b d c l : Int} (h : rightH a b d c l = 0) : ∃ W H D C : Nat, RightP a b d c l W H D C := by
  obtain ⟨⟨a1, a2⟩, ⟨b1, b2⟩, ab, hl, hd⟩ := rightH_ok h
  have hd2 := of_decide_eq_true hd
  have hC : c = 0 ∨ c = 2 ∨ c = 3 ∨ c = 4 ∨ c = 6 := by omega
  have hD : d = 1 ∨ d = 2 ∨ d = 4 ∨ d = 8 ∨ d = 16 := by omega
  obtain ⟨W, rfl⟩ : ∃ W : Nat, a = (W : Int) := ⟨a.toNat, by omega⟩
  obtain ⟨H, rfl⟩ : ∃ H : Nat, b = (H : Int) := ⟨b.toNat, by omega⟩
  obtain ⟨D, rfl⟩ : ∃ D : Nat, d = (D : Int) := ⟨d.toNat, by omega⟩
  obtain ⟨C, rfl⟩ : ∃ C : Nat, c = (C : Int) := ⟨c.toNat, by omega⟩
  have hC2 : C = 0 ∨ C = 2 ∨ C = 3 ∨ C = 4 ∨ C = 6 := by omega
  have area : W * H ≤ 4096 := by exact_mod_cast ab
  refine ⟨W, H, D, C, ⟨rfl, rfl, rfl, rfl, by omega, by omega, by omega, by omega, area, hl, decide_eq_true hD, by omega, by omega, hC2, ?_, ?_, ?_⟩⟩
  all_goals rcases hC2 with rfl | rfl | rfl | rfl | rfl <;> decide
end Go.Proofs.YtmdiilnipoblbaaDoor
set_option maxRecDepth 100000
set_option linter.unusedVariables false
namespace Go.Proofs.YtmdiilnipoblbaaDoor
set_option maxRecDepth 100000
open Go Go.RowKit
/-- A block of bytes that may be written. -/
def BytesB (w : World) (g : Nat) (l : List UInt8) : Prop := Is w g 5 (cellsF l).toArray
theorem BytesB.but {w w' : World} {g : Nat} {l : List UInt8} {S : List Nat} (h : BytesB w g l) (k : But S w w') (hg : g ∉ S) : BytesB w' g l := Is.but h k hg
theorem noughtsB (w : World) (n : Nat) : BytesB (noughtsF w n) w.heap.size (List.replicate n 0) := by
  unfold BytesB noughtsF
  have e : (cellsF (List.replicate n 0)).toArray = madeCells (Value.int .u8 0).cells n := by
    have e : (Value.int .u8 0).cells = #[.int .u8 0] := rfl
    unfold madeCells cellsF
    rw [e]
    apply Array.ext'
    simp [Nat.mod_one]
    exact (List.eq_replicate_iff.2 ⟨by simp, by simp⟩).symm
  rw [e]
  exact Is.fresh w _ _
theorem BytesB.text {w : World} {g : Nat} {l : List UInt8} (h : BytesB w g l) (cap : Nat) : (convert 48 9 (.slice (some ⟨g, 0, none⟩) l.length cap)).run Tryd.prog w = .ok (.string (strL l)) w :=
  conv_atF fun j hj => by
    rw [Is.cell h, List.getElem?_toArray]
    unfold cellsF
    rw [List.getElem?_map, List.getElem?_eq_getElem hj]
    rfl
/-- Whether a raster may be. -/
def checkA (a b : Int) (pix : ByteArray) : Int := if rightH a b 16 6 0 ≠ 0 then rightH a b 16 6 0 else if (pix.size : Int) ≠ 8 * a * b then 24 else 0
end Go.Proofs.YtmdiilnipoblbaaDoor
set_option maxRecDepth 100000
set_option linter.unusedVariables false
namespace Go.Proofs.YtmdiilnipoblbaaDoor
set_option maxRecDepth 100000
open Go Go.RowKit
/-- One string appended. -/
theorem wpList_append_st {w0 : World} (w : World) {ops : Array Oper} {rest : List Oper} {o : Oper} {a : Act} {Q : Exit → Act → World → Prop} (hgd : o.guard = none) (sl x : Operand)
    (ho : o.op = .call { callee := .builtin .append, args := #[sl, x], argTypes := #[24, 24] })
    (v : Value) (n : Nat) (L : List ByteArray) (hs : a.eval sl = v) (hn : L.length = n) (hO : OwnSt w w0.heap.size v L) (hB : But [] w0 w) (y : ByteArray) {g : Nat} (hx : a.eval x = .slice (some ⟨g, 0, none⟩) 1 1) (hI : Is w g 9 #[.string y]) (hbound : n < 1000000)
    (h : ∀ A c w', n + 1 ≤ c → Hid (OwnSt w' w0.heap.size (.slice A (n + 1) c) (L ++ [y])) → Hid (But [] w0 w') → wpList Tryd.prog ops Q rest (a.put o.dst (.slice A (n + 1) c)) w') : wpList Tryd.prog ops Q (o :: rest) a w := by
  obtain ⟨i0, hi0, hz0, hz1, hz2⟩ := info_parts info_strS
  subst hn
  refine wpList_append_own_at w hgd sl x 24 ho w0.heap.size 9 i0 _ 1 16 Tryd.underlying24 hi0 hz0 hz1 hz2 rfl (by decide) v L.length (stCells L) hs hO ⟨g, 0, none⟩ 1 1 [.string y] hx rfl (news_s hI) (by simp [Value.oneCell']) (by unfold maxLen; omega) (by omega) hB.size ?_
  intro v' w' hown hgrow _ hat
  have hO2 : OwnSt w' w0.heap.size v' (L ++ [y]) := by
    unfold OwnSt
    rw [List.length_append, stCells_append]
    exact hown
  obtain ⟨A, c, rfl, hc⟩ := hO2.shape
  have key := h A c w'
  rw [List.length_append] at hO2 hc ⊢
  exact key hc (Lib.hid hO2) (Lib.hid (hB.grown hgrow (fun k e => .inr (hO.lt k e))))
/-- What is told of a name. -/
noncomputable def nameA (l : List UInt8) : Int := open Classical in if okName l then 0 else 40
theorem nameA_ok {l : List UInt8} (h : okName l) : nameA l = 0 := by unfold nameA; rw [if_pos h]
theorem nameA_bad {l : List UInt8} (h : ¬ okName l) : nameA l = 40 := by unfold nameA; rw [if_neg h]
end Go.Proofs.YtmdiilnipoblbaaDoor
set_option maxRecDepth 100000
set_option linter.unusedVariables false
namespace Go.Proofs.YtmdiilnipoblbaaDoor
set_option maxRecDepth 100000
open Go Go.RowKit
theorem cutB_from (s : List UInt8) {i : Nat} (W : World) (hi : i ≤ s.length) : (Instr.slice 9 (.string (strL s)) (some (.int .i64 (i : Int))) none none).run Tryd.prog W = .ok (.string (strL (s.drop i))) W := by
  rw [run_slice_string_from_if W 9 (strL s) .i64 (i : Int) Tryd.underlying9, if_pos (by rw [strL_size]; omega), Int.toNat_natCast, ext_list, strL_list, List.take_of_length_le (by rw [strL_size]; exact Nat.le_refl _)]
theorem cutB_to (s : List UInt8) {j : Nat} (W : World) (hj : j ≤ s.length) : (Instr.slice 9 (.string (strL s)) none (some (.int .i64 (j : Int))) none).run Tryd.prog W = .ok (.string (strL (s.take j))) W := by
  rw [run_slice_string_to_if W 9 (strL s) .i64 (j : Int) Tryd.underlying9, if_pos (by rw [strL_size]; omega), Int.toNat_natCast, ext_list, strL_list, List.drop_zero]
/-- The first bands. -/
def cutU (W : Nat) (s : List UInt8) (k : Nat) : List ByteArray := (List.range k).map fun i => strL (bandB W i s)
theorem cutU_len (W : Nat) (s : List UInt8) (k : Nat) : (cutU W s k).length = k := by unfold cutU; rw [List.length_map, List.length_range]
theorem cutU_all (W H : Nat) (s : List UInt8) : cutU W s (manyB H) = (bandsB W H s).map strL := by unfold cutU bandsB; rw [List.map_map]; rfl
end Go.Proofs.YtmdiilnipoblbaaDoor
set_option linter.unusedVariables false
namespace Go.Proofs.YtmdiilnipoblbaaDoor
set_option maxRecDepth 100000
open Go
section
variable {P : Program} {ops : Array Oper} {Q : Exit → Act → World → Prop} {md : Region.Mode} {S : World → Prop}
/-- One that reads; how it reads is told last. -/
theorem rdq (i : Nat) (v : Value) {oi : Oper} {f : Nat} {listed : Array Bool} {a : Act} {w : World}
    (hv : ∀ w, S w → (execOp a.eval oi).run P w = .ok (.value v) w)
    (h : wpM P md ops Q S (fun v v' => But [] v v') f (listed.setIfInBounds i true) (a.put oi.dst v) w)
    (hi : ops[i]? = some oi := by rfl) (hs : Region.noSelect ops = true := by kernel_rfl) (hf : Region.free md ops listed i = true := by kernel_rfl)
    (hr : (Region.ready md ops listed).contains i = true := by kernel_rfl) (hw : Region.wanted oi (yielded ops a.tmps) = true := by first | kernel_rfl | go_simp)
    (hQ : ∀ c a w, Q (.panic c) (a.put oi.dst v) w → Q (.panic c) a w := by exact fun _ _ _ h => h) : wpM P md ops Q S (fun v v' => But [] v v') (f + 1) listed a w :=
  wpM_take (fun w => But.refl [] w) (fun x y z h k => h.trans k) hi hs hf hr hQ (YieldsR.read (fun w => But.refl [] w) hw hv) h
/-- One that reads nothing but the frame. -/
theorem rdk (i : Nat) (v : Value) {oi : Oper} {f : Nat} {listed : Array Bool} {a : Act} {w : World}
    (h : wpM P md ops Q S (fun v v' => But [] v v') f (listed.setIfInBounds i true) (a.put oi.dst v) w)
    (hi : ops[i]? = some oi := by rfl) (hs : Region.noSelect ops = true := by kernel_rfl) (hf : Region.free md ops listed i = true := by kernel_rfl)
    (hr : (Region.ready md ops listed).contains i = true := by kernel_rfl) (hw : Region.wanted oi (yielded ops a.tmps) = true := by first | kernel_rfl | go_simp)
    (hv : ∀ w, S w → (execOp a.eval oi).run P w = .ok (.value v) w := by intro w hS; go_simp)
    (hQ : ∀ c a w, Q (.panic c) (a.put oi.dst v) w → Q (.panic c) a w := by exact fun _ _ _ h => h) : wpM P md ops Q S (fun v v' => But [] v v') (f + 1) listed a w :=
  rdq i v hv h hi hs hf hr hw hQ
end
end Go.Proofs.YtmdiilnipoblbaaDoor
set_option maxRecDepth 100000
set_option linter.unusedVariables false
namespace Go.Proofs.YtmdiilnipoblbaaDoor
set_option maxRecDepth 100000
open Go Go.RowKit
/-- A manifest's first bytes. -/
def manU (W H : Nat) (s : List UInt8) (k : Nat) : ByteArray := strL (fourL W ++ (fourL H ++ ((List.range k).map fun i => bandB W i s).flatMap shaT))
theorem manU_next (W H : Nat) (s : List UInt8) (k : Nat) : manU W H s (k + 1) = manU W H s k ++ strL (shaT (bandB W k s)) := by
  unfold manU
  rw [← strL_append, List.range_succ, List.map_append, List.flatMap_append, List.append_assoc, List.append_assoc]
  simp
theorem manU_all (W H : Nat) (s : List UInt8) : manU W H s (manyB H) = strL (manB W H s) := rfl
theorem manU_size (W H : Nat) (s : List UInt8) (k : Nat) : (manU W H s k).size = 8 + 32 * k := by
  unfold manU
  rw [strL_size, List.length_append, List.length_append, fourL_length, fourL_length, hashes_len, List.length_map, List.length_range]
  omega
theorem cutU_at {W : Nat} {s : List UInt8} {k i : Nat} (h : i < k) : (cutU W s k)[i]? = some (strL (bandB W i s)) := by
  unfold cutU
  rw [List.getElem?_map, List.getElem?_range h]
  rfl
end Go.Proofs.YtmdiilnipoblbaaDoor
set_option maxRecDepth 100000
set_option linter.unusedVariables false
namespace Go.Proofs.YtmdiilnipoblbaaDoor
set_option maxRecDepth 100000
open Go Go.RowKit
/-- The strings that a slice holds. -/
def Sr (w : World) (A : Option Addr) (n : Nat) (L : List ByteArray) : Prop := L.length = n ∧ (0 < n → ∃ g o, A = some ⟨g, o, none⟩ ∧ g < w.heap.size ∧ ∀ i (hi : i < L.length), w.cell? ⟨g, o + i, none⟩ = some (.string L[i]))
theorem Sr.at {w : World} {A : Option Addr} {n : Nat} {L : List ByteArray} (h : Sr w A n L) {i : Nat} {c : ByteArray} (hi : L[i]? = some c) :
    ∃ g o, A = some ⟨g, o, none⟩ ∧ g < w.heap.size ∧ w.cell? ⟨g, o + i, none⟩ = some (.string c) := by
  obtain ⟨hl, hx⟩ := List.getElem?_eq_some_iff.1 hi
  obtain ⟨g, o, e, hg, hc⟩ := h.2 (by have := h.1; omega)
  exact ⟨g, o, e, hg, by rw [← hx]; exact hc i hl⟩
theorem Sr.but {w w' : World} {A : Option Addr} {n : Nat} {L : List ByteArray} (h : Sr w A n L) (hw : But [] w w') : Sr w' A n L := by
  refine ⟨h.1, fun hp => ?_⟩
  obtain ⟨g, o, e, hg, hc⟩ := h.2 hp
  exact ⟨g, o, e, Nat.lt_of_lt_of_le hg hw.size, fun i hi => hw.cell (hc i hi) (by simp)⟩
end Go.Proofs.YtmdiilnipoblbaaDoor
set_option maxRecDepth 100000
set_option linter.unusedVariables false
namespace Go.Proofs.YtmdiilnipoblbaaDoor
set_option maxRecDepth 100000
open Go Go.RowKit
theorem wrapW (x : Nat) : IntKind.u32.wrap (x : Int) = ((x % 4294967296 : Nat) : Int) := by rw [IntKind.wrap_u32]; omega
theorem wrapW_in {x : Nat} (h : x < 4294967296) : IntKind.u32.wrap (x : Int) = (x : Int) := by rw [IntKind.wrap_u32]; omega
theorem rotT_or {x n : Nat} (hx : x < 4294967296) : rotT x n = (x / 2 ^ n) ||| (x * 2 ^ (32 - n) % 4294967296) := by
  unfold rotT
  rw [Nat.shiftRight_eq_div_pow, Nat.shiftLeft_eq, show (4294967296 : Nat) = 2 ^ 32 from rfl, Nat.or_mod_two_pow, Nat.mod_eq_of_lt]
  exact Nat.lt_of_le_of_lt (Nat.div_le_self _ _) hx
set_option maxHeartbeats 1000000 in
theorem protr_any (w : World) {x n : Nat} (hx : x < 4294967296) (hn : n ≤ 31) :
    Calls Tryd.prog 60 #[.int .u32 x, .int .i64 n] w fun e w' => e = .returned (.int .u32 (rotT x n : Nat)) ∧ ∃ q, w' = w.drewN q := by
  obtain ⟨m, hm⟩ : ∃ m, m = 32 - n := ⟨_, rfl⟩
  obtain ⟨a, ha⟩ : ∃ a, a = x / 2 ^ n := ⟨_, rfl⟩
  obtain ⟨p, hp⟩ : ∃ p, p = x * 2 ^ m := ⟨_, rfl⟩
  obtain ⟨b, hb⟩ : ∃ b, b = p % 4294967296 := ⟨_, rfl⟩
  have hal : a < 4294967296 := by rw [ha]; exact Nat.lt_of_le_of_lt (Nat.div_le_self _ _) hx
  have hbl : b < 4294967296 := by rw [hb]; exact Nat.mod_lt _ (by decide)
  have HR : Hid (bits .or .u32 (a : Int) (b : Int) = ((rotT x n : Nat) : Int)) := Lib.hid (by rw [u32_or_nat a b hal hbl, rotT_or hx, ← hm, ← ha, ← hp, ← hb])
  have f1 : (x : Int) / 2 ^ n = (a : Int) := by rw [ha]; simp
  have f2 : (x : Int) * 2 ^ m = (p : Int) := by rw [hp]; simp
  have f3 : IntKind.u32.wrap (p : Int) = (b : Int) := by rw [wrapW, hb]
  have f4 : IntKind.u32.wrap (a : Int) = (a : Int) := wrapW_in hal
  have f5 : (32 : Int) - (n : Int) = (m : Int) := by omega
  have f6 : IntKind.i64.wrap (m : Int) = (m : Int) := wrapI_in (by omega)
  clear hm ha hp hb
  go_enter Tryd.func60, Tryd.ntmps60
  go_wp2
  go_quiet (fail)
  go_wp2
  go_ret
  exact ⟨congrArg (fun z => Ending.returned (.int .u32 z)) HR.out, nq, rfl⟩
set_option maxHeartbeats 1000000 in
theorem pnumW_any (w : World) {n : Nat} (hn : n < 4294967296) :
    Calls Tryd.prog 52 #[.int .u32 n] w fun e w' => e = .returned (.string (strL (fourL n))) ∧ But [] w w' := by
  obtain ⟨a, ha⟩ : ∃ a, a = n / 16777216 % 256 := ⟨_, rfl⟩
  obtain ⟨b, hb⟩ : ∃ a, a = n / 65536 % 256 := ⟨_, rfl⟩
  obtain ⟨c, hc⟩ : ∃ a, a = n / 256 % 256 := ⟨_, rfl⟩
  obtain ⟨d, hd⟩ : ∃ a, a = n % 256 := ⟨_, rfl⟩
  have b1 : IntKind.u8.wrap ((n : Int) / 16777216) = (a : Int) := by simp [IntKind.wrap_u8]; omega
  have b2 : IntKind.u8.wrap ((n : Int) / 65536) = (b : Int) := by simp [IntKind.wrap_u8]; omega
  have b3 : IntKind.u8.wrap ((n : Int) / 256) = (c : Int) := by simp [IntKind.wrap_u8]; omega
  have b4 : IntKind.u8.wrap (n : Int) = (d : Int) := by simp [IntKind.wrap_u8]; omega
  have kc := fun W : World => conv_fourZ W ha hb hc hd
  have HB := Lib.hid ((But.refl [] w).alloc (.cells #[.int .u8 a, .int .u8 b, .int .u8 c, .int .u8 d] 5))
  clear ha hb hc hd
  go_enter Tryd.func52, Tryd.ntmps52
  go_wp2
  go_ret
  exact ⟨rfl, HB.out⟩
theorem or_numW (x y i : Nat) (hi : i ≤ 31) (hx : x % 2 ^ i = 0) (hx1 : x < 4294967296) (hy : y < 2 ^ i) : Go.bits .or .u32 (x : Int) (y : Int) = ((x + y : Nat) : Int) := by
  have hp : 2 ^ i ≤ 2 ^ 31 := Nat.pow_le_pow_right (by decide) hi
  rw [u32_or_nat _ _ hx1 (by omega), nat_join i x y hx hy]
set_option maxHeartbeats 1000000 in
theorem pvalueW_any (w : World) {s : List UInt8} (hs : s.length = 4) :
    Calls Tryd.prog 61 #[.string (strL s)] w fun e w' => e = .returned (.int .u32 (ofL s : Nat)) ∧ ∃ q, w' = w.drewN q := by
  match s, hs with
  | [p, q, r, t], _ =>
    have k0 : ∀ W, (Instr.index 9 (.string (strL [p, q, r, t])) (.int .i64 0)).run Tryd.prog W = .ok (.int .u8 (p.toNat : Nat)) W := fun W => byteR_run (s := strL [p, q, r, t]) (k := 0) (by rw [strL_size]; simp) W
    have k1 : ∀ W, (Instr.index 9 (.string (strL [p, q, r, t])) (.int .i64 1)).run Tryd.prog W = .ok (.int .u8 (q.toNat : Nat)) W := fun W => byteR_run (s := strL [p, q, r, t]) (k := 1) (by rw [strL_size]; simp) W
    have k2 : ∀ W, (Instr.index 9 (.string (strL [p, q, r, t])) (.int .i64 2)).run Tryd.prog W = .ok (.int .u8 (r.toNat : Nat)) W := fun W => byteR_run (s := strL [p, q, r, t]) (k := 2) (by rw [strL_size]; simp) W
    have k3 : ∀ W, (Instr.index 9 (.string (strL [p, q, r, t])) (.int .i64 3)).run Tryd.prog W = .ok (.int .u8 (t.toNat : Nat)) W := fun W => byteR_run (s := strL [p, q, r, t]) (k := 3) (by rw [strL_size]; simp) W
    have hof : ofL [p, q, r, t] = 256 * (256 * (256 * (256 * 0 + p.toNat) + q.toNat) + r.toNat) + t.toNat := rfl
    have l0 := p.toNat_lt; have l1 := q.toNat_lt; have l2 := r.toNat_lt; have l3 := t.toNat_lt
    obtain ⟨S, hS⟩ : ∃ S, S = strL [p, q, r, t] := ⟨_, rfl⟩
    obtain ⟨n, hn⟩ : ∃ n, n = ofL [p, q, r, t] := ⟨_, rfl⟩
    rw [← hn] at hof ⊢
    rw [← hS]
    simp only [← hS] at k0 k1 k2 k3
    obtain ⟨a, ha⟩ : ∃ a, a = p.toNat := ⟨_, rfl⟩
    obtain ⟨b, hb⟩ : ∃ a, a = q.toNat := ⟨_, rfl⟩
    obtain ⟨c, hc⟩ : ∃ a, a = r.toNat := ⟨_, rfl⟩
    obtain ⟨d, hd⟩ : ∃ a, a = t.toNat := ⟨_, rfl⟩
    rw [← ha] at l0 hof
    rw [← hb] at l1 hof
    rw [← hc] at l2 hof
    rw [← hd] at l3 hof
    simp only [← ha] at k0
    simp only [← hb] at k1
    simp only [← hc] at k2
    simp only [← hd] at k3
    clear hS hn ha hb hc hd
    have HN := Lib.hid (show Go.bits .or .u32 (Go.bits .or .u32 (Go.bits .or .u32 ((a : Int) * 16777216) ((b : Int) * 65536)) ((c : Int) * 256)) (d : Int) = (n : Int) by
      have o1 := or_numW (a * 16777216) (b * 65536) 24 (by decide) (by omega) (by omega) (by omega)
      have o2 := or_numW (a * 16777216 + b * 65536) (c * 256) 16 (by decide) (by omega) (by omega) (by omega)
      have o3 := or_numW (a * 16777216 + b * 65536 + c * 256) d 8 (by decide) (by omega) (by omega) (by omega)
      rw [show (a : Int) * 16777216 = ((a * 16777216 : Nat) : Int) by omega, show (b : Int) * 65536 = ((b * 65536 : Nat) : Int) by omega, show (c : Int) * 256 = ((c * 256 : Nat) : Int) by omega, o1, o2, o3, hof]
      omega)
    clear hof
    have u1 : IntKind.u32.wrap (a : Int) = (a : Int) := wrapW_in (by omega)
    have u2 : IntKind.u32.wrap (b : Int) = (b : Int) := wrapW_in (by omega)
    have u3 : IntKind.u32.wrap (c : Int) = (c : Int) := wrapW_in (by omega)
    have u4 : IntKind.u32.wrap (d : Int) = (d : Int) := wrapW_in (by omega)
    have v1 : IntKind.u32.wrap ((a : Int) * 16777216) = (a : Int) * 16777216 := by rw [IntKind.wrap_u32]; omega
    have v2 : IntKind.u32.wrap ((b : Int) * 65536) = (b : Int) * 65536 := by rw [IntKind.wrap_u32]; omega
    have v3 : IntKind.u32.wrap ((c : Int) * 256) = (c : Int) * 256 := by rw [IntKind.wrap_u32]; omega
    go_enter Tryd.func61, Tryd.ntmps61
    go_wp2
    go_quiet (fail)
    go_wp2
    go_ret
    exact ⟨congrArg (fun z => Ending.returned (.int .u32 z)) HN.out, nq, rfl⟩
end Go.Proofs.YtmdiilnipoblbaaDoor
set_option maxRecDepth 100000
set_option linter.unusedVariables false
namespace Go.Proofs.YtmdiilnipoblbaaDoor
set_option maxRecDepth 100000
open Go Go.Shelf Go.RowKit
def laysM316_ren : Go.Shelf.Ren := ⟨fun | 316 => 55 | n => n, fun | 9 => 9 | 3 => 3 | 4 => 4 | 37 => 48 | 0 => 0 | 127 => 75 | 5 => 5 | n => n, fun | n => n⟩
theorem laysM316 : Go.Proofs.LaysM.n316 Tryd.prog laysM316_ren := {
  mixed := by kernel_rfl
  f316 := Tryd.func55.trans (congrArg some (by kernel_rfl))
  t0 := Tryd.underlying0
  a0 := Tryd.isAgg0
  z0 := Tryd.sizeOf0
  v0 := Tryd.zeroValue0
  t3 := Tryd.underlying3
  a3 := Tryd.isAgg3
  z3 := Tryd.sizeOf3
  v3 := Tryd.zeroValue3
  t4 := Tryd.underlying4
  a4 := Tryd.isAgg4
  z4 := Tryd.sizeOf4
  v4 := Tryd.zeroValue4
  t9 := Tryd.underlying9
  a9 := Tryd.isAgg9
  z9 := Tryd.sizeOf9
  v9 := Tryd.zeroValue9
  t37 := Tryd.underlying48
  a37 := Tryd.isAgg48
  z37 := Tryd.sizeOf48
  v37 := Tryd.zeroValue48
  t127 := Tryd.underlying75
  a127 := Tryd.isAgg75
  z127 := Tryd.sizeOf75
  v127 := Tryd.zeroValue75
  t5 := Tryd.underlying5
  a5 := Tryd.isAgg5
  z5 := Tryd.sizeOf5
  v5 := Tryd.zeroValue5
  i0 := by kernel_rfl
  i3 := by kernel_rfl
  i4 := by kernel_rfl
  i5 := by kernel_rfl
  i9 := by kernel_rfl
  i37 := by kernel_rfl
  i127 := by kernel_rfl }
theorem stringslite_Clone (s : ByteArray) (w : World) (hlim : s.size ≤ 281474976710656) :
    Calls Tryd.prog 55 #[.string s] w fun e w' => e = .returned (.string s) ∧ Below w.heap.size w w' := Any.stringslite_Clone laysM316 s w hlim
end Go.Proofs.YtmdiilnipoblbaaDoor
set_option maxRecDepth 100000
namespace Go.Proofs.YtmdiilnipoblbaaDoor
set_option maxRecDepth 100000
open Go Go.RowKit Go.ChangeShapes Go.WideShapes
/-- A slice reads as these chunks. -/
def Cks (w : World) (A : Option Addr) (n : Nat) (L : List Ck) : Prop :=
  L.length = n ∧ (0 < n → ∃ g o, A = some ⟨g, o, none⟩ ∧ g < w.heap.size ∧ ∀ (i : Nat) (h : i < L.length), w.cell? ⟨g, o + i * 2, none⟩ = some (.string (strL L[i].1)) ∧ w.cell? ⟨g, o + i * 2 + 1, none⟩ = some (.string (strL L[i].2)))
theorem Cks.but {w w' : World} {A : Option Addr} {n : Nat} {L : List Ck} (h : Cks w A n L) (hw : But [] w w') : Cks w' A n L :=
  ⟨h.1, fun hn => by
    obtain ⟨g, o, e, hg, hc⟩ := h.2 hn
    exact ⟨g, o, e, Nat.lt_of_lt_of_le hg hw.size, fun i hi => ⟨hw.cell (hc i hi).1 (by simp), hw.cell (hc i hi).2 (by simp)⟩⟩⟩
theorem Cks.at {w : World} {A : Option Addr} {n : Nat} {L : List Ck} (h : Cks w A n L) {i : Nat} (hi : i < n) :
    ∃ g o c, A = some ⟨g, o, none⟩ ∧ g < w.heap.size ∧ w.cell? ⟨g, o + i * 2, none⟩ = some (.string (strL c.1)) ∧ w.cell? ⟨g, o + i * 2 + 1, none⟩ = some (.string (strL c.2)) ∧ L[i]? = some c := by
  obtain ⟨g, o, e, hg, hc⟩ := h.2 (by omega)
  have hl : i < L.length := by have := h.1; omega
  exact ⟨g, o, _, e, hg, (hc i hl).1, (hc i hl).2, List.getElem?_eq_getElem hl⟩
theorem Cks.nil (w : World) (A : Option Addr) : Cks w A 0 [] := ⟨rfl, fun h => absurd h (by omega)⟩
end Go.Proofs.YtmdiilnipoblbaaDoor
set_option maxRecDepth 100000
set_option linter.unusedVariables false
namespace Go.Proofs.YtmdiilnipoblbaaDoor
set_option maxRecDepth 100000
open Go Go.RowKit
theorem info_byteB : (Tryd.prog.info? 5).map (fun i => (i.zero, i.size, i.bytes)) = some (some (.int .u8 0), 1, 1) := by kernel_rfl
theorem size_bld : (Tryd.prog.info? 58).map (·.size) = some 2 := by kernel_rfl
theorem lies_bld : liesAt Tryd.prog Tryd.prog.depth 58 (2 / Tryd.prog.cellsOf 58) 0 58 1 = true := by kernel_rfl
set_option maxHeartbeats 1000000 in
theorem bld_used (b : Nat) (w : World) (h0 : w.cell? ⟨b, 0, none⟩ = some (.pointer (some ⟨b, 0, none⟩))) :
    Calls Tryd.prog 49 #[.pointer (some ⟨b, 0, none⟩)] w fun e w' => e = .returned (.tuple #[]) ∧ w' = w := by
  obtain ⟨j, hj, _⟩ := Option.map_eq_some_iff.1 size_bld
  go_enter Tryd.func49, Tryd.ntmps49
  go_wp2
  rw [Lib.run_neq_ptr_same w _ Tryd.underlying56 hj]
  go_wp2
  go_end0
  exact ⟨rfl, rfl⟩
set_option maxHeartbeats 1000000 in
theorem bld_fresh (b : Nat) (w : World) (h0 : w.cell? ⟨b, 0, none⟩ = some (.pointer none)) (hsh : w.shape? b = some (58, 2)) (hfz : w.frozen? ⟨b, 0, none⟩ = false) :
    Calls Tryd.prog 49 #[.pointer (some ⟨b, 0, none⟩)] w fun e w' => e = .returned (.tuple #[]) ∧ w' = w.setCell ⟨b, 0, none⟩ (.pointer (some ⟨b, 0, none⟩)) := by
  obtain ⟨j, hj, hjs⟩ := Option.map_eq_some_iff.1 size_bld
  go_enter Tryd.func49, Tryd.ntmps49
  go_wp2
  rw [Lib.run_to_unsafe w ⟨b, 0, none⟩ Tryd.underlying56 Tryd.underlying87 hj (by rw [hjs]; decide) hsh (Nat.zero_lt_succ 1)]
  simp only [Result.andThen]
  rw [Oper.upon_value]
  go_wp2
  rw [run_callFunc_extern Tryd.func59 (by kernel_rfl) (by kernel_rfl) (by kernel_rfl) (e := Extern.AbiNoEscape.same) (by kernel_rfl)]
  rw [Lib.run_noEscape]
  simp only [Result.andThen]
  rw [Oper.upon_value]
  go_wp2
  rw [Lib.run_from_unsafe w ⟨b, 0, none⟩ Tryd.underlying87 Tryd.underlying56 hj hsh lies_bld]
  simp only [Result.andThen]
  rw [Oper.upon_value]
  go_wp2
  go_end0
  exact ⟨rfl, rfl⟩
end Go.Proofs.YtmdiilnipoblbaaDoor
set_option maxRecDepth 100000
set_option linter.unusedVariables false
namespace Go.Proofs.YtmdiilnipoblbaaDoor
set_option maxRecDepth 100000
open Go Go.RowKit
/-- A builder of the call's own, that holds these bytes. -/
def Bld (w : World) (base b : Nat) (l : List UInt8) : Prop := Lib.IsBuilder 58 5 base b (Lib.byteCells l) w
theorem bldAt_but {w w' : World} {base b : Nat} {p : Value} {bs : List Value} (h : Lib.BuilderAt 58 5 base b p bs w) (hw : But [] w w') : Lib.BuilderAt 58 5 base b p bs w' := by
  have hlt := h.lt
  obtain ⟨hB, v, hb, hown, hne⟩ := h
  refine ⟨hB, v, (hw.block b hlt (by simp)).trans hb, ?_, hne⟩
  refine ⟨hown.1, ?_⟩
  rcases hown.2 with h2 | ⟨g, cap, cur, hv, hg, hh, r⟩
  · exact .inl h2
  · refine .inr ⟨g, cap, cur, hv, hg, ?_, r⟩
    have hlt : g < w.heap.size := (hown.lt g (by rw [hv]; rfl)).2
    rw [hw.block g hlt (by simp)]
    exact hh
theorem Bld.but {w w' : World} {base b : Nat} {l : List UInt8} (h : Bld w base b l) (hw : But [] w w') : Bld w' base b l := by
  rcases h with h | h
  · exact .inl (bldAt_but h hw)
  · exact .inr (bldAt_but h hw)
theorem Bld.lt {w : World} {base b : Nat} {l : List UInt8} (h : Bld w base b l) : base ≤ b ∧ b < w.heap.size := by
  rcases h with h | h
  · exact ⟨h.1, h.lt⟩
  · exact ⟨h.1, h.lt⟩
theorem Bld.fresh (w : World) {base : Nat} (hb : base ≤ w.heap.size) : Bld (w.alloc (.cells #[.pointer none, .slice none 0 0] 58)) base w.heap.size [] :=
  Or.inl ⟨hb, .slice none 0 0, heap_alloc_new w _, World.ownsRow_nil _ _ _ _, by simp [Value.ownBlock]⟩
end Go.Proofs.YtmdiilnipoblbaaDoor
set_option maxRecDepth 100000
set_option linter.unusedVariables false
namespace Go.Proofs.YtmdiilnipoblbaaDoor
set_option maxRecDepth 100000
open Go Go.RowKit
set_option maxHeartbeats 1000000 in
theorem pside_any (w : World) (n : Int) : Calls Tryd.prog 53 #[.int .i64 n] w fun e w' => e = .returned (.bool (decide (1 ≤ n ∧ n ≤ 2147483647))) ∧ w = w' := by
  obtain ⟨s, hs⟩ : ∃ s, s = decide (1 ≤ n ∧ n ≤ 2147483647) := ⟨_, rfl⟩
  rw [← hs]
  by_cases h1 : 1 ≤ n
  · by_cases h2 : n ≤ 2147483647
    · have HN := Lib.hid (show s = true by rw [hs]; exact decide_eq_true ⟨h1, h2⟩)
      clear hs
      go_enter Tryd.func53, Tryd.ntmps53
      go_wp2
      go_ret
      exact ⟨by rw [HN.out]; rfl, rfl⟩
    · have HN := Lib.hid (show s = false by rw [hs]; exact decide_eq_false fun h => h2 h.2)
      clear hs
      go_enter Tryd.func53, Tryd.ntmps53
      go_wp2
      go_ret
      exact ⟨by rw [HN.out]; rfl, rfl⟩
  · have HN := Lib.hid (show s = false by rw [hs]; exact decide_eq_false fun h => h1 h.1)
    clear hs
    go_enter Tryd.func53, Tryd.ntmps53
    go_wp2
    go_ret
    exact ⟨by rw [HN.out]; rfl, rfl⟩
theorem take_in {l : List Int} {i : Nat} {x : Int} (h : i < l.length) (h1 : ¬ x ∈ l.take i) (h2 : ¬ x = l[i]) : ¬ x ∈ l.take (i + 1) := by
  rw [List.take_add_one, List.getElem?_eq_getElem h]
  simp only [Option.toList_some, List.mem_append, List.mem_singleton]
  rintro (h | h)
  · exact h1 h
  · exact h2 h
set_option maxHeartbeats 1000000 in
theorem pindex_any (w : World) {g n cap : Nat} {l : List Int} {x : Int} (hn : l.length = n) (hb : n ≤ 16) (hc : ∀ (j : Nat) (h : j < l.length), w.cell? ⟨g, j, none⟩ = some (.int .i64 l[j])) :
    Calls Tryd.prog 67 #[.slice (some ⟨g, 0, none⟩) n cap, .int .i64 x] w fun e w' => ∃ r : Int, e = .returned (.int .i64 r) ∧ (0 ≤ r ↔ x ∈ l) ∧ w = w' := by
  have HN := Lib.hid hn
  have HC := Lib.hid hc
  clear hn hc
  go_enter Tryd.func67, Tryd.ntmps67
  go_wp2
  go_loop [8] (fun iv => ∃ i : Nat, i ≤ n ∧ iv = .int .i64 i ∧ Hid (¬ x ∈ l.take i)) (fun iv => n - (intOf iv).toNat)
  case atStart => exact ⟨0, Nat.zero_le _, rfl, Lib.hid (by simp)⟩
  case round =>
    obtain ⟨i, hi, rfl, HT⟩ := hrel
    by_cases hlt : i < n
    · have hil : i < l.length := by rw [HN.out]; exact hlt
      have c := HC.out i hil
      have ht := take_in (x := x) hil HT.out
      have hm : l[i] ∈ l := List.getElem_mem hil
      obtain ⟨y, hy⟩ : ∃ y, y = l[i] := ⟨_, rfl⟩
      rw [← hy] at c ht hm
      have HM := Lib.hid hm
      have HTT := Lib.hid ht
      have k0 : (0 : Int) ≤ (i : Int) := by omega
      have k1 : (i : Int) < (n : Int) := by omega
      clear hy hil hm ht
      by_cases he : x = y
      · subst he
        have HM := Lib.hid (show 0 ≤ (i : Int) ↔ x ∈ l from ⟨fun _ => HM.out, fun _ => k0⟩)
        go_wp2
        go_ret
        exact ⟨(i : Int), rfl, HM.out, rfl⟩
      · have HZ := Lib.hid (HTT.out he)
        go_wp2
        go_round
        case rel => exact ⟨i + 1, by omega, by go_num, HZ⟩
        case measure => simp [intOf]; omega
    · obtain rfl : i = n := by omega
      have HM := Lib.hid (show 0 ≤ (-1 : Int) ↔ x ∈ l by
        have e : l.take i = l := List.take_of_length_le (by rw [HN.out]; exact Nat.le_refl _)
        have h := HT.out
        rw [e] at h
        exact ⟨fun h1 => absurd h1 (by decide), fun h1 => absurd h1 h⟩)
      go_wp2
      go_ret
      exact ⟨-1, rfl, HM.out, rfl⟩
set_option maxHeartbeats 1000000 in
theorem pcontains_any (w : World) {g n cap : Nat} {l : List Int} {x : Int} (hI : Is w g 3 (l.map (Value.int .i64)).toArray) (hn : l.length = n) (hb : n ≤ 16) :
    Calls Tryd.prog 62 #[.slice (some ⟨g, 0, none⟩) n cap, .int .i64 x] w fun e w' => e = .returned (.bool (decide (x ∈ l))) ∧ w = w' := by
  have H := Lib.hid (pindex_any w (cap := cap) (x := x) hn hb (fun j h => by rw [hI.cell]; simp [h]))
  obtain ⟨m, hm⟩ : ∃ m, m = decide (x ∈ l) := ⟨_, rfl⟩
  rw [← hm]
  have HM := Lib.hid hm
  clear hI hm
  go_enter Tryd.func62, Tryd.ntmps62
  go_wp2_with (go_at_call 67; refine H.out.mono ?_; rintro e w1 ⟨r, rfl, hr, hw⟩; have hd : decide (0 ≤ r) = m := (by rw [HM.out]; exact decide_eq_decide.mpr hr); clear hr; subst hw)
  go_ret
  exact ⟨rfl, rfl⟩
set_option maxHeartbeats 1000000 in
theorem pdepth_any (w : World) (c d : Int) :
    Calls Tryd.prog 54 #[.int .i64 c, .int .i64 d] w fun e w' => e = .returned (.bool (depthOk d c)) ∧ But [] w w' := by
  have P : ∀ x y : Int, ((x = y) = True ∧ (x == y) = true) ∨ ((x = y) = False ∧ (x == y) = false) := fun x y => by by_cases h : x = y <;> simp [h]
  have PP := Lib.hid P
  have H5 : Hid (∀ W : World, Calls Tryd.prog 62 #[.slice (some ⟨W.heap.size, 0, none⟩) 5 5, .int .i64 d] (W.alloc (.cells #[.int .i64 1, .int .i64 2, .int .i64 4, .int .i64 8, .int .i64 16] 3)) fun e w' => e = .returned (.bool (decide (d ∈ [1, 2, 4, 8, 16]))) ∧ (W.alloc (.cells #[.int .i64 1, .int .i64 2, .int .i64 4, .int .i64 8, .int .i64 16] 3)) = w') := Lib.hid fun W => pcontains_any _ (l := [1, 2, 4, 8, 16]) (Is.fresh _ _ _) rfl (by decide)
  have H4 : Hid (∀ W : World, Calls Tryd.prog 62 #[.slice (some ⟨W.heap.size, 0, none⟩) 4 4, .int .i64 d] (W.alloc (.cells #[.int .i64 1, .int .i64 2, .int .i64 4, .int .i64 8] 3)) fun e w' => e = .returned (.bool (decide (d ∈ [1, 2, 4, 8]))) ∧ (W.alloc (.cells #[.int .i64 1, .int .i64 2, .int .i64 4, .int .i64 8] 3)) = w') := Lib.hid fun W => pcontains_any _ (l := [1, 2, 4, 8]) (Is.fresh _ _ _) rfl (by decide)
  have H2 : Hid (∀ W : World, Calls Tryd.prog 62 #[.slice (some ⟨W.heap.size, 0, none⟩) 2 2, .int .i64 d] (W.alloc (.cells #[.int .i64 8, .int .i64 16] 3)) fun e w' => e = .returned (.bool (decide (d ∈ [8, 16]))) ∧ (W.alloc (.cells #[.int .i64 8, .int .i64 16] 3)) = w') := Lib.hid fun W => pcontains_any _ (l := [8, 16]) (Is.fresh _ _ _) rfl (by decide)
  have HB := Lib.hid (But.refl [] w)
  obtain ⟨m5, hm5⟩ : ∃ m, m = decide (d ∈ [1, 2, 4, 8, 16]) := ⟨_, rfl⟩
  obtain ⟨m4, hm4⟩ : ∃ m, m = decide (d ∈ [1, 2, 4, 8]) := ⟨_, rfl⟩
  obtain ⟨m2, hm2⟩ : ∃ m, m = decide (d ∈ [8, 16]) := ⟨_, rfl⟩
  rw [← hm5] at H5
  rw [← hm4] at H4
  rw [← hm2] at H2
  have HM5 := Lib.hid hm5
  have HM4 := Lib.hid hm4
  have HM2 := Lib.hid hm2
  clear P hm5 hm4 hm2
  rcases PP.out c 0 with ⟨p0, r0⟩ | ⟨p0, r0⟩
  · have HG := Lib.hid (show m5 = depthOk d c by rw [HM5.out, of_eq_true p0]; unfold depthOk; simp)
    go_enter Tryd.func54, Tryd.ntmps54
    go_wp2_with (go_at_call 62; refine (H5.out _).mono ?_; rintro e w1 ⟨rfl, hw⟩; subst hw)
    go_ret
    exact ⟨by rw [← HG.out]; rfl, HB.out.alloc _⟩
  rcases PP.out c 2 with ⟨p2, r2⟩ | ⟨p2, r2⟩
  · have HG := Lib.hid (show m2 = depthOk d c by rw [HM2.out, of_eq_true p2]; unfold depthOk; simp)
    go_enter Tryd.func54, Tryd.ntmps54
    go_wp2_with (go_at_call 62; refine (H2.out _).mono ?_; rintro e w1 ⟨rfl, hw⟩; subst hw)
    go_ret
    exact ⟨by rw [← HG.out]; rfl, HB.out.alloc _⟩
  rcases PP.out c 4 with ⟨p4, r4⟩ | ⟨p4, r4⟩
  · have HG := Lib.hid (show m2 = depthOk d c by rw [HM2.out, of_eq_true p4]; unfold depthOk; simp)
    go_enter Tryd.func54, Tryd.ntmps54
    go_wp2_with (go_at_call 62; refine (H2.out _).mono ?_; rintro e w1 ⟨rfl, hw⟩; subst hw)
    go_ret
    exact ⟨by rw [← HG.out]; rfl, HB.out.alloc _⟩
  rcases PP.out c 6 with ⟨p6, r6⟩ | ⟨p6, r6⟩
  · have HG := Lib.hid (show m2 = depthOk d c by rw [HM2.out, of_eq_true p6]; unfold depthOk; simp)
    go_enter Tryd.func54, Tryd.ntmps54
    go_wp2_with (go_at_call 62; refine (H2.out _).mono ?_; rintro e w1 ⟨rfl, hw⟩; subst hw)
    go_ret
    exact ⟨by rw [← HG.out]; rfl, HB.out.alloc _⟩
  rcases PP.out c 3 with ⟨p3, r3⟩ | ⟨p3, r3⟩
  · have HG := Lib.hid (show m4 = depthOk d c by rw [HM4.out, of_eq_true p3]; unfold depthOk; simp)
    go_enter Tryd.func54, Tryd.ntmps54
    go_wp2_with (go_at_call 62; refine (H4.out _).mono ?_; rintro e w1 ⟨rfl, hw⟩; subst hw)
    go_ret
    exact ⟨by rw [← HG.out]; rfl, HB.out.alloc _⟩
  · have HG := Lib.hid (show depthOk d c = false by
      have e0 := of_eq_false p0; have e2 := of_eq_false p2; have e3 := of_eq_false p3; have e4 := of_eq_false p4; have e6 := of_eq_false p6
      exact decide_eq_false (by omega))
    go_enter Tryd.func54, Tryd.ntmps54
    go_wp2
    go_ret
    exact ⟨by rw [HG.out]; rfl, HB.out⟩
end Go.Proofs.YtmdiilnipoblbaaDoor
set_option maxRecDepth 100000
set_option linter.unusedVariables false
namespace Go.Proofs.YtmdiilnipoblbaaDoor
set_option maxRecDepth 100000
open Go Go.RowKit
set_option maxHeartbeats 1000000 in
theorem pright_h (w : World) (a b d c l : Int) : Calls Tryd.prog 42 #[.agg #[.int .i64 a, .int .i64 b, .int .i64 d, .int .i64 c, .int .i64 l]] w fun e w' => e = .returned (.int .i64 (rightH a b d c l)) ∧ But [] w w' := by
  obtain ⟨r, hr⟩ : ∃ r, r = rightH a b d c l := ⟨_, rfl⟩
  rw [← hr]
  have HR := Lib.hid hr
  have hI := Is.fresh w 55 #[.int .i64 a, .int .i64 b, .int .i64 d, .int .i64 c, .int .i64 l]
  have HB := Lib.hid ((But.refl [] w).alloc (.cells #[.int .i64 a, .int .i64 b, .int .i64 d, .int .i64 c, .int .i64 l] 55))
  obtain ⟨F, hF⟩ : ∃ F : Int → Bool, ∀ n, F n = decide (1 ≤ n ∧ n ≤ 2147483647) := ⟨fun n => decide (1 ≤ n ∧ n ≤ 2147483647), fun _ => rfl⟩
  have HS : Hid (∀ (W : World) n, Calls Tryd.prog 53 #[.int .i64 n] W fun e w' => e = .returned (.bool (F n)) ∧ W = w') := Lib.hid fun W n => by rw [hF]; exact pside_any W n
  have HF := Lib.hid hF
  clear hF
  have HD := Lib.hid fun W => pdepth_any W c d
  obtain ⟨g, hg⟩ : ∃ g, g = depthOk d c := ⟨_, rfl⟩
  rw [← hg] at HD
  have HG := Lib.hid hg
  have HI := Lib.hid hI
  clear hr hI hg
  have hbad : a < 1 ∨ 2147483647 < a ∨ b < 1 ∨ 2147483647 < b ∨ g = false ∨ (l ≠ 0 ∧ l ≠ 1) → r = 24 := fun h => by
    rw [HR.out]
    unfold rightH
    rw [if_pos (by rw [← HG.out]; exact h)]
  have HBAD := Lib.hid hbad
  clear hbad
  by_cases h1 : 1 ≤ a ∧ a ≤ 2147483647
  rotate_left
  · have HE := Lib.hid (HBAD.out (by omega))
    have fa : F a = false := by rw [HF.out]; exact decide_eq_false h1
    clear h1
    have c0 := HI.out.cell 0
    go_enter Tryd.func42, Tryd.ntmps42
    go_wp2_with (go_at_call 53; refine (HS.out _ _).mono ?_; rintro e w1 ⟨rfl, hw⟩; subst hw)
    go_ret
    exact ⟨by rw [HE.out]; rfl, HB.out⟩
  have fa : F a = true := by rw [HF.out]; exact decide_eq_true h1
  by_cases h2 : 1 ≤ b ∧ b ≤ 2147483647
  rotate_left
  · have HE := Lib.hid (HBAD.out (by omega))
    have fb : F b = false := by rw [HF.out]; exact decide_eq_false h2
    clear h1 h2
    have c0 := HI.out.cell 0
    have c1 := HI.out.cell 1
    go_enter Tryd.func42, Tryd.ntmps42
    go_wp2_with (go_at_call 53; refine (HS.out _ _).mono ?_; rintro e w1 ⟨rfl, hw⟩; subst hw)
    go_ret
    exact ⟨by rw [HE.out]; rfl, HB.out⟩
  have fb : F b = true := by rw [HF.out]; exact decide_eq_true h2
  have H12 := Lib.hid (And.intro h1 h2)
  clear h1 h2
  cases g
  · have HE := Lib.hid (HBAD.out (by simp))
    have c0 := HI.out.cell 0
    have c1 := HI.out.cell 1
    have c2 := HI.out.cell 2
    have c3 := HI.out.cell 3
    go_enter Tryd.func42, Tryd.ntmps42
    go_wp2_with (first | (go_at_call 53; refine (HS.out _ _).mono ?_; rintro e w1 ⟨rfl, hw⟩; subst hw) | (go_at_call 54; refine (HD.out _).mono ?_; rintro e w2 ⟨rfl, hB⟩; have HB2 := Lib.hid hB; clear hB))
    go_ret
    exact ⟨by rw [HE.out]; rfl, HB.out.trans HB2.out⟩
  have c0 := HI.out.cell 0
  have c1 := HI.out.cell 1
  have c2 := HI.out.cell 2
  have c3 := HI.out.cell 3
  go_enter Tryd.func42, Tryd.ntmps42
  go_upto_region 4 with (first | (go_at_call 53; refine (HS.out _ _).mono ?_; rintro e w1 ⟨rfl, hw⟩; subst hw) | (go_at_call 54; refine (HD.out _).mono ?_; rintro e w2 ⟨rfl, hB⟩; have HB2 := Lib.hid hB; clear hB))
  have HI2 := Lib.hid (HI.out.but HB2.out (by simp))
  have HB3 := Lib.hid (HB.out.trans HB2.out)
  obtain ⟨w3, hw3⟩ : ∃ w3, w3 = w2 := ⟨_, rfl⟩
  rw [← hw3] at HI2 HB3
  rw [← hw3]
  clear HB2 hw3 HI HB c0 c1 c2 c3
  have q0 := HI2.out.cell 0
  have q1 := HI2.out.cell 1
  have q4 := HI2.out.cell 4
  have p0 : ((l = 0) = True ∧ (l != 0) = false) ∨ ((l = 0) = False ∧ (l != 0) = true) := by by_cases h : l = 0 <;> simp [h]
  have p1 : ((l = 1) = True ∧ (l != 1) = false) ∨ ((l = 1) = False ∧ (l != 1) = true) := by by_cases h : l = 1 <;> simp [h]
  by_cases hl : l ≠ 0 ∧ l ≠ 1
  · have HE := Lib.hid (HBAD.out (by omega))
    rcases p0 with ⟨p0, r0⟩ | ⟨p0, r0⟩
    · exact absurd (of_eq_true p0) hl.1
    rcases p1 with ⟨p1, r1⟩ | ⟨p1, r1⟩
    · exact absurd (of_eq_true p1) hl.2
    clear hl
    go_wp2
    go_ret
    exact ⟨by rw [HE.out]; rfl, HB3.out⟩
  have HRE : Hid (r = if 1024 < a ∨ 1024 < b ∨ 4096 < a * b then 5 else 0) := Lib.hid (by
    rw [HR.out]
    unfold rightH
    have := H12.out
    rw [← HG.out, if_neg (by rintro (h | h | h | h | h | h) <;> first | omega | cases h | exact hl h)])
  have e0 : ((l = 0) = True ∧ (l != 0) = false) ∨ ((l = 1) = True ∧ (l != 1) = false) ∧ (l = 0) = False ∧ (l != 0) = true := by
    rcases p0 with p0 | p0
    · exact .inl p0
    rcases p1 with p1 | p1
    · exact .inr ⟨p1, p0⟩
    · exact absurd ⟨of_eq_false p0.1, of_eq_false p1.1⟩ hl
  clear p0 p1 hl HR
  have hab := H12.out
  obtain ⟨⟨a1, a2⟩, b1, b2⟩ := hab
  by_cases h1 : 1024 < a
  · have HE := Lib.hid (show r = 5 by rw [HRE.out, if_pos (Or.inl h1)])
    rcases e0 with ⟨p0, r0⟩ | ⟨⟨p1, r1⟩, p0, r0⟩
    all_goals
      go_wp2
      go_ret
      exact ⟨by rw [HE.out]; rfl, HB3.out⟩
  by_cases h2 : 1024 < b
  · have HE := Lib.hid (show r = 5 by rw [HRE.out, if_pos (Or.inr (Or.inl h2))])
    rcases e0 with ⟨p0, r0⟩ | ⟨⟨p1, r1⟩, p0, r0⟩
    all_goals
      go_wp2
      go_ret
      exact ⟨by rw [HE.out]; rfl, HB3.out⟩
  obtain ⟨m, hm⟩ : ∃ m, m = a * b := ⟨_, rfl⟩
  have m1 : 0 ≤ m := by rw [hm]; exact Int.mul_nonneg (by omega) (by omega)
  have m2 : m ≤ 1048576 := by rw [hm]; exact Int.le_trans (Int.mul_le_mul (by omega : a ≤ 1024) (by omega : b ≤ 1024) (by omega) (by omega)) (by omega)
  have hm' := hm.symm
  have HM := Lib.hid hm
  clear hm
  by_cases h3 : 4096 < m
  · have HE := Lib.hid (show r = 5 by rw [HRE.out, if_pos (Or.inr (Or.inr (by rw [← HM.out]; exact h3)))])
    rcases e0 with ⟨p0, r0⟩ | ⟨⟨p1, r1⟩, p0, r0⟩
    all_goals
      go_wp2
      go_ret
      exact ⟨by rw [HE.out]; rfl, HB3.out⟩
  · have HE := Lib.hid (show r = 0 by rw [HRE.out, if_neg (by rw [← HM.out]; omega)])
    rcases e0 with ⟨p0, r0⟩ | ⟨⟨p1, r1⟩, p0, r0⟩
    all_goals
      go_wp2
      go_ret
      exact ⟨by rw [HE.out]; rfl, HB3.out⟩
end Go.Proofs.YtmdiilnipoblbaaDoor
set_option maxRecDepth 100000
set_option linter.unusedVariables false
namespace Go.Proofs.YtmdiilnipoblbaaDoor
set_option maxRecDepth 100000
open Go Go.RowKit
theorem headOf_ret {w V : World} {b : Nat} {tmps : Array Value} {a c : Int} (hI : Is V b 55 #[.int .i64 0, .int .i64 0, .int .i64 0, .int .i64 0, .int .i64 0]) (hB : But [] w V) (hb : w.heap.size ≤ b) (ht : tmps[2]? = some (.pointer (some ⟨b, 0, none⟩))) :
    bodyPost Tryd.prog Tryd.f43 (fun e w' => e = .returned (.agg #[.int .i64 a, .int .i64 c, .int .i64 16, .int .i64 6, .int .i64 0]) ∧ But [] w w') Exit.ret { tmps := tmps, defers := [] }
      (((((V.setCell ⟨b, 0, none⟩ (.int .i64 a)).setCell ⟨b, 1, none⟩ (.int .i64 c)).setCell ⟨b, 2, none⟩ (.int .i64 16)).setCell ⟨b, 3, none⟩ (.int .i64 6)).setCell ⟨b, 4, none⟩ (.int .i64 0)) := by
  have h4 := ((((hI.put 0 (.int .i64 a)).put 1 (.int .i64 c)).put 2 (.int .i64 16)).put 3 (.int .i64 6)).put 4 (.int .i64 0)
  have k4 := ((((hB.setCell (p := ⟨b, 0, none⟩) (.inr hb) (.int .i64 a)).setCell (p := ⟨b, 1, none⟩) (.inr hb) (.int .i64 c)).setCell (p := ⟨b, 2, none⟩) (.inr hb) (.int .i64 16)).setCell (p := ⟨b, 3, none⟩) (.inr hb) (.int .i64 6)).setCell (p := ⟨b, 4, none⟩) (.inr hb) (.int .i64 0)
  obtain ⟨X, hX⟩ : ∃ X, X = (((((V.setCell ⟨b, 0, none⟩ (.int .i64 a)).setCell ⟨b, 1, none⟩ (.int .i64 c)).setCell ⟨b, 2, none⟩ (.int .i64 16)).setCell ⟨b, 3, none⟩ (.int .i64 6)).setCell ⟨b, 4, none⟩ (.int .i64 0)) := ⟨_, rfl⟩
  rw [← hX] at h4 k4 ⊢
  clear hX hI hB
  have e0 := h4.cell 0
  have e1 := h4.cell 1
  have e2 := h4.cell 2
  have e3 := h4.cell 3
  have e4 := h4.cell 4
  refine bodyPost_ret (v := .agg #[.int .i64 a, .int .i64 c, .int .i64 16, .int .i64 6, .int .i64 0]) ?_ rfl ⟨rfl, k4⟩
  simp [results, Tryd.results43, go_sem, e0, e1, e2, e3, e4, ht]
set_option maxHeartbeats 1000000 in
theorem pxheadOf_any (w : World) (a b : Int) (pix : ByteArray) :
    Calls Tryd.prog 43 #[.agg #[.int .i64 a, .int .i64 b, .string pix]] w fun e w' => e = .returned (.agg #[.int .i64 a, .int .i64 b, .int .i64 16, .int .i64 6, .int .i64 0]) ∧ But [] w w' := by
  obtain ⟨w1, hw1⟩ : ∃ X, X = (w.alloc (.cells #[.int .i64 a, .int .i64 b, .string pix] 23)).alloc (.cells #[.int .i64 0, .int .i64 0, .int .i64 0, .int .i64 0, .int .i64 0] 55) := ⟨_, rfl⟩
  have hB : But [] w w1 := by rw [hw1]; exact ((But.refl [] w).alloc _).alloc _
  have hI : Is w1 w.heap.size 23 #[.int .i64 a, .int .i64 b, .string pix] := by rw [hw1]; exact (Is.fresh _ _ _).alloc _
  have hJ : Is w1 (w.heap.size + 1) 55 #[.int .i64 0, .int .i64 0, .int .i64 0, .int .i64 0, .int .i64 0] := by
    have h := Is.fresh (w.alloc (.cells #[.int .i64 a, .int .i64 b, .string pix] 23)) 55 #[.int .i64 0, .int .i64 0, .int .i64 0, .int .i64 0, .int .i64 0]
    rw [show (w.alloc (.cells #[.int .i64 a, .int .i64 b, .string pix] 23)).heap.size = w.heap.size + 1 by simp] at h
    rw [hw1]; exact h
  obtain ⟨b0, hb0⟩ : ∃ g, g = w.heap.size := ⟨_, rfl⟩
  obtain ⟨b1, hb1⟩ : ∃ g, g = w.heap.size + 1 := ⟨_, rfl⟩
  rw [← hb1] at hJ
  rw [← hb0] at hI
  have HW : Hid (w.heap.size ≤ b1) := Lib.hid (by omega)
  have HI := Lib.hid hI
  have HJ := Lib.hid hJ
  have HB := Lib.hid hB
  clear hI hJ hB
  go_enter Tryd.func43, Tryd.ntmps43
  go_upto_region 1 with (fail)
  rw [← hw1, ← hb1, ← hb0]
  clear hw1 hb0 hb1
  have c0 := HI.out.cell 0
  have c1 := HI.out.cell 1
  have hgl := HI.out.lt
  have d0 := HJ.out.cell 0
  have d1 := HJ.out.cell 1
  have d2 := HJ.out.cell 2
  have d3 := HJ.out.cell 3
  have d4 := HJ.out.cell 4
  have f0 := HJ.out.free 0
  have f1 := HJ.out.free 1
  have f2 := HJ.out.free 2
  have f3 := HJ.out.free 3
  have f4 := HJ.out.free 4
  have hgl1 := HJ.out.lt
  go_wp2
  exact headOf_ret HJ.out HB.out HW.out (by rfl)
set_option maxHeartbeats 1000000 in
theorem pcheck12_any (w : World) {a b : Int} {pix : ByteArray} (hp : pix.size ≤ 140737488351232) :
    Calls Tryd.prog 22 #[.agg #[.int .i64 a, .int .i64 b, .string pix]] w fun e w' => e = .returned (.int .i64 (checkA a b pix)) ∧ But [] w w' := by
  have HB := Lib.hid ((But.refl [] w).alloc (.cells #[.int .i64 a, .int .i64 b, .string pix] 23))
  have hI := Is.fresh w 23 #[.int .i64 a, .int .i64 b, .string pix]
  obtain ⟨r, hr⟩ : ∃ r, r = rightH a b 16 6 0 := ⟨_, rfl⟩
  have HE : Hid (∀ W, Calls Tryd.prog 42 #[.agg #[.int .i64 a, .int .i64 b, .int .i64 16, .int .i64 6, .int .i64 0]] W fun e w' => e = .returned (.int .i64 r) ∧ But [] W w') := Lib.hid fun W => by rw [hr]; exact pright_h W a b 16 6 0
  have HH := Lib.hid fun (W : World) => pxheadOf_any W a b pix
  have HC : Hid (∀ v, But [] (w.alloc (.cells #[.int .i64 a, .int .i64 b, .string pix] 23)) v → v.cell? ⟨w.heap.size, 0, none⟩ = some (.int .i64 a) ∧ v.cell? ⟨w.heap.size, 1, none⟩ = some (.int .i64 b) ∧ v.cell? ⟨w.heap.size, 2, none⟩ = some (.string pix) ∧ w.heap.size < v.heap.size) := Lib.hid fun v hv => by
    have hh := hI.but hv (by simp)
    exact ⟨hh.cell 0, hh.cell 1, hh.cell 2, hh.lt⟩
  obtain ⟨c0, c1, c2, hgl⟩ := HC.out _ (But.refl [] _)
  by_cases h0 : r = 0
  · have hright := hr.symm.trans h0
    obtain ⟨W, H, D, C, R⟩ := right_form hright
    obtain ⟨x, hx⟩ : ∃ x, x = 8 * (W * H) := ⟨_, rfl⟩
    have hxl : x ≤ 32768 := by have := R.area; omega
    obtain ⟨y, hy⟩ : ∃ y, y = 8 * W := ⟨_, rfl⟩
    have e1 : 8 * a = (y : Int) := by rw [R.wa, hy]; omega
    have e2 : (y : Int) * b = (x : Int) := by
      rw [R.hb, hy, hx, ← Int.natCast_mul, Nat.mul_assoc]
    have e3 : 8 * a * b = (x : Int) := by rw [e1, e2]
    have t1 := wrapI_in (show y < 1000000000000000 by have := R.w2; omega)
    have t2 := wrapI_in (show x < 1000000000000000 by omega)
    subst h0
    by_cases hs : pix.size = x
    · have HR : Hid (checkA a b pix = 0) := Lib.hid (by unfold checkA; rw [if_neg (by rw [← hr]; decide), e3, if_neg (by rw [hs]; exact fun h => h rfl)])
      rw [HR.out]
      have q1 : ((x : Int) != (x : Int)) = false := by simp
      clear hI hr hright R hx hy e3
      go_enter Tryd.func22, Tryd.ntmps22
      go_wp2_with fail
      refine (HH.out _).mono ?_
      rintro e w0 ⟨rfl, hB0⟩
      have HB0 := Lib.hid hB0
      clear hB0 c0 c1 c2 hgl
      go_wp2_with fail
      refine (HE.out _).mono ?_
      rintro e w1 ⟨rfl, hB⟩
      have HB1 := Lib.hid (HB0.out.trans hB)
      clear hB
      obtain ⟨c0, c1, c2, hgl⟩ := HC.out _ HB1.out
      go_wp2
      go_ret
      exact ⟨rfl, HB.out.trans HB1.out⟩
    · have HR : Hid (checkA a b pix = 24) := Lib.hid (by unfold checkA; rw [if_neg (by rw [← hr]; decide), e3, if_pos (by omega)])
      rw [HR.out]
      have q1 : ((pix.size : Int) != (x : Int)) = true := by simp; omega
      have q2 : ¬ (pix.size : Int) = (x : Int) := by omega
      clear hI hr hright R hx hy e3
      go_enter Tryd.func22, Tryd.ntmps22
      go_wp2_with fail
      refine (HH.out _).mono ?_
      rintro e w0 ⟨rfl, hB0⟩
      have HB0 := Lib.hid hB0
      clear hB0 c0 c1 c2 hgl
      go_wp2_with fail
      refine (HE.out _).mono ?_
      rintro e w1 ⟨rfl, hB⟩
      have HB1 := Lib.hid (HB0.out.trans hB)
      clear hB
      obtain ⟨c0, c1, c2, hgl⟩ := HC.out _ HB1.out
      go_wp2
      go_ret
      exact ⟨rfl, HB.out.trans HB1.out⟩
  · have HR : Hid (checkA a b pix = r) := Lib.hid (by unfold checkA; rw [← hr, if_pos h0])
    rw [HR.out]
    have q1 : (r != 0) = true := by simpa using h0
    clear hI hr
    go_enter Tryd.func22, Tryd.ntmps22
    go_wp2_with fail
    refine (HH.out _).mono ?_
    rintro e w0 ⟨rfl, hB0⟩
    have HB0 := Lib.hid hB0
    clear hB0 c0 c1 c2 hgl
    go_wp2_with fail
    refine (HE.out _).mono ?_
    rintro e w1 ⟨rfl, hB⟩
    have HB1 := Lib.hid (HB0.out.trans hB)
    clear hB
    go_wp2
    go_ret
    exact ⟨rfl, HB.out.trans HB1.out⟩
end Go.Proofs.YtmdiilnipoblbaaDoor
set_option maxRecDepth 100000
set_option linter.unusedVariables false
namespace Go.Proofs.YtmdiilnipoblbaaDoor
set_option maxRecDepth 100000
open Go Go.RowKit
set_option maxHeartbeats 1000000 in
theorem bnumber_any (w : World) {n : Nat} (hn : n < 4611686018427387904) :
    Calls Tryd.prog 28 #[.int .i64 (n : Int)] w fun e w' => e = .returned (.string (strL (fourL n))) ∧ But [] w w' := by
  obtain ⟨a, ha⟩ : ∃ a, a = n / 16777216 % 256 := ⟨_, rfl⟩
  obtain ⟨b, hb⟩ : ∃ a, a = n / 65536 % 256 := ⟨_, rfl⟩
  obtain ⟨c, hc⟩ : ∃ a, a = n / 256 % 256 := ⟨_, rfl⟩
  obtain ⟨d, hd⟩ : ∃ a, a = n % 256 := ⟨_, rfl⟩
  have b1 : IntKind.u8.wrap ((n : Int) / 16777216) = (a : Int) := by simp [IntKind.wrap_u8]; omega
  have b2 : IntKind.u8.wrap ((n : Int) / 65536) = (b : Int) := by simp [IntKind.wrap_u8]; omega
  have b3 : IntKind.u8.wrap ((n : Int) / 256) = (c : Int) := by simp [IntKind.wrap_u8]; omega
  have b4 : IntKind.u8.wrap (n : Int) = (d : Int) := by simp [IntKind.wrap_u8]; omega
  have kc := fun W : World => conv_fourZ W ha hb hc hd
  have HB := Lib.hid ((But.refl [] w).alloc (.cells #[.int .u8 a, .int .u8 b, .int .u8 c, .int .u8 d] 5))
  clear ha hb hc hd
  go_enter Tryd.func28, Tryd.ntmps28
  go_wp2
  go_ret
  exact ⟨rfl, HB.out⟩
set_option maxHeartbeats 1000000 in
theorem bsize_any (w : World) {W : Nat} (hW : W ≤ 1048576) : Calls Tryd.prog 24 #[.int .i64 W] w fun e w' => e = .returned (.int .i64 (64 * W : Nat)) ∧ w = w' := by
  obtain ⟨a, ha⟩ : ∃ a, a = 8 * W := ⟨_, rfl⟩
  obtain ⟨b, hb⟩ : ∃ a, a = 64 * W := ⟨_, rfl⟩
  rw [← hb]
  have e1 : (8 : Int) * (W : Int) = (a : Int) := by omega
  have e2 : (a : Int) * 8 = (b : Int) := by omega
  have v1 := wrapI_in (show a < 1000000000000000 by omega)
  have v2 := wrapI_in (show b < 1000000000000000 by omega)
  clear ha hb
  go_enter Tryd.func24, Tryd.ntmps24
  go_wp2
  go_ret
  exact ⟨rfl, rfl⟩
set_option maxHeartbeats 1000000 in
theorem pclone15_any (w : World) {s : ByteArray} (hs : s.size ≤ 281474976710656) :
    Calls Tryd.prog 44 #[.string s] w fun e w' => e = .returned (.string s) ∧ But [] w w' := by
  have H := Lib.hid (stringslite_Clone s w hs)
  go_enter Tryd.func44, Tryd.ntmps44
  go_wp2_with fail
  refine H.out.mono ?_
  rintro e w1 ⟨rfl, hB⟩
  have HB := Lib.hid (show But [] w w1 from ⟨hB.os, hB.tape, hB.output, hB.size, fun i hi _ => hB.block i hi⟩)
  clear hB
  go_wp2
  go_ret
  exact ⟨rfl, HB.out⟩
set_option maxHeartbeats 1000000 in
theorem pname15_any (w : World) (s : ByteArray) (hs : s.size ≤ 140737488351232) : Calls Tryd.prog 15 #[.string s] w fun e w' => e = .returned (.int .i64 (nameA s.data.toList)) ∧ w' = w := by
  have hln : s.data.toList.length = s.size := Array.length_toList
  by_cases hz : s.size = 0
  · have HR : Hid (nameA s.data.toList = 40) := Lib.hid (nameA_bad fun h => by have := h.1; omega)
    have e1 : s.toList = [] := by
      rw [ByteArray.toList_eq]
      exact List.eq_nil_of_length_eq_zero (by rw [hln, hz])
    rw [HR.out]
    clear hln hz
    go_enter Tryd.func15, Tryd.ntmps15
    go_wp2
    all_goals
      go_ret
      exact ⟨rfl, rfl⟩
  · have e1 : (s.toList == []) = false := by
      rw [ByteArray.toList_eq]
      have h2 : s.data.toList ≠ [] := fun e => hz (by rw [← hln, e]; rfl)
      simpa using h2
    by_cases hb : 32 < s.size
    · have HR : Hid (nameA s.data.toList = 40) := Lib.hid (nameA_bad fun h => by have := h.2.1; omega)
      rw [HR.out]
      have i1 : (32 : Int) < (s.size : Int) := by omega
      clear hln hz
      go_enter Tryd.func15, Tryd.ntmps15
      go_wp2
      go_ret
      exact ⟨rfl, rfl⟩
    · have i1 : ¬ (32 : Int) < (s.size : Int) := by omega
      have HB : Hid (∀ i, i < s.size → ¬ (33 ≤ (s.data.toList.getD i 0).toNat ∧ (s.data.toList.getD i 0).toNat ≤ 126) → nameA s.data.toList = 40) := Lib.hid fun i hi h => nameA_bad fun f => h (f.2.2 i (by omega))
      have HO : Hid ((∀ i, i < s.size → 33 ≤ (s.data.toList.getD i 0).toNat ∧ (s.data.toList.getD i 0).toNat ≤ 126) → nameA s.data.toList = 0) := Lib.hid fun f => nameA_ok ⟨by omega, by omega, fun i hi => f i (by omega)⟩
      obtain ⟨R, hR⟩ : ∃ R, R = nameA s.data.toList := ⟨_, rfl⟩
      rw [← hR] at HB HO ⊢
      obtain ⟨wz, hwz⟩ : ∃ W, W = w := ⟨w, rfl⟩
      have HWZ := Lib.hid hwz
      clear hln hz hb hR hwz
      go_enter Tryd.func15, Tryd.ntmps15
      go_wp2
      go_loopw [13] (fun kv wx => ∃ k : Nat, k ≤ s.size ∧ kv = .int .i64 k ∧ Hid (∀ i, i < k → 33 ≤ (s.data.toList.getD i 0).toNat ∧ (s.data.toList.getD i 0).toNat ≤ 126) ∧ Hid (wx = w)) (fun kv _ => s.size - (intOf kv).toNat)
      case atStart => exact ⟨0, Nat.zero_le _, rfl, Lib.hid (fun i hi => by omega), Lib.hid rfl⟩
      case round =>
        obtain ⟨k, hk, rfl, HP, HW⟩ := hrel
        by_cases hlt : k < s.size
        · have kx : ∀ w, (Instr.index 9 (.string s) (.int .i64 (k : Int))).run Tryd.prog w = .ok (.int .u8 (s[k].toNat : Nat)) w := fun w => byteR_run hlt w
          obtain ⟨x, hx⟩ : ∃ x, x = s[k].toNat := ⟨_, rfl⟩
          simp only [← hx] at kx
          have hgx : (s.data.toList.getD k 0).toNat = x := by rw [getD_byte s hlt, hx]
          by_cases h1 : x < 33
          · have HR : Hid (R = 40) := Lib.hid (HB.out k hlt (by rw [hgx]; omega))
            have c1 : (x : Int) < 33 := by omega
            clear hx hgx
            go_wp2
            go_ret
            exact ⟨by rw [HR.out]; rfl, HW.out⟩
          · have c1 : ¬ (x : Int) < 33 := by omega
            by_cases h2 : 126 < x
            · have HR : Hid (R = 40) := Lib.hid (HB.out k hlt (by rw [hgx]; omega))
              have c2 : (126 : Int) < (x : Int) := by omega
              clear hx hgx
              go_wp2
              go_ret
              exact ⟨by rw [HR.out]; rfl, HW.out⟩
            · have c2 : ¬ (126 : Int) < (x : Int) := by omega
              have HP2 : Hid (∀ i, i < k + 1 → 33 ≤ (s.data.toList.getD i 0).toNat ∧ (s.data.toList.getD i 0).toNat ≤ 126) := Lib.hid fun i hi => by
                by_cases e : i = k
                · rw [e, hgx]; omega
                · exact HP.out i (by omega)
              clear hx hgx
              go_wp2
              go_roundw
              case rel => exact ⟨k + 1, by omega, by go_num, HP2, HW⟩
              case measure => simp [intOf] <;> omega
        · have HR : Hid (R = 0) := Lib.hid (HO.out fun i hi => HP.out i (by omega))
          have c1 : ¬ (k : Int) < (s.size : Int) := by omega
          go_wp2
          go_ret
          exact ⟨by rw [HR.out]; rfl, HW.out⟩
end Go.Proofs.YtmdiilnipoblbaaDoor
