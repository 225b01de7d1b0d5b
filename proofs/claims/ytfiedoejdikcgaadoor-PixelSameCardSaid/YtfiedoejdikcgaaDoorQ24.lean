/- Several texts in one: FiE, CkA, PkA (what PixelRows, PixelSame reach of them). -/
import Derived.Test.YtfiedoejdikcgaaDoorQ01
import Derived.Test.YtfiedoejdikcgaaDoorQ02
import Derived.Test.YtfiedoejdikcgaaDoorQ03
import Derived.Test.YtfiedoejdikcgaaDoorQ05
import Derived.Test.YtfiedoejdikcgaaDoorQ07
import Derived.Test.YtfiedoejdikcgaaDoorQ08
import Derived.Test.YtfiedoejdikcgaaDoorQ09
import Derived.Test.YtfiedoejdikcgaaDoorQ11
import Derived.Test.YtfiedoejdikcgaaDoorQ12
import Derived.Test.YtfiedoejdikcgaaDoorQ19
import Derived.Test.YtfiedoejdikcgaaDoorQ23
import Derived.Below
import Derived.BigQuiet
import Derived.BigRegion
import Derived.Deep.AppendLies
import Derived.Deep.CutBlock
import Derived.Deep.CutRange
import Derived.Deep.DeepCutAuto
import Derived.Deep.Draws
import Derived.Deep.QuietTactic
import Derived.Deep.RegionLaw
import Derived.Deep.RegionWith
import Derived.Deep.Slices
import Derived.Handy
import Derived.Laws.BitsAllLaws
import Derived.Laws.BitsLemmas
import Derived.Laws.BytesArg
import Derived.Laws.IdiomStrings
import Derived.Laws.MakeOwn
import Derived.Laws.OwnMore
import Derived.Laws.Rows
import Derived.Laws.StructEq
import Derived.Lib.AppendStr
import Derived.Lib.BufferWrite
import Derived.Lib.Hide
import Derived.Maps.AppendAt
import Derived.OpenShut
import Derived.OrdersHeld
import Derived.OrdersIn
import Derived.Outline
import Derived.OwnWalk
import Derived.OwnWalkIn
import Derived.ProofKit
import Derived.RangeFuncCalls
import Derived.RegionTactic
import Derived.TacticsInMore
import Derived.Test.YtfiedoejdikcgaaDoorChecked
import Derived.WalkKit
set_option maxRecDepth 100000
set_option linter.unusedVariables false
set_option maxRecDepth 100000
set_option linter.unusedVariables false
namespace Go.Proofs.YtfiedoejdikcgaaDoor
set_option maxRecDepth 100000
open Go Go.RowKit
set_option maxHeartbeats 1000000 in
theorem epick_any (w : World) (bpp : Int) (s t : ByteArray) (hs : s.size ≤ 140737488351232) (ht : t.size ≤ 140737488351232) :
    Calls Tryd.prog 37 #[.int .i64 bpp, .string s, .string t] w fun e w' => e = .returned (.tuple #[.int .i64 (pickA bpp s t : Nat), .int .i64 (wrongP bpp s t)]) ∧ But [] w w' := by
  have hD := fun v (k : Nat) => edo_any v bpp k s t hs ht
  by_cases h0 : wrongP bpp s t ≠ 0
  · have h1 : wrongP bpp s t = 1 := by rcases wrongP_cases bpp s t with h | h; exact absurd h h0; exact h
    have HD : Hid (∀ v, Calls Tryd.prog 38 #[.int .i64 bpp, .int .i64 0, .string s, .string t] v fun e w' => e = .returned (.tuple #[.string ⟨#[]⟩, .int .i64 1]) ∧ But [] v w') := Lib.hid fun v => by
      have h := hD v 0
      have e : wrongF bpp ((0 : Nat) : Int) s t = 1 := by rw [wrongF_kind (by decide) (by decide), h1]
      rw [doA_bad (by rw [e]; decide), e] at h
      exact h
    rw [pickA_bad h0, h1]
    clear hD h0 h1
    go_enter Tryd.func37, Tryd.ntmps37
    go_wp2_with fail
    go_loopw [8, 9, 10] (fun bv lv kv wr => bv = .int .i64 0 ∧ lv = .int .i64 0 ∧ kv = .int .i64 0 ∧ Hid (But [] w wr)) (fun _ _ _ _ => 0)
    case atStart => exact ⟨rfl, rfl, rfl, Lib.hid (But.refl [] _)⟩
    case round =>
      obtain ⟨rfl, rfl, rfl, HB⟩ := hrel
      go_wp2_with fail
      refine (HD.out _).mono ?_
      rintro e w1 ⟨rfl, hB⟩
      have HB1 := Lib.hid hB
      clear hB
      go_wp2
      go_ret2
      exact ⟨rfl, HB.out.trans HB1.out⟩
  have h0 : wrongP bpp s t = 0 := by simpa using h0
  obtain ⟨hb1, hb8, hts⟩ := wrongP_zero h0
  obtain ⟨n, rfl⟩ : ∃ n : Nat, bpp = (n : Int) := ⟨bpp.toNat, by omega⟩
  rw [pickA_ok h0, h0]
  obtain ⟨X, hX⟩ : ∃ X : Nat → List UInt8, X = fun k => doF (k : Nat) n s.data.toList t.data.toList := ⟨_, rfl⟩
  obtain ⟨c, hc⟩ : ∃ c : Nat → Nat, c = fun k => costF (X k) := ⟨_, rfl⟩
  have hXl : ∀ k, (X k).length = s.size := fun k => by rw [hX]; dsimp only; rw [doF_length, Array.length_toList]; rfl
  have HD : Hid (∀ v (k : Nat), k ≤ 4 → Calls Tryd.prog 38 #[.int .i64 (n : Int), .int .i64 (k : Int), .string s, .string t] v fun e w' => e = .returned (.tuple #[.string (strL (X k)), .int .i64 0]) ∧ But [] v w') := Lib.hid fun v k hk => by
    have h := hD v k
    have e : wrongF (n : Int) (k : Int) s t = 0 := by rw [wrongF_kind (by omega) (by omega), h0]
    rw [doA_ok e, e] at h
    rw [hX]; exact h
  have HR : Hid (pickF n s.data.toList t.data.toList = (bstF c 5).1) := Lib.hid (by unfold pickF; rw [hc, hX]; rfl)
  have HXL := Lib.hid hXl
  have HCC : Hid (∀ k, c k = costF (X k)) := Lib.hid fun k => by rw [hc]
  have HCL : Hid (∀ k, c k ≤ 18014398508957696) := Lib.hid fun k => by
    rw [hc]
    dsimp only
    have h1 := costF_le (X k)
    rw [hXl] at h1
    omega
  clear hD h0 hX hc hXl
  go_enter Tryd.func37, Tryd.ntmps37
  go_wp2_with fail
  go_loopw [8, 9, 10] (fun bv lv kv wr => ∃ k b l : Nat, k ≤ 5 ∧ kv = .int .i64 (k : Int) ∧ bv = .int .i64 (b : Int) ∧ lv = .int .i64 (l : Int) ∧ Hid ((b, l) = bstF c k) ∧ Hid (But [] w wr)) (fun _ _ kv _ => 5 - (intOf kv).toNat)
  case atStart => exact ⟨0, 0, 0, Nat.zero_le _, rfl, rfl, rfl, Lib.hid rfl, Lib.hid (But.refl [] _)⟩
  case round =>
    obtain ⟨k, b, l, hk, rfl, rfl, rfl, HE, HB⟩ := hrel
    by_cases hlt : k ≤ 4
    · go_wp2_with fail
      refine (HD.out _ k hlt).mono ?_
      rintro e w1 ⟨rfl, hB⟩
      have HB1 := Lib.hid (HB.out.trans hB)
      obtain ⟨S, hS⟩ : ∃ S, S = strL (X k) := ⟨_, rfl⟩
      have hSl : S.size = s.size := by rw [hS, strL_size, HXL.out]
      have HS := Lib.hid hS
      have hbl : l ≤ 18014398508957696 ∧ b ≤ k := by
        have h1 := bstF_le c HCL.out k
        rw [← HE.out] at h1
        exact h1
      obtain ⟨hl1, hb1⟩ := hbl
      rw [← hS]
      obtain ⟨m, hm⟩ : ∃ m, m = S.size := ⟨_, rfl⟩
      have hm2 : m ≤ 140737488351232 := by rw [hm, hSl]; exact hs
      have HM := Lib.hid hm
      have HSL := Lib.hid hSl
      clear hB hS hSl
      go_wp2_with fail
      go_loopw [13, 14] (fun nv iv wx => ∃ i a : Nat, i ≤ m ∧ iv = .int .i64 (i : Int) ∧ nv = .int .i64 (a : Int) ∧ Hid (a = costF ((X k).take i)) ∧ Hid (But [] w wx)) (fun _ iv _ => m - (intOf iv).toNat)
      case atStart => exact ⟨0, 0, Nat.zero_le _, rfl, rfl, Lib.hid (by rw [List.take_zero]; rfl), HB1⟩
      case round =>
        obtain ⟨i, a, hi, rfl, rfl, HA, HB2⟩ := hrel
        have ha : a ≤ 18014398508957696 := by rw [HA.out]; have h := costF_take_le (X k) i (B := 140737488351232) (by rw [HXL.out]; exact hs); omega
        by_cases hit : i < S.size
        · obtain ⟨y, hy⟩ : ∃ y, y = S[i] := ⟨_, rfl⟩
          obtain ⟨b, hb⟩ : ∃ b, b = y.toNat := ⟨_, rfl⟩
          have hb256 : b < 256 := by rw [hb]; exact y.toNat_lt
          have kx : ∀ w, (Instr.index 9 (.string S) (.int .i64 (i : Int))).run Tryd.prog w = .ok (.int .u8 (b : Int)) w := fun w => by rw [hb, hy]; exact byteF_run hit w
          have HN : Hid (costF ((X k).take (i + 1)) = a + farB y) := Lib.hid (by
            rw [costF_take _ (by rw [HXL.out, ← HSL.out]; exact hit), ← HA.out]
            congr 2
            rw [hy, ← getD_byte S hit, HS.out, strL_list])
          clear hy
          obtain ⟨f, hfb⟩ : ∃ f, f = farB y := ⟨_, rfl⟩
          rw [← hfb] at HN
          by_cases hf : 128 < b
          · have HF : Hid (f = 256 - b) := Lib.hid (by rw [hfb, hb]; unfold farB; rw [if_pos (by rw [← hb]; exact hf)])
            clear hfb hb
            go_wp2
            go_roundw
            case rel => exact ⟨i + 1, a + f, by omega, by go_num, by rw [HF.out]; go_num, Lib.hid HN.out.symm, HB2⟩
            case measure => simp [intOf] <;> omega
          · have HF : Hid (f = b) := Lib.hid (by rw [hfb, hb]; unfold farB; rw [if_neg (by rw [← hb]; exact hf)])
            clear hfb hb
            go_wp2
            go_roundw
            case rel => exact ⟨i + 1, a + f, by omega, by go_num, by rw [HF.out]; go_num, Lib.hid HN.out.symm, HB2⟩
            case measure => simp [intOf] <;> omega
        · have HAC : Hid (a = c k) := Lib.hid (by rw [HA.out, HCC.out, List.take_of_length_le]; rw [HXL.out, ← HSL.out]; omega)
          have HNX := Lib.hid (bstF_next c k)
          by_cases hz : k = 0
          · subst hz
            go_wp2
            go_roundw
            case rel => exact ⟨1, 0, a, by omega, by first | rfl | go_num, by first | rfl | go_num, by first | rfl | go_num, Lib.hid (by rw [HNX.out, if_pos (.inl rfl), HAC.out]), HB2⟩
            case measure => simp [intOf] <;> omega
          · by_cases hal : a < l
            · go_wp2
              go_roundw
              case rel => exact ⟨k + 1, k, a, by omega, by first | rfl | go_num, by first | rfl | go_num, by first | rfl | go_num, Lib.hid (by rw [HNX.out, ← HE.out, if_pos (.inr (by rw [← HAC.out]; exact hal)), HAC.out]), HB2⟩
              case measure => simp [intOf] <;> omega
            · go_wp2
              go_roundw
              case rel => exact ⟨k + 1, b, l, by omega, by first | rfl | go_num, by first | rfl | go_num, by first | rfl | go_num, Lib.hid (by rw [HNX.out, ← HE.out, if_neg (by rw [← HAC.out]; dsimp only; omega)]), HB2⟩
              case measure => simp [intOf] <;> omega
    · obtain rfl : k = 5 := by omega
      have HF : Hid (pickF n s.data.toList t.data.toList = b) := Lib.hid (by rw [HR.out, ← HE.out])
      go_wp2
      go_ret2
      exact ⟨by rw [HF.out]; rfl, HB.out⟩
end Go.Proofs.YtfiedoejdikcgaaDoor
set_option maxRecDepth 100000
namespace Go.Proofs.YtfiedoejdikcgaaDoor
set_option maxRecDepth 100000
open Go Go.RowKit Go.ChangeShapes Go.WideShapes
theorem Cks.at {w : World} {A : Option Addr} {n : Nat} {L : List Ck} (h : Cks w A n L) {i : Nat} (hi : i < n) :
    ∃ g o c, A = some ⟨g, o, none⟩ ∧ g < w.heap.size ∧ w.cell? ⟨g, o + i * 2, none⟩ = some (.string (strL c.1)) ∧ w.cell? ⟨g, o + i * 2 + 1, none⟩ = some (.string (strL c.2)) ∧ L[i]? = some c := by
  obtain ⟨g, o, e, hg, hc⟩ := h.2 (by omega)
  have hl : i < L.length := by have := h.1; omega
  exact ⟨g, o, _, e, hg, (hc i hl).1, (hc i hl).2, List.getElem?_eq_getElem hl⟩
theorem Cks.nil (w : World) (A : Option Addr) : Cks w A 0 [] := ⟨rfl, fun h => absurd h (by omega)⟩
end Go.Proofs.YtfiedoejdikcgaaDoor
set_option maxRecDepth 100000
set_option linter.unusedVariables false
namespace Go.Proofs.YtfiedoejdikcgaaDoor
set_option maxRecDepth 100000
open Go Go.RowKit
/-- All memory that holds no bytes is as it was. -/
def KeepT (w w' : World) : Prop := ∀ b t cs, t ≠ 5 → Is w b t cs → Is w' b t cs
theorem keepT_of {w w' : World} {base : Nat} {v : Value} {L : List UInt8} (hO : OwnF w base v L) (hg : w.grownBy w' v.ownBlock) : KeepT w w' := fun b t cs ht hI => by
  refine hI.grown hg ?_
  intro e
  rcases hO.2 with ⟨rfl, _⟩ | ⟨g, cap, cur, rfl, _, hh, _⟩
  · cases e
  · have e2 : b = g := Option.some.inj e
    subst e2
    have h2 : some (Obj.cells cur 5 (0, 0)) = some (Obj.cells cs t (0, 0)) := hh.symm.trans hI
    exact ht (Obj.cells.inj (Option.some.inj h2)).2.1.symm
theorem KeepT.alloc (w : World) (o : Obj) : KeepT w (w.alloc o) := fun b t cs _ h => h.alloc o
/-- One byte appended, all else of other kinds kept. -/
theorem wpList_append_bK {w0 : World} (w : World) {ops : Array Oper} {rest : List Oper} {o : Oper} {a : Act} {Q : Exit → Act → World → Prop} (hgd : o.guard = none) (sl x : Operand)
    (ho : o.op = .call { callee := .builtin .append, args := #[sl, x], argTypes := #[45, 45] })
    (v : Value) (L : List UInt8) (hs : a.eval sl = v) (hO : OwnF w w0.heap.size v L) (hB : But [] w0 w) (y : UInt8) {g : Nat} (hx : a.eval x = .slice (some ⟨g, 0, none⟩) 1 1) (hI : Is w g 5 #[.int .u8 (y.toNat : Int)]) (hbound : L.length < 140737488355328)
    (h : ∀ A c w', Hid (OwnF w' w0.heap.size (.slice A (L.length + 1) c) (L ++ [y])) → Hid (But [] w0 w') → Hid (KeepT w w') → wpList Tryd.prog ops Q rest (a.put o.dst (.slice A (L.length + 1) c)) w') : wpList Tryd.prog ops Q (o :: rest) a w := by
  obtain ⟨i0, hi0, hz0, hz1, hz2⟩ := info_parts info_u8F
  refine wpList_append_own_at w hgd sl x 45 ho w0.heap.size 5 i0 _ 1 1 Tryd.underlying45 hi0 hz0 hz1 hz2 rfl (by decide) v L.length (cellsF L) hs hO ⟨g, 0, none⟩ 1 1 [.int .u8 (y.toNat : Int)] hx rfl (news_is hI) (by simp [Value.oneCell']) (by unfold maxLen; omega) (by omega) hB.size ?_
  intro v' w' hown hgrow _ hat
  have hO2 : OwnF w' w0.heap.size v' (L ++ [y]) := by
    unfold OwnF
    rw [List.length_append, cellsF_append]
    exact hown
  obtain ⟨A, c, rfl⟩ := hO2.shape
  have key := h A c w'
  rw [List.length_append] at hO2 ⊢
  exact key (Lib.hid hO2) (Lib.hid (hB.grown hgrow (fun k e => .inr (hO.lt k e)))) (Lib.hid (keepT_of hO hgrow))
/-- The bytes of a string appended, all else of other kinds kept. -/
theorem wpList_append_sK {w0 : World} (w : World) {ops : Array Oper} {rest : List Oper} {o : Oper} {a : Act} {Q : Exit → Act → World → Prop} (hgd : o.guard = none) (sl x : Operand)
    (ho : o.op = .call { callee := .builtin .append, args := #[sl, x], argTypes := #[45, 9] })
    (v : Value) (L : List UInt8) (hs : a.eval sl = v) (hO : OwnF w w0.heap.size v L) (hB : But [] w0 w) (s : ByteArray) (hx : a.eval x = .string s) (hbound : L.length + s.size ≤ 140737488355328)
    (h : ∀ A c w', Hid (OwnF w' w0.heap.size (.slice A (L.length + s.size) c) (L ++ s.data.toList)) → Hid (But [] w0 w') → Hid (KeepT w w') → wpList Tryd.prog ops Q rest (a.put o.dst (.slice A (L.length + s.size) c)) w') : wpList Tryd.prog ops Q (o :: rest) a w := by
  obtain ⟨i0, hi0, hz0, hz1, hz2⟩ := info_parts info_u8F
  refine Lib.wpList_append_own_string w hgd sl x 45 9 ho w0.heap.size 5 i0 Tryd.underlying45 Tryd.underlying9 hi0 hz0 hz1 hz2 v L.length (cellsF L) hs hO s hx (by unfold maxLen; omega) hbound hB.size ?_
  intro v' w' hown hgrow _
  have hs : s.data.toList.length = s.size := by rw [Array.length_toList]; rfl
  have hO2 : OwnF w' w0.heap.size v' (L ++ s.data.toList) := by
    unfold OwnF
    rw [List.length_append, cellsF_append, hs]
    exact hown
  obtain ⟨A, c, rfl⟩ := hO2.shape
  have key := h A c w'
  rw [List.length_append, hs] at hO2 ⊢
  exact key (Lib.hid hO2) (Lib.hid (hB.grown hgrow (fun k e => .inr (hO.lt k e)))) (Lib.hid (keepT_of hO hgrow))
/-- Numbers of another slice appended. -/
theorem wpList_append_nP {w0 : World} (w : World) {ops : Array Oper} {rest : List Oper} {o : Oper} {a : Act} {Q : Exit → Act → World → Prop} (hgd : o.guard = none) (sl x : Operand)
    (ho : o.op = .call { callee := .builtin .append, args := #[sl, x], argTypes := #[37, 37] })
    (v : Value) (L : List Nat) (hs : a.eval sl = v) (hO : OwnN w w0.heap.size v L) (hB : But [] w0 w) {g o2 m c : Nat} {M : List Nat} (hx : a.eval x = .slice (some ⟨g, o2, none⟩) m c) (hM : Nums w (some ⟨g, o2, none⟩) m M) (hm : 0 < m) (hbound : L.length + m < 1000000000)
    (h : ∀ A c w', Hid (OwnN w' w0.heap.size (.slice A (L.length + m) c) (L ++ M)) → Hid (But [] w0 w') → wpList Tryd.prog ops Q rest (a.put o.dst (.slice A (L.length + m) c)) w') : wpList Tryd.prog ops Q (o :: rest) a w := by
  obtain ⟨i0, hi0, hz0, hz1, hz2⟩ := info_parts info_intN
  have hl := hM.1
  refine wpList_append_own_at w hgd sl x 37 ho w0.heap.size 3 i0 _ 1 8 Tryd.underlying37 hi0 hz0 hz1 hz2 rfl (by decide) v L.length (nCells L) hs hO ⟨g, o2, none⟩ m c (nCells M) hx (by rw [nCells_length, hl, Nat.mul_one]) ?_ ?_ (by unfold maxLen; omega) (by omega) hB.size ?_
  · intro j u hj
    obtain ⟨g', o', e, _, hc⟩ := hM.2 hm
    injection e with e
    injection e with e1 e2
    subst e1 e2
    unfold nCells at hj
    rw [List.getElem?_map] at hj
    cases hq : M[j]? with
    | none => rw [hq] at hj; cases hj
    | some q =>
      rw [hq] at hj
      have hj : Value.int .i64 (q : Nat) = u := Option.some.inj hj
      obtain ⟨hlt, hqe⟩ := List.getElem?_eq_some_iff.1 hq
      have hcj := hc j hlt
      rw [hqe, hj] at hcj
      have e2 : (⟨g, o2, none⟩ : Addr).add j = ⟨g, o2 + j, none⟩ := by unfold Addr.add; split <;> simp_all
      rw [e2]
      exact hcj
  · intro u hu
    unfold nCells at hu
    obtain ⟨q, _, rfl⟩ := List.mem_map.1 hu
    simp [Value.oneCell']
  · intro v' w' hown hgrow _ hat
    have hO2 : OwnN w' w0.heap.size v' (L ++ M) := by
      unfold OwnN
      rw [List.length_append, nCells_append, hl]
      exact hown
    obtain ⟨A, c2, rfl, _⟩ := hO2.shape
    have key := h A c2 w'
    rw [List.length_append, hl] at hO2 ⊢
    exact key (Lib.hid hO2) (Lib.hid (hB.grown hgrow (fun k e => .inr (hO.lt k e))))
/-- The samples of the first pixels of a row. -/
def rowTo (S : ShP) (v : List Nat) (j : RowJ) (x : Nat) : List Nat := ((List.range x).map fun i => (j.x + i * j.dx, j.y)).flatMap fun p => valsV S v p.1 p.2
theorem rowTo_all (S : ShP) (v : List Nat) (j : RowJ) : rowTo S v j j.n = rowV S v j := rfl
theorem rowTo_next (S : ShP) (v : List Nat) (j : RowJ) (x : Nat) : rowTo S v j (x + 1) = rowTo S v j x ++ valsV S v (j.x + x * j.dx) j.y := by
  unfold rowTo
  rw [List.range_succ, List.map_append, List.flatMap_append]
  simp
theorem rowTo_length (S : ShP) (v : List Nat) (j : RowJ) (x : Nat) : (rowTo S v j x).length = samplesN S.c * x := by
  have h := rowV_length S v ⟨j.x, j.dx, j.y, x, j.first⟩
  exact h
theorem valsV_cut {S : ShP} {v : List Nat} {a b : Nat} (h : samplesN S.c * (b * S.w + a) + samplesN S.c ≤ v.length) : valsV S v a b = (v.drop (samplesN S.c * (b * S.w + a))).take (samplesN S.c) := by
  unfold valsV
  apply List.ext_getElem
  · rw [List.length_map, List.length_range, List.length_take, List.length_drop]
    omega
  · intro i h1 h2
    rw [List.length_map, List.length_range] at h1
    rw [List.getElem_map, List.getElem_range, List.getElem_take, List.getElem_drop, List.getD_eq_getElem?_getD, List.getElem?_eq_getElem (by omega)]
    rfl
theorem valsV_lt {S : ShP} {v : List Nat} (hv : ∀ k, v.getD k 0 < 65536) (a b : Nat) : ∀ q ∈ valsV S v a b, q < 65536 := by
  intro q hq
  unfold valsV at hq
  obtain ⟨i, _, rfl⟩ := List.mem_map.1 hq
  exact hv _
theorem rowV_lt {S : ShP} {v : List Nat} (hv : ∀ k, v.getD k 0 < 65536) (j : RowJ) : ∀ q ∈ rowV S v j, q < 65536 := by
  intro q hq
  unfold rowV at hq
  obtain ⟨p, _, hp⟩ := List.mem_flatMap.1 hq
  exact valsV_lt hv _ _ q hp
theorem lowN_map {L : List Nat} (h : ∀ q ∈ L, q < 65536) : (L.map fun x => ((x : Nat) : Int)).map lowN = L := by
  rw [List.map_map]
  induction L with
  | nil => rfl
  | cons q L ih =>
    rw [List.map_cons, ih fun q hq => h q (List.mem_cons_of_mem _ hq)]
    have hq := h q (List.mem_cons_self ..)
    congr 1
    show lowN (q : Int) = q
    unfold lowN
    omega
theorem zfit_nat {L : List Nat} (h : ∀ q ∈ L, q < 65536) : ZFit (L.map fun x => ((x : Nat) : Int)) := by
  intro x hx
  obtain ⟨q, hq, rfl⟩ := List.mem_map.1 hx
  have := h q hq
  omega
/-- The line above a pass's first row makes no difference. -/
theorem packI_above {S : ShP} {v : List Nat} {kind : Nat → Int} {js : List RowJ} (h : ∀ j, js.head? = some j → j.first = true) (k : Nat) (A B : List UInt8) : packI S v kind js k A = packI S v kind js k B := by
  cases js with
  | nil => rfl
  | cons j js =>
    have hj := h j rfl
    rw [packI, packI, hj]
    rfl
theorem packI_next {S : ShP} {v : List Nat} {kind : Nat → Int} {j : RowJ} {js : List RowJ} {k : Nat} {ab : List UInt8} (hab : j.first = true → ab = []) :
    packI S v kind (j :: js) k ab = UInt8.ofNat (kindP S kind k (packT S.d (rowV S v j)) ab) :: (doF (kindP S kind k (packT S.d (rowV S v j)) ab : Nat) (bppN S) (packT S.d (rowV S v j)) ab ++ packI S v kind js (k + 1) (packT S.d (rowV S v j))) := by
  rw [packI]
  have e : (if j.first = true then [] else ab) = ab := by
    by_cases h : j.first = true
    · rw [if_pos h, hab h]
    · rw [if_neg h]
  rw [e]
end Go.Proofs.YtfiedoejdikcgaaDoor
