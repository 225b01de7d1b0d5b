/- A head that is handed in; strings that are handed in. -/
import Derived.Test.YtedffeimcccobaaCkF
set_option maxRecDepth 100000
set_option linter.unusedVariables false
namespace Go.Proofs.Ytedffeimcccobaa
set_option maxRecDepth 100000
open Go Go.RowKit Go.ChangeShapes Go.WideShapes
theorem cells_intH : Try.prog.cellsOf 3 = 1 := by kernel_rfl
theorem cells_head : Try.prog.cellsOf 23 = 5 := by kernel_rfl
/-- A head that is handed in: five numbers. -/
theorem open_head {H : Type} {enc : TypeId × Value → H} {W : World} {base : Nat} {v : Value} {d : DataW H} {p : List MemPlace} (hv : Value.okWide Try.prog W .any base 23 v)
    (hk : DataW.Trod enc Try.prog W 0 (fun _ => true) true 23 v d p) {ts : List TypeId} {ds : List (DataW H)} (_hsz : (DataW.weightsEach Try.prog ts ds).all (· ≤ reachBytes) = true) {j : Nat} (_ht : ts[j]? = some 23) (_hd : ds[j]? = some d) :
    ∃ a b e c l : Int, v = .agg #[.int .i64 a, .int .i64 b, .int .i64 e, .int .i64 c, .int .i64 l] ∧ ((Lit.int .i64 a).wf = true ∧ (Lit.int .i64 b).wf = true ∧ (Lit.int .i64 e).wf = true ∧ (Lit.int .i64 c).wf = true ∧ (Lit.int .i64 l).wf = true) := by
  obtain ⟨cs, rfl, hcs⟩ := okWide_struct Try.underlying23 hv
  obtain ⟨fuel, hf⟩ := hk
  obtain ⟨ys, n', _, _, hcl, hyl, hfs⟩ := DataW.trod_struct Try.underlying23 hf
  rw [cells_head] at hcl
  obtain ⟨xs, hxs⟩ : ∃ xs, xs = (Value.agg cs).cells.toList := ⟨_, rfl⟩
  rw [← hxs] at hcl hfs
  match xs, hcl with
  | [x0, x1, x2, x3, x4], _ =>
    have g0 := hfs 0 _ rfl
    have g1 := hfs 1 _ rfl
    have g2 := hfs 2 _ rfl
    have g3 := hfs 3 _ rfl
    have g4 := hfs 4 _ rfl
    have hy : ys.length = 5 := hyl
    match ys, hy with
    | [y0, y1, y2, y3, y4], _ =>
      obtain ⟨q0, c0, _, w0⟩ := DataW.trod_int Try.underlying3 (x := y0) g0
      obtain ⟨q1, c1, _, w1⟩ := DataW.trod_int Try.underlying3 (x := y1) g1
      obtain ⟨q2, c2, _, w2⟩ := DataW.trod_int Try.underlying3 (x := y2) g2
      obtain ⟨q3, c3, _, w3⟩ := DataW.trod_int Try.underlying3 (x := y3) g3
      obtain ⟨q4, c4, _, w4⟩ := DataW.trod_int Try.underlying3 (x := y4) g4
      have c0 : ([x0, x1, x2, x3, x4].drop 0).take (Try.prog.cellsOf 3) = [.int .i64 q0] := c0
      have c1 : ([x0, x1, x2, x3, x4].drop 1).take (Try.prog.cellsOf 3) = [.int .i64 q1] := c1
      have c2 : ([x0, x1, x2, x3, x4].drop 2).take (Try.prog.cellsOf 3) = [.int .i64 q2] := c2
      have c3 : ([x0, x1, x2, x3, x4].drop 3).take (Try.prog.cellsOf 3) = [.int .i64 q3] := c3
      have c4 : ([x0, x1, x2, x3, x4].drop 4).take (Try.prog.cellsOf 3) = [.int .i64 q4] := c4
      rw [cells_intH] at c0 c1 c2 c3 c4
      have e0 : x0 = .int .i64 q0 := by simpa using c0
      have e1 : x1 = .int .i64 q1 := by simpa using c1
      have e2 : x2 = .int .i64 q2 := by simpa using c2
      have e3 : x3 = .int .i64 q3 := by simpa using c3
      have e4 : x4 = .int .i64 q4 := by simpa using c4
      refine ⟨q0, q1, q2, q3, q4, ?_, w0, w1, w2, w3, w4⟩
      obtain ⟨l⟩ := cs
      simp only [Value.cells] at hxs
      have e : l = [x0, x1, x2, x3, x4] := by simpa using hxs.symm
      rw [e, e0, e1, e2, e3, e4]
/-- The strings that a slice holds. -/
def Sts (w : World) (A : Option Addr) (n : Nat) (L : List ByteArray) : Prop := L.length = n ∧ (0 < n → ∃ g o, A = some ⟨g, o, none⟩ ∧ g < w.heap.size ∧ ∀ i (hi : i < L.length), w.cell? ⟨g, o + i, none⟩ = some (.string L[i]))
theorem Sts.at {w : World} {A : Option Addr} {n : Nat} {L : List ByteArray} (h : Sts w A n L) {i : Nat} (hi : i < n) :
    ∃ g o c, A = some ⟨g, o, none⟩ ∧ g < w.heap.size ∧ w.cell? ⟨g, o + i, none⟩ = some (.string c) ∧ L[i]? = some c := by
  obtain ⟨g, o, e, hg, hc⟩ := h.2 (by omega)
  have hl : i < L.length := by have := h.1; omega
  exact ⟨g, o, _, e, hg, hc i hl, List.getElem?_eq_getElem hl⟩
/-- A slice of strings that is handed in. -/
def StsArg (w : World) (A : Option Addr) (len : Nat) (L : List ByteArray) : Prop := Sts w A len L ∧ ∀ (i : Nat) (c : ByteArray), L[i]? = some c → c.size ≤ 140737488351232
theorem weights_str {H : Type} {a : List UInt8} : (DataW.lit (.string a) : DataW H).weights Try.prog 9 = [a.length] := by
  simp only [DataW.weights]
theorem open_strs {H : Type} {enc : TypeId × Value → H} {W : World} {base : Nat} {v : Value} {d : DataW H} {p : List MemPlace} (hv : Value.okWide Try.prog W .any base 40 v)
    (hk : DataW.Trod enc Try.prog W 0 (fun _ => true) true 40 v d p) {ts : List TypeId} {ds : List (DataW H)} (hsz : (DataW.weightsEach Try.prog ts ds).all (· ≤ reachBytes) = true) {j : Nat} (ht : ts[j]? = some 40) (hd : ds[j]? = some d) :
    ∃ A len cap L, v = .slice A len cap ∧ StsArg W A len L ∧ len * 16 ≤ 140737488351232 := by
  obtain ⟨a0, len, cap, rfl⟩ := okWide_slice Try.underlying40 hv
  obtain ⟨fuel, hf⟩ := hk
  rcases Deep.open_slice Try.underlying40 hf with ⟨hcs, _⟩ | ⟨a, len', cap', m, n, D, Pl, hcs, hb, hl, hm, hmm, hx, hi⟩
  · simp [Value.cells] at hcs
    obtain ⟨rfl, rfl, rfl⟩ := hcs
    exact ⟨none, 0, 0, [], rfl, ⟨⟨rfl, fun h => absurd h (by omega)⟩, fun i c h => by simp at h⟩, by omega⟩
  · simp [Value.cells] at hcs
    obtain ⟨rfl, rfl, rfl⟩ := hcs
    have hmc : m = cap := by simpa using hmm
    rw [cells_str] at hi
    have hr : reachBytes = 140737488351232 := rfl
    have hde : d = .slice ((List.range len).map D) ((List.range (m - len)).map fun j => D (len + j)) := (Prod.mk.inj hx).1
    have hbound : len * 16 ≤ 140737488351232 := by
      have h := sized_slice hsz (e := 9) ht (by rw [hd, hde]) Try.underlying40
      have hb8 : Try.prog.bytesOf 9 = 16 := by kernel_rfl
      rw [hb8, hr] at h
      simp only [List.length_map, List.length_range] at h
      omega
    have hel : ∀ i, i < len → ∃ q : ByteArray, W.cell? (a.add (i * 1 + 0)) = some (.string q) ∧ q.size ≤ 140737488351232 := by
      intro i hil
      obtain ⟨cs', h1, h2⟩ := hi i (by omega)
      obtain ⟨_, hlen, hat⟩ := World.cells?_some h1
      obtain ⟨x, rfl, hD, _⟩ := DataW.trod_string Try.underlying9 h2
      have hD : D i = .lit (.string x.data.toList) := (Prod.mk.inj hD).1
      have hw : x.data.toList.length ≤ reachBytes := by
        have hmem : D i ∈ (List.range len).map D := List.mem_map.2 ⟨i, List.mem_range.2 hil, rfl⟩
        have h1 := weightsAll_mem (P := Try.prog) (e := 9) hmem x.data.toList.length (by rw [hD, weights_str]; exact List.mem_singleton.2 rfl)
        have h2 : x.data.toList.length ∈ d.weights Try.prog 40 := by
          rw [hde]
          simp only [DataW.weights, Try.underlying40, List.mem_cons, List.mem_append]
          exact Or.inr (Or.inl h1)
        have h3 := List.all_eq_true.1 hsz _ (DataW.weights_mem_each ht hd _ h2)
        simpa using h3
      rw [← Deep.add_add]
      refine ⟨x, by rw [hat 0 (by omega)]; rfl, ?_⟩
      rw [hr, Array.length_toList] at hw; exact hw
    obtain ⟨V, hV⟩ := Deep.choose_lt hel
    refine ⟨some a, len, cap, (List.range len).map V, rfl, ⟨⟨by simp, fun hp => ?_⟩, fun i c h => ?_⟩, hbound⟩
    · obtain ⟨g, o, spot⟩ := a
      have hs : spot = none := by
        have := World.cell?_spot (hV 0 hp).1
        simpa [Addr.add] using this
      subst hs
      have hlt : g < W.heap.size := by
        have := World.block_lt_of_cell? W _ (hV 0 hp).1
        simpa [Addr.add] using this
      refine ⟨g, o, rfl, hlt, fun i hi => ?_⟩
      have hi' : i < len := by simpa using hi
      obtain ⟨c0, _⟩ := hV i hi'
      rw [add_plain] at c0
      simp only [List.getElem_map, List.getElem_range]
      rw [show o + (i * 1 + 0) = o + i by omega] at c0
      exact c0
    · have hil : i < len := by
        have := (List.getElem?_eq_some_iff.1 h).1
        simpa using this
      rw [List.getElem?_map, List.getElem?_range hil] at h
      have e : V i = c := by simpa using h
      rw [← e]
      exact (hV i hil).2
theorem Sts.but {w w' : World} {A : Option Addr} {n : Nat} {L : List ByteArray} (h : Sts w A n L) (hw : But [] w w') : Sts w' A n L := by
  refine ⟨h.1, fun hp => ?_⟩
  obtain ⟨g, o, e, hg, hc⟩ := h.2 hp
  exact ⟨g, o, e, Nat.lt_of_lt_of_le hg hw.size, fun i hi => hw.cell (hc i hi) (by simp)⟩
end Go.Proofs.Ytedffeimcccobaa
