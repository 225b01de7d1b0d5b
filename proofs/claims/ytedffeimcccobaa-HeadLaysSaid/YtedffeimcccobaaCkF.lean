/- Chunks that are handed in: a slice of them, one of them. -/
import Derived.Test.YtedffeimcccobaaCkE
import Derived.SizedLaws
import Derived.ProofKit
import Derived.OpenShut
set_option maxRecDepth 100000
set_option linter.unusedVariables false
namespace Go.Proofs.Ytedffeimcccobaa
set_option maxRecDepth 100000
open Go Go.RowKit Go.ChangeShapes Go.WideShapes

theorem weightsAll_mem {H : Type} {P : Program} {e : TypeId} : ∀ {l : List (DataW H)} {d : DataW H}, d ∈ l → ∀ n ∈ d.weights P e, n ∈ DataW.weightsAll P e l
  | x :: l, d, hd, n, hn => by
    simp only [DataW.weightsAll, List.mem_append]
    rcases List.mem_cons.1 hd with rfl | hd
    · exact Or.inl hn
    · exact Or.inr (weightsAll_mem hd n hn)
theorem ck_types : (Try.prog.fieldsOf 30).toList.map (·.type) = [9, 9] := by kernel_rfl
theorem cells_str : Try.prog.cellsOf 9 = 1 := by kernel_rfl
theorem cells_ck : Try.prog.cellsOf 30 = 2 := by kernel_rfl
/-- A chunk's two cells, as they read. -/
theorem open_pair {H : Type} {enc : TypeId × Value → H} {W : World} {base : Nat} {sp : _} {held : Bool} {n : Nat} {cs : List Value} {D : DataW H} {pl : List MemPlace} (h : DataW.trod enc Try.prog W base sp held n 30 cs = some (D, pl)) :
    ∃ a b : ByteArray, cs = [.string a, .string b] ∧ D = .agg [.lit (.string a.data.toList), .lit (.string b.data.toList)] := by
  obtain ⟨ys, n', _, hD, hcl, hyl, hfs⟩ := DataW.trod_struct Try.underlying30 h
  rw [cells_ck] at hcl
  match cs, hcl with
  | [x0, x1], _ =>
    have g0 := hfs 0 _ rfl
    have g1 := hfs 1 _ rfl
    have hy : ys.length = 2 := hyl
    match ys, hy with
    | [y0, y1], _ =>
      obtain ⟨a, c0, d0, _⟩ := DataW.trod_string Try.underlying9 (x := y0) g0
      obtain ⟨b, c1, d1, _⟩ := DataW.trod_string Try.underlying9 (x := y1) g1
      have c0 : ([x0, x1].drop 0).take (Try.prog.cellsOf 9) = [.string a] := c0
      have c1 : ([x0, x1].drop 1).take (Try.prog.cellsOf 9) = [.string b] := c1
      rw [cells_str] at c0 c1
      have e0 : x0 = .string a := by simpa using c0
      have e1 : x1 = .string b := by simpa using c1
      refine ⟨a, b, by rw [e0, e1], ?_⟩
      have hD1 := (Prod.mk.inj hD).1
      rw [hD1, d0, d1]
      rfl
theorem weights_ck {H : Type} {a b : List UInt8} : (DataW.agg [.lit (.string a), .lit (.string b)] : DataW H).weights Try.prog 30 = [a.length, b.length] := by
  simp only [DataW.weights, Try.underlying30]
  rfl
/-- A slice of chunks that is handed in. -/
def CkArg (w : World) (A : Option Addr) (len cap : Nat) (L : List Ck) : Prop := Cks w A len L ∧ len ≤ cap ∧ len * 32 ≤ 140737488351232 ∧ (A = none → cap = 0) ∧ ∀ (i : Nat) (c : Ck), L[i]? = some c → c.1.length ≤ 140737488351232 ∧ c.2.length ≤ 140737488351232
theorem open_cks {H : Type} {enc : TypeId × Value → H} {W : World} {base : Nat} {v : Value} {d : DataW H} {p : List MemPlace} (hv : Value.okWide Try.prog W .any base 33 v)
    (hk : DataW.Trod enc Try.prog W 0 (fun _ => true) true 33 v d p) {ts : List TypeId} {ds : List (DataW H)} (hsz : (DataW.weightsEach Try.prog ts ds).all (· ≤ reachBytes) = true) {j : Nat} (ht : ts[j]? = some 33) (hd : ds[j]? = some d) :
    ∃ A len cap L, v = .slice A len cap ∧ CkArg W A len cap L := by
  obtain ⟨a0, len, cap, rfl⟩ := okWide_slice Try.underlying33 hv
  obtain ⟨fuel, hf⟩ := hk
  rcases Deep.open_slice Try.underlying33 hf with ⟨hcs, _⟩ | ⟨a, len', cap', m, n, D, Pl, hcs, hb, hl, hm, hmm, hx, hi⟩
  · simp [Value.cells] at hcs
    obtain ⟨rfl, rfl, rfl⟩ := hcs
    exact ⟨none, 0, 0, [], rfl, ⟨rfl, fun h => absurd h (by omega)⟩, Nat.le_refl _, by omega, fun _ => rfl, fun i c h => by simp at h⟩
  · simp [Value.cells] at hcs
    obtain ⟨rfl, rfl, rfl⟩ := hcs
    have hmc : m = cap := by simpa using hmm
    rw [cells_ck] at hi
    have hr : reachBytes = 140737488351232 := rfl
    have hde : d = .slice ((List.range len).map D) ((List.range (m - len)).map fun j => D (len + j)) := (Prod.mk.inj hx).1
    have hbound : len * 32 ≤ 140737488351232 := by
      have h := sized_slice hsz (e := 30) ht (by rw [hd, hde]) Try.underlying33
      have hb8 : Try.prog.bytesOf 30 = 32 := by kernel_rfl
      rw [hb8, hr] at h
      simp only [List.length_map, List.length_range] at h
      omega
    have hel : ∀ i, i < len → ∃ q : Ck, (W.cell? (a.add (i * 2 + 0)) = some (.string (strL q.1)) ∧ W.cell? (a.add (i * 2 + 1)) = some (.string (strL q.2))) ∧ q.1.length ≤ 140737488351232 ∧ q.2.length ≤ 140737488351232 := by
      intro i hil
      obtain ⟨cs', h1, h2⟩ := hi i (by omega)
      obtain ⟨_, hlen, hat⟩ := World.cells?_some h1
      obtain ⟨x, y, rfl, hD⟩ := open_pair h2
      have hw : ∀ k ∈ [x.data.toList.length, y.data.toList.length], k ≤ reachBytes := fun k hk => by
        have hmem : D i ∈ (List.range len).map D := List.mem_map.2 ⟨i, List.mem_range.2 hil, rfl⟩
        have h1 := weightsAll_mem (P := Try.prog) (e := 30) hmem k (by rw [hD, weights_ck]; exact hk)
        have h2 : k ∈ d.weights Try.prog 33 := by
          rw [hde]
          simp only [DataW.weights, Try.underlying33, List.mem_cons, List.mem_append]
          exact Or.inr (Or.inl h1)
        have h3 := List.all_eq_true.1 hsz k (DataW.weights_mem_each ht hd k h2)
        simpa using h3
      rw [← Deep.add_add, ← Deep.add_add]
      refine ⟨(x.data.toList, y.data.toList), ⟨by rw [hat 0 (by omega)]; simp [strL_of], by rw [hat 1 (by omega)]; simp [strL_of]⟩, ?_, ?_⟩
      · have := hw x.data.toList.length (by simp); rw [hr] at this; exact this
      · have := hw y.data.toList.length (by simp); rw [hr] at this; exact this
    obtain ⟨V, hV⟩ := Deep.choose_lt hel
    refine ⟨some a, len, cap, (List.range len).map V, rfl, ⟨by simp, fun hp => ?_⟩, hl, hbound, (fun e => by cases e), fun i c h => ?_⟩
    · obtain ⟨g, o, spot⟩ := a
      have hs : spot = none := by
        have := World.cell?_spot (hV 0 hp).1.1
        simpa [Addr.add] using this
      subst hs
      have hlt : g < W.heap.size := by
        have := World.block_lt_of_cell? W _ (hV 0 hp).1.1
        simpa [Addr.add] using this
      refine ⟨g, o, rfl, hlt, fun i hi => ?_⟩
      have hi' : i < len := by simpa using hi
      obtain ⟨⟨c0, c1⟩, _⟩ := hV i hi'
      rw [add_plain] at c0 c1
      simp only [List.getElem_map, List.getElem_range]
      exact ⟨c0, by rw [Nat.add_assoc]; exact c1⟩
    · have hil : i < len := by
        have := (List.getElem?_eq_some_iff.1 h).1
        simpa using this
      rw [List.getElem?_map, List.getElem?_range hil] at h
      have e : V i = c := by simpa using h
      rw [← e]
      exact (hV i hil).2
/-- A chunk that is handed in. -/
theorem open_ck {H : Type} {enc : TypeId × Value → H} {W : World} {base : Nat} {v : Value} {d : DataW H} {p : List MemPlace} (hv : Value.okWide Try.prog W .any base 30 v)
    (hk : DataW.Trod enc Try.prog W 0 (fun _ => true) true 30 v d p) {ts : List TypeId} {ds : List (DataW H)} (hsz : (DataW.weightsEach Try.prog ts ds).all (· ≤ reachBytes) = true) {j : Nat} (ht : ts[j]? = some 30) (hd : ds[j]? = some d) :
    ∃ a b : ByteArray, v = .agg #[.string a, .string b] ∧ a.size ≤ 140737488351232 ∧ b.size ≤ 140737488351232 := by
  obtain ⟨cs, rfl, hcs⟩ := okWide_struct Try.underlying30 hv
  obtain ⟨fuel, hf⟩ := hk
  obtain ⟨x, y, e, hD⟩ := open_pair hf
  have hr : reachBytes = 140737488351232 := rfl
  have hw : ∀ k ∈ [x.data.toList.length, y.data.toList.length], k ≤ reachBytes := fun k hk => by
    have h3 := List.all_eq_true.1 hsz k (DataW.weights_mem_each ht hd k (by rw [hD, weights_ck]; exact hk))
    simpa using h3
  refine ⟨x, y, ?_, ?_, ?_⟩
  · obtain ⟨l⟩ := cs
    simp only [Value.cells] at e
    have e2 : l = [.string x, .string y] := by simpa using e
    rw [e2]
  · have := hw x.data.toList.length (by simp); rw [hr, Array.length_toList] at this; exact this
  · have := hw y.data.toList.length (by simp); rw [hr, Array.length_toList] at this; exact this
/-- A file has no more chunks than bytes. -/
theorem splK_few : ∀ (f : Nat) (s : List UInt8) (out : List Ck), (splK f s out).1.length ≤ out.length + s.length
  | 0, s, out => Nat.le_add_right _ _
  | f + 1, s, out => by
    unfold splK
    split
    · exact Nat.le_add_right _ _
    · split
      · exact Nat.zero_le _
      · split
        · exact Nat.zero_le _
        · split
          · exact Nat.zero_le _
          · split
            · exact Nat.zero_le _
            · have h := splK_few f (s.drop (12 + ofL (s.take 4))) (out ++ [((s.drop 4).take 4, (s.drop 8).take (ofL (s.take 4)))])
              rw [List.length_append, List.length_singleton, List.length_drop] at h
              omega
theorem split_few (s : List UInt8) : (splT s).1.length ≤ s.length := by
  unfold splT
  split
  · exact Nat.zero_le _
  · have h := splK_few s.length (s.drop 8) []
    rw [List.length_drop, List.length_nil] at h
    omega
end Go.Proofs.Ytedffeimcccobaa
