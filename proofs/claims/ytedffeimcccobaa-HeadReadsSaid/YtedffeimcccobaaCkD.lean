/- Bytes of the call's own; the document's file of chunks. -/
import Derived.Test.YtedffeimcccobaaCkC
import Derived.Test.YtedffeimcccobaaWriteB
import Derived.Lib.SlBytesConst
set_option maxRecDepth 100000
set_option linter.unusedVariables false
namespace Go.Proofs.Ytedffeimcccobaa
set_option maxRecDepth 100000
open Go Go.RowKit
/-- Bytes of the call's own. -/
def OwnY (w : World) (base : Nat) (v : Value) (L : List UInt8) : Prop := w.ownsRow base 5 1 v L.length (cellsOf L)
theorem OwnY.nil (w : World) (base : Nat) : OwnY w base (.slice none 0 0) [] := World.ownsRow_nil _ _ _ _
theorem OwnY.but {w w' : World} {base : Nat} {v : Value} {L : List UInt8} (h : OwnY w base v L) (hw : But [] w w') : OwnY w' base v L := ownsRow_but h hw (fun _ _ => by simp)
theorem OwnY.strd {w wr w' : World} {v v' : Value} {L : List UInt8} {s : ByteArray} (hB : But [] w wr) (hO : OwnY wr w.heap.size v L)
    (h1 : w'.ownsRow w.heap.size 5 1 v' (L.length + s.size) (cellsOf L ++ Lib.strCells s)) (hg : wr.grownBy w' v.ownBlock) :
    OwnY w' w.heap.size v' (L ++ s.data.toList) ∧ But [] w w' := by
  refine ⟨?_, hB.grown hg (fun g e => .inr (World.ownsRow.lt hO g e).1)⟩
  unfold OwnY
  rw [List.length_append, cellsOf_append, show s.data.toList.length = s.size from Array.length_toList]
  exact h1
theorem OwnY.shape {w : World} {base : Nat} {v : Value} {L : List UInt8} (h : OwnY w base v L) : ∃ A c, v = .slice A L.length c := by
  obtain ⟨A, c, e, _⟩ := own_slice h
  exact ⟨A, c, e⟩
/-- Bytes of the call's own, or a full row of them, of which whatever may be marked. -/
def OwnQ (w : World) (base : Nat) (v : Value) (L : List UInt8) : Prop :=
  OwnY w base v L ∨ ∃ g, v = .slice (some ⟨g, 0, none⟩) L.length L.length ∧ base ≤ g ∧ g < w.heap.size ∧ ∀ j u, (cellsOf L)[j]? = some u → w.cell? ⟨g, j, none⟩ = some u
theorem OwnQ.but {w w' : World} {base : Nat} {v : Value} {L : List UInt8} (h : OwnQ w base v L) (hw : But [] w w') : OwnQ w' base v L := by
  rcases h with h | ⟨g, e, hb, hg, hc⟩
  · exact .inl (h.but hw)
  · exact .inr ⟨g, e, hb, Nat.lt_of_lt_of_le hg hw.size, fun j u hu => hw.cell (hc j u hu) (by simp)⟩
theorem OwnQ.lt {w : World} {base : Nat} {v : Value} {L : List UInt8} (h : OwnQ w base v L) : ∀ g, v.ownBlock = some g → base ≤ g := by
  rcases h with h | ⟨g, rfl, hb, _, _⟩
  · exact fun g e => (World.ownsRow.lt h g e).1
  · intro k e
    simp [Value.ownBlock] at e
    omega
theorem run_append_full (w : World) {base n : Nat} {i : TypeInfo} (hi : Try.prog.info? 5 = some i) (hz : i.zero = some (.int .u8 0)) (hsize : i.size = 1) (hby : i.bytes = 1) {g : Nat} {xs : List Value} (hxl : xs.length = n)
    (holds : ∀ j u, xs[j]? = some u → w.cell? ((⟨g, 0, none⟩ : Addr).add j) = some u) (s : ByteArray) (hs : 0 < s.size) (hbound : n + s.size ≤ 140737488355328) (hbase : base ≤ w.heap.size) (ty : TypeId) :
    ∃ c w', (Builtin.append_ #[48, 9] ty #[.slice (some ⟨g, 0, none⟩) n n, .string s]).run Try.prog w = .ok (.slice (some ⟨w.heap.size, 0, none⟩) (n + s.size) c) w' ∧ w'.ownsRow base 5 1 (.slice (some ⟨w.heap.size, 0, none⟩) (n + s.size) c) (n + s.size) (xs ++ Lib.strCells s) ∧ ∀ row, w.grownBy w' row := by
  have h63 : n + s.size ≤ maxLen := by unfold maxLen; omega
  have hlen : (xs ++ Lib.strCells s).length = (n + s.size) * 1 := by rw [List.length_append, hxl, Lib.strCells_length, Nat.mul_one]
  have hge := grownCap_ge w (n + s.size) n 5
  have hcm : grownCap w (n + s.size) n 5 ≤ maxLen := grownCap_le_maxLen w (n + s.size) n 5 h63
  have hr := Lib.run_append_grow_string (P := Try.prog) w 48 9 ty 5 i (.int .u8 0) Try.underlying48 Try.underlying9 hi hz ⟨g, 0, none⟩ n n xs (by rw [hsize]; simpa using hxl) holds s (by omega) (by omega) (by rw [hby]; exact growslice_fits (by omega) (by omega))
  refine ⟨_, _, hr, ⟨hlen, .inr ⟨w.heap.size, _, _, rfl, hbase, heap_alloc_new w.drew _, hge, hcm, ?_, ?_⟩⟩, fun row => ⟨rfl, rfl, rfl, by simp, fun k hk _ => heap_alloc_old w.drew _ hk⟩⟩
  · have hz1 : (Value.int IntKind.u8 0).cells.size = 1 := rfl
    simp only [Array.size_append, List.size_toArray, size_zeroCells, hz1, hxl, Lib.strCells_length]
    omega
  · simp only [Array.toList_append, List.append_assoc]
    rw [← List.append_assoc, ← hlen]
    exact List.take_left
theorem run_append_q (w : World) {base : Nat} {i : TypeInfo} (hi : Try.prog.info? 5 = some i) (hz : i.zero = some (.int .u8 0)) (hsize : i.size = 1) (hby : i.bytes = 1) {v : Value} {L : List UInt8} (hO : OwnQ w base v L) (s : ByteArray) (hs : 0 < s.size)
    (hbound : L.length + s.size ≤ 140737488355328) (hbase : base ≤ w.heap.size) (ty : TypeId) :
    ∃ A c w', (Builtin.append_ #[48, 9] ty #[v, .string s]).run Try.prog w = .ok (.slice A (L ++ s.data.toList).length c) w' ∧ OwnY w' base (.slice A (L ++ s.data.toList).length c) (L ++ s.data.toList) ∧ w.grownBy w' v.ownBlock := by
  have hsl : s.data.toList.length = s.size := Array.length_toList
  rcases hO with h | ⟨g, rfl, hb, hg, hc⟩
  · obtain ⟨v', w', hr, h2, h3, _⟩ := run_append_str (P := Try.prog) w base 48 9 ty 5 i Try.underlying48 Try.underlying9 hi hz hsize hby v L.length (cellsOf L) h s hbound hbase
    obtain ⟨A, c, rfl, _⟩ := own_slice h2
    refine ⟨A, c, w', ?_, ?_, h3⟩
    · rw [List.length_append, hsl]; exact hr
    · unfold OwnY
      rw [List.length_append, cellsOf_append, hsl]
      exact h2
  · obtain ⟨c, w', hr, h2, h3⟩ := run_append_full w hi hz hsize hby (n := L.length) (xs := cellsOf L) (cellsOf_length L) (fun j u hu => by
      have e2 : (⟨g, 0, none⟩ : Addr).add j = ⟨g, j, none⟩ := by unfold Addr.add; split <;> simp_all
      rw [e2]; exact hc j u hu) s hs hbound hbase ty
    refine ⟨some ⟨w.heap.size, 0, none⟩, c, w', ?_, ?_, h3 _⟩
    · rw [List.length_append, hsl]; exact hr
    · unfold OwnY
      rw [List.length_append, cellsOf_append, hsl]
      exact h2
/-- A string that is not empty, appended. -/
theorem wpList_append_q {w0 : World} (w : World) {ops : Array Oper} {rest : List Oper} {o : Oper} {a : Act} {Q : Exit → Act → World → Prop} (hgd : o.guard = none) (sl x : Operand)
    (ho : o.op = .call { callee := .builtin .append, args := #[sl, x], argTypes := #[48, 9] })
    {i : TypeInfo} (hi : Try.prog.info? 5 = some i) (hz : i.zero = some (.int .u8 0)) (hsize : i.size = 1) (hby : i.bytes = 1) (v : Value) (L : List UInt8) (hs : a.eval sl = v) (hO : OwnQ w w0.heap.size v L) (hB : But [] w0 w) (X : List UInt8) (hx : a.eval x = .string (strL X))
    (hpos : 0 < X.length) (hbound : L.length + X.length ≤ 140737488355328)
    (h : ∀ A c w' M, M = L ++ X → OwnY w' w0.heap.size (.slice A M.length c) M → But [] w0 w' → wpList Try.prog ops Q rest (a.put o.dst (.slice A M.length c)) w') : wpList Try.prog ops Q (o :: rest) a w := by
  refine wpList_plain hgd fun K hK => ?_
  obtain ⟨A, c, w', hr, h2, h3⟩ := run_append_q w hi hz hsize hby hO (strL X) (by rw [strL_size]; exact hpos) (by rw [strL_size]; exact hbound) hB.size o.type
  rw [strL_list] at hr h2
  unfold Oper.wp execOp
  simp only [ho, resolve, invoke, builtin, Sem.run_bind, Sem.run_pure, Result.andThen_ok, List.map_toArray, List.map_cons, List.map_nil, hs, hx, hr]
  exact hK _ _ (h A c w' _ rfl h2 (hB.grown h3 (fun g e => .inr (hO.lt g e))))
/-- A string, appended to bytes of the call's own. -/
theorem wpList_append_y {w0 : World} (w : World) {ops : Array Oper} {rest : List Oper} {o : Oper} {a : Act} {Q : Exit → Act → World → Prop} (hgd : o.guard = none) (sl x : Operand)
    (ho : o.op = .call { callee := .builtin .append, args := #[sl, x], argTypes := #[48, 9] })
    {i : TypeInfo} (hi : Try.prog.info? 5 = some i) (hz : i.zero = some (.int .u8 0)) (hsize : i.size = 1) (hby : i.bytes = 1) (v : Value) (L : List UInt8) (hs : a.eval sl = v) (hO : OwnY w w0.heap.size v L) (hB : But [] w0 w) (X : List UInt8) (hx : a.eval x = .string (strL X))
    (hbound : L.length + X.length ≤ 140737488355328)
    (h : ∀ A c w' M, M = L ++ X → OwnY w' w0.heap.size (.slice A M.length c) M → But [] w0 w' → wpList Try.prog ops Q rest (a.put o.dst (.slice A M.length c)) w') : wpList Try.prog ops Q (o :: rest) a w := by
  refine wpList_plain hgd fun K hK => ?_
  obtain ⟨v', w', hr, h2, h3, _⟩ := run_append_str (P := Try.prog) w w0.heap.size 48 9 o.type 5 i Try.underlying48 Try.underlying9 hi hz hsize hby v L.length (cellsOf L) hO (strL X) (by rw [strL_size]; exact hbound) hB.size
  obtain ⟨A, c, rfl, _⟩ := own_slice h2
  have h4 := OwnY.strd hB hO h2 h3
  rw [strL_list] at h4
  have e : L.length + (strL X).size = (L ++ X).length := by rw [strL_size, List.length_append]
  rw [e] at hr h4
  unfold Oper.wp execOp
  simp only [ho, resolve, invoke, builtin, Sem.run_bind, Sem.run_pure, Result.andThen_ok, List.map_toArray, List.map_cons, List.map_nil, hs, hx, hr]
  exact hK _ _ (h A c w' _ rfl h4.1 h4.2)
/-- The same at a step of a region that draws its order. -/
theorem step_append_y {w0 : World} (w : World) {ops : Array Oper} {o : Oper} {a : Act} {K : Act → World → Prop} {Q : Exit → Act → World → Prop} {E : Prop} (hgd : o.guard = none) (sl x : Operand)
    (ho : o.op = .call { callee := .builtin .append, args := #[sl, x], argTypes := #[48, 9] })
    {i : TypeInfo} (hi : Try.prog.info? 5 = some i) (hz : i.zero = some (.int .u8 0)) (hsize : i.size = 1) (hby : i.bytes = 1) (v : Value) (L : List UInt8) (hs : a.eval sl = v) (hO : OwnY w w0.heap.size v L) (hB : But [] w0 w) (X : List UInt8) (hx : a.eval x = .string (strL X))
    (hbound : L.length + X.length ≤ 140737488355328)
    (h : ∀ A c w' M, M = L ++ X → OwnY w' w0.heap.size (.slice A M.length c) M → But [] w0 w' → K (a.put o.dst (.slice A M.length c)) w') : if Region.wanted o (yielded ops a.tmps) = true then Oper.wp Try.prog o a w K Q else E := by
  have hw : Region.wanted o (yielded ops a.tmps) = true := by simp [Region.wanted, hgd]
  rw [if_pos hw]
  obtain ⟨v', w', hr, h2, h3, _⟩ := run_append_str (P := Try.prog) w w0.heap.size 48 9 o.type 5 i Try.underlying48 Try.underlying9 hi hz hsize hby v L.length (cellsOf L) hO (strL X) (by rw [strL_size]; exact hbound) hB.size
  obtain ⟨A, c, rfl, _⟩ := own_slice h2
  have h4 := OwnY.strd hB hO h2 h3
  rw [strL_list] at h4
  have e : L.length + (strL X).size = (L ++ X).length := by rw [strL_size, List.length_append]
  rw [e] at hr h4
  unfold Oper.wp execOp
  simp only [ho, resolve, invoke, builtin, Sem.run_bind, Sem.run_pure, Result.andThen_ok, List.map_toArray, List.map_cons, List.map_nil, hs, hx, hr]
  exact h A c w' _ rfl h4.1 h4.2
theorem OwnQ.text {w : World} {base : Nat} {v : Value} {L : List UInt8} (h : OwnQ w base v L) : (convert 48 9 v).run Try.prog w = .ok (.string (strL L)) w := by
  rcases h with h | ⟨g, rfl, hb, hg, hc⟩
  · exact own_text h
  · exact conv_atZ (L := L) (cap := L.length) fun j hj => hc j _ (by simp [cellsOf, hj])
/-- How many bytes chunks are at most. -/
def sizeC (L : List Ck) : Nat := (L.map fun c => 12 + c.1.length + c.2.length).sum
theorem sizeC_cons (c : Ck) (L : List Ck) : sizeC (c :: L) = 12 + c.1.length + c.2.length + sizeC L := by unfold sizeC; rw [List.map_cons, List.sum_cons]
theorem sizeC_at : ∀ (L : List Ck) (i : Nat) (c : Ck), L[i]? = some c → 12 + c.1.length + c.2.length ≤ sizeC L
  | [], i, c, h => by simp at h
  | x :: L, 0, c, h => by
    have : x = c := by simpa using h
    rw [sizeC_cons, this]; omega
  | x :: L, i + 1, c, h => by
    have := sizeC_at L i c (by simpa using h)
    rw [sizeC_cons]; omega
theorem encs_size : ∀ (L : List Ck), (encs L).length ≤ sizeC L
  | [] => Nat.le_refl _
  | c :: L => by
    have := encs_size L
    show (encC c ++ encs L).length ≤ _
    rw [List.length_append, sizeC_cons]
    have : (encC c).length = 8 + c.1.length + c.2.length := by
      unfold encC
      simp only [List.length_append, fourL_length]
      omega
    omega
theorem encs_take_size (L : List Ck) (i : Nat) : (encs (L.take i)).length ≤ sizeC L := by
  have h1 := encs_size (L.take i)
  have h2 : sizeC (L.take i) ≤ sizeC L := by
    have e : sizeC L = sizeC (L.take i) + sizeC (L.drop i) := by
      unfold sizeC
      rw [← List.sum_append, ← List.map_append, List.take_append_drop]
    omega
  omega
/-- How many bytes chunks are that may be. -/
def sizeD (L : List Ck) : Nat := (L.map fun c => if rightT c.1 = true then 16 + c.2.length else 0).sum
theorem sizeD_cons (c : Ck) (L : List Ck) : sizeD (c :: L) = (if rightT c.1 = true then 16 + c.2.length else 0) + sizeD L := by unfold sizeD; rw [List.map_cons, List.sum_cons]
theorem sizeD_le : ∀ (L : List Ck), sizeD L ≤ sizeC L
  | [] => Nat.le_refl _
  | c :: L => by
    have := sizeD_le L
    rw [sizeD_cons, sizeC_cons]
    split
    · rename_i h
      have := rightT_length h
      omega
    · omega
theorem sizeD_at : ∀ (L : List Ck) (i : Nat) (c : Ck), L[i]? = some c → rightT c.1 = true → 16 + c.2.length ≤ sizeD L
  | [], i, c, h, _ => by simp at h
  | x :: L, 0, c, h, hr => by
    have e : x = c := by simpa using h
    rw [sizeD_cons, e, if_pos hr]; omega
  | x :: L, i + 1, c, h, hr => by
    have := sizeD_at L i c (by simpa using h) hr
    rw [sizeD_cons]; omega
theorem encs_ok : ∀ (L : List Ck), L.all okC = true → (encs L).length ≤ sizeD L
  | [], _ => Nat.le_refl _
  | c :: L, h => by
    rw [List.all_cons, Bool.and_eq_true] at h
    have h1 := encs_ok L h.2
    have hr := ((okC_iff c).1 h.1).1
    have h4 := rightT_length hr
    show (encC c ++ encs L).length ≤ _
    rw [List.length_append, sizeD_cons, if_pos hr]
    have : (encC c).length = 8 + c.1.length + c.2.length := by
      unfold encC
      simp only [List.length_append, fourL_length]
      omega
    omega
theorem encs_take_ok (L : List Ck) (i : Nat) (h : (L.take i).all okC = true) : (encs (L.take i)).length ≤ sizeD L := by
  have h1 := encs_ok (L.take i) h
  have h2 : sizeD (L.take i) ≤ sizeD L := by
    have e : sizeD L = sizeD (L.take i) + sizeD (L.drop i) := by
      unfold sizeD
      rw [← List.sum_append, ← List.map_append, List.take_append_drop]
    omega
  omega
theorem take_next {L : List Ck} {i : Nat} {c : Ck} (h : L[i]? = some c) : L.take (i + 1) = L.take i ++ [c] := by
  rw [List.take_succ_eq_append_getElem (List.getElem?_eq_some_iff.1 h).1]
  congr 1
  rw [(List.getElem?_eq_some_iff.1 h).2]
/-- What a file of chunks is told as. -/
def tellJ (r : List UInt8 × Int) : Ending := .returned (.tuple #[.string (strL r.1), .int .i64 r.2])
theorem join_bad {L : List Ck} {i : Nat} {c : Ck} (h : L[i]? = some c) (hb : okC c = false) : joinT L = ([], 21) := by
  unfold joinT
  rw [if_neg]
  intro ha
  have := List.all_eq_true.1 ha c (List.mem_of_getElem? h)
  rw [hb] at this
  exact Bool.noConfusion this
theorem ok_bad {t d : List UInt8} (h : rightT t = false) : okC (t, d) = false := by unfold okC; rw [h]; rfl
theorem ok_good {t d : List UInt8} (h : rightT t = true) (hd : d.length ≤ 2147483647) : okC (t, d) = true := (okC_iff (t, d)).2 ⟨h, hd⟩
theorem strL_ap (a b : List UInt8) : strL a ++ strL b = strL (a ++ b) := (strL_append a b).symm
attribute [local irreducible] strL signL ofL crcSum rightT fourL encC
/-- What the signature is laid as. -/
def sgC : Array Value := #[.int .u8 137, .int .u8 80, .int .u8 78, .int .u8 71, .int .u8 13, .int .u8 10, .int .u8 26, .int .u8 10]
theorem sign_q (w : World) : OwnQ (w.alloc (.cells #[.int .u8 137, .int .u8 80, .int .u8 78, .int .u8 71, .int .u8 13, .int .u8 10, .int .u8 26, .int .u8 10] 5 (8, 9))) w.heap.size (.slice (some ⟨w.heap.size, 0, none⟩) 8 8) signL := by
  refine .inr ⟨w.heap.size, by unfold signL; rfl, Nat.le_refl _, by simp, fun j u hu => ?_⟩
  rw [World.cell?_alloc_mark]
  unfold signL cellsOf at hu
  have hj : j < 8 := (List.getElem?_eq_some_iff.1 hu).1
  match j, hj with
  | 0, _ => exact hu
  | 1, _ => exact hu
  | 2, _ => exact hu
  | 3, _ => exact hu
  | 4, _ => exact hu
  | 5, _ => exact hu
  | 6, _ => exact hu
  | 7, _ => exact hu
theorem four_pos (n : Nat) : 0 < (strL (fourL n)).size := by rw [strL_size, fourL_length]; decide
theorem right_four {t : List UInt8} (h : rightT t = true) : t.length = 4 := rightT_length h
theorem enc_is (c : Ck) : encC c = fourL c.2.length ++ (c.1 ++ (c.2 ++ fourL (crcSum (c.1 ++ c.2)))) := by unfold encC; rfl
end Go.Proofs.Ytedffeimcccobaa
