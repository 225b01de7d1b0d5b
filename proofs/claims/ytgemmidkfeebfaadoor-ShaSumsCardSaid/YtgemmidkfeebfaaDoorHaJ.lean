/- The document's constants and filled bytes, layer 14. -/
import Derived.Test.YtgemmidkfeebfaaDoorHaC
import Derived.Test.YtgemmidkfeebfaaDoorHaF
import Derived.ArgAppend
set_option maxRecDepth 100000
set_option linter.unusedVariables false
namespace Go.Proofs.YtgemmidkfeebfaaDoor
set_option maxRecDepth 100000
open Go Go.RowKit
theorem Is.of {w : World} {b : Nat} {t : TypeId} {cs cs' : Array Value} (h : Is w b t cs) (e : cs = cs') : Is w b t cs' := e ▸ h
theorem econst_any (w : World) : Calls Tryd.prog 15 #[] w fun e w' => ∃ g, e = .returned (.slice (some ⟨g, 0, none⟩) 64 64) ∧ Is w' g 3 (rowZ kSha 64) ∧ But [] w w' := by
  go_enter Tryd.func15, Tryd.ntmps15
  go_wp2
  go_ret
  exact ⟨_, rfl, (Is.fresh _ _ _).of (by kernel_rfl), (But.refl [] _).alloc _⟩
/-- Bytes in a block from base on, with spare cells that may be written. -/
def OwnG (w : World) (base : Nat) (v : Value) (L : List UInt8) : Prop :=
  ∃ g cap cur fr, v = .slice (some ⟨g, 0, none⟩) L.length cap ∧ base ≤ g ∧ w.heap[g]? = some (.cells cur 5 fr) ∧ L.length ≤ cap ∧ cur.size = cap ∧ (∀ i, i < cap → (decide (fr.1 ≤ i) && decide (i < fr.2)) = false) ∧ ∀ j, j < L.length → cur[j]? = some (.int .u8 ((L.getD j 0).toNat : Nat))
theorem OwnG.but {w w' : World} {base : Nat} {v : Value} {L : List UInt8} (h : OwnG w base v L) (hw : But [] w w') : OwnG w' base v L := by
  obtain ⟨g, cap, cur, fr, e, hb, hg, r⟩ := h
  exact ⟨g, cap, cur, fr, e, hb, (hw.block g (Array.getElem?_eq_some_iff.1 hg).1 (by simp)).trans hg, r⟩
theorem OwnG.shape {w : World} {base : Nat} {v : Value} {L : List UInt8} (h : OwnG w base v L) : ∃ g c, v = .slice (some ⟨g, 0, none⟩) L.length c ∧ base ≤ g ∧ g < w.heap.size ∧ L.length ≤ c := by
  obtain ⟨g, cap, cur, fr, e, hb, hg, hc, _⟩ := h
  exact ⟨g, cap, e, hb, (Array.getElem?_eq_some_iff.1 hg).1, hc⟩
theorem OwnG.row {w : World} {base : Nat} {v : Value} {L : List UInt8} (h : OwnG w base v L) : ∃ g c, v = .slice (some ⟨g, 0, none⟩) L.length c ∧ base ≤ g ∧ g < w.heap.size ∧ L.length ≤ c ∧ ByteRow w (some ⟨g, 0, none⟩) L.length L := by
  obtain ⟨g, cap, cur, fr, e, hb, hg, hc, _, _, hr⟩ := h
  refine ⟨g, cap, e, hb, (Array.getElem?_eq_some_iff.1 hg).1, hc, rfl, fun _ => ⟨g, 0, rfl, fun i hi => ?_⟩⟩
  have h0 := hr i hi
  rw [getD_lt hi] at h0
  simp [World.cell?, hg, h0]
/-- What '[]byte(s)' makes. -/
theorem OwnG.conv (w : World) (s : ByteArray) : (convert 9 26 (.string s)).run Tryd.prog w = .ok (.slice (some ⟨w.heap.size, 0, none⟩) s.size (grownCap w s.size 0 5))
      (w.drew.alloc (.cells (bytesRow s (grownCap w s.size 0 5)) 5 ((bytesRow s (grownCap w s.size 0 5)).size, (bytesRow s (grownCap w s.size 0 5)).size + 1))) ∧
    OwnG (w.drew.alloc (.cells (bytesRow s (grownCap w s.size 0 5)) 5 ((bytesRow s (grownCap w s.size 0 5)).size, (bytesRow s (grownCap w s.size 0 5)).size + 1))) w.heap.size (.slice (some ⟨w.heap.size, 0, none⟩) s.size (grownCap w s.size 0 5)) s.data.toList := by
  refine ⟨run_bytes_of_string w 9 26 5 s Tryd.underlying9 Tryd.underlying26 Tryd.underlying5, ?_⟩
  have hge := grownCap_ge w s.size 0 5
  have hsl : s.data.toList.length = s.size := Array.length_toList
  have hsz : (bytesRow s (grownCap w s.size 0 5)).size = grownCap w s.size 0 5 := by
    unfold bytesRow
    rw [Array.size_append, Array.size_map, Array.size_replicate]
    show s.size + _ = _
    omega
  refine ⟨w.heap.size, grownCap w s.size 0 5, _, _, by rw [hsl], Nat.le_refl _, heap_alloc_new w.drew _, by rw [hsl]; exact hge, hsz, fun i hi => ?_, fun j hj => ?_⟩
  · rw [hsz]
    simp
    omega
  · rw [hsl] at hj
    unfold bytesRow
    rw [Array.getElem?_append_left (by rw [Array.size_map]; exact hj), Array.getElem?_map, getD_byte s hj]
    have : s.data[j]? = some s[j] := Array.getElem?_eq_getElem hj
    rw [this]
    rfl
/-- One byte appended. -/
theorem wpList_append_g {w0 : World} (w : World) {ops : Array Oper} {rest : List Oper} {o : Oper} {a : Act} {Q : Exit → Act → World → Prop} (hgd : o.guard = none) (sl x : Operand)
    (ho : o.op = .call { callee := .builtin .append, args := #[sl, x], argTypes := #[26, 26] })
    (v : Value) (L : List UInt8) (hs : a.eval sl = v) (hO : OwnG w w0.heap.size v L) (hB : But [] w0 w) (y : UInt8) {g : Nat}
    (hx : a.eval x = .slice (some ⟨g, 0, none⟩) 1 1) (hI : Is w g 5 #[.int .u8 (y.toNat : Nat)]) (hbound : L.length + 1 ≤ 140737488355328)
    (h : ∀ g2 c w', Hid (OwnG w' w0.heap.size (.slice (some ⟨g2, 0, none⟩) (L.length + 1) c) (L ++ [y])) → Hid (But [] w0 w') → wpList Tryd.prog ops Q rest (a.put o.dst (.slice (some ⟨g2, 0, none⟩) (L.length + 1) c)) w') : wpList Tryd.prog ops Q (o :: rest) a w := by
  obtain ⟨i0, hi0, hz0, hz1, hz2⟩ := info_parts info_u8F
  obtain ⟨gv, cap, cur, fr, rfl, hb, hgv, hlc, hcs, hfr, hcur⟩ := hO
  have hcell : ∀ j, j < L.length → w.cell? ⟨gv, j, none⟩ = some (.int .u8 ((L.getD j 0).toNat : Nat)) := fun j hj => by simp [World.cell?, hgv, hcur j hj]
  refine wpList_append_arg w hgd sl x 26 ho 5 i0 (.int .u8 0) 1 1 Tryd.underlying26 hi0 hz0 hz1 hz2 rfl (by decide) gv 0 L.length cap (cellsF L) hs (by rw [cellsF_length, Nat.mul_one]) (fun j u hj => ?_) ⟨g, 0, none⟩ 1 1 [.int .u8 (y.toNat : Nat)] hx rfl (news_is hI) (by simp [Value.oneCell']) (fun hr j hj => ?_) (by unfold maxLen; omega) (by omega) (fun hr => ?_) (fun hr v' w' hown hgrow => ?_)
  · have hj2 : j < L.length := by
      rw [← cellsF_length L]; exact (List.getElem?_eq_some_iff.1 hj).1
    rw [Nat.zero_add, hcell j hj2, ← hj]
    unfold cellsF
    rw [List.getElem?_map, List.getElem?_eq_getElem hj2, getD_lt hj2]
    rfl
  · have hj0 : j = 0 := by simpa using hj
    subst hj0
    have hlt : L.length < cur.size := by omega
    refine ⟨by simp [World.cell?, hgv, hlt], ?_⟩
    have := hfr L.length (by omega)
    simp only [World.frozen?, Nat.zero_add, Nat.mul_one, Nat.add_zero, hgv]
    exact this
  · refine h gv cap _ (Lib.hid ?_) (Lib.hid ?_)
    · refine ⟨gv, cap, cur.setIfInBounds L.length (.int .u8 (y.toNat : Nat)), fr, by simp, hb, ?_, by simpa using hr, by rw [Array.size_setIfInBounds]; exact hcs, hfr, fun j hj => ?_⟩
      · simp [World.setCells, World.setCell, Array.getElem?_modify, hgv]
      · rw [List.length_append, List.length_singleton] at hj
        by_cases e : L.length = j
        · subst e
          rw [Array.getElem?_setIfInBounds_self, if_pos (by omega)]
          congr 3
          rw [List.getD_eq_getElem?_getD, List.getElem?_append_right (Nat.le_refl _), Nat.sub_self]
          rfl
        · rw [Array.getElem?_setIfInBounds_ne e, hcur j (by omega)]
          congr 3
          rw [List.getD_eq_getElem?_getD, List.getD_eq_getElem?_getD, List.getElem?_append_left (by omega)]
    · show But [] w0 ((w.setCell ⟨gv, 0 + L.length * 1, none⟩ (.int .u8 (y.toNat : Nat))))
      exact hB.setCell (.inr hb) _
  · rcases hown.2 with ⟨_, h0⟩ | ⟨g2, cap2, cur2, rfl, hg2, hh2, hn2, _, hs2, ht2⟩
    · omega
    · refine h g2 cap2 w' (Lib.hid ⟨g2, cap2, cur2, (0, 0), by simp, Nat.le_trans hB.size hg2, hh2, by simpa using hn2, by omega, fun i hi => by simp, fun j hj => ?_⟩) (Lib.hid (hB.grown hgrow (by simp)))
      have e1 : (L.length + 1) * 1 = L.length + 1 := Nat.mul_one _
      rw [e1] at ht2
      have hj2 : j < L.length + 1 := by simpa using hj
      have e3 : cur2[j]? = (cur2.toList.take (L.length + 1))[j]? := by rw [List.getElem?_take_of_lt hj2, Array.getElem?_toList]
      rw [e3, ht2, show ([Value.int .u8 (y.toNat : Nat)] : List Value) = cellsF [y] from rfl, ← cellsF_append]
      unfold cellsF
      rw [List.getElem?_map, List.getElem?_eq_getElem hj, getD_lt hj]
      rfl
theorem wpList_append_gn {w0 : World} (w : World) {ops : Array Oper} {rest : List Oper} {o : Oper} {a : Act} {Q : Exit → Act → World → Prop} (hgd : o.guard = none) (sl x : Operand)
    (ho : o.op = .call { callee := .builtin .append, args := #[sl, x], argTypes := #[26, 26] })
    (v : Value) (n : Nat) (L : List UInt8) (hs : a.eval sl = v) (hn : L.length = n) (hO : OwnG w w0.heap.size v L) (hB : But [] w0 w) (y : UInt8) {g : Nat}
    (hx : a.eval x = .slice (some ⟨g, 0, none⟩) 1 1) (hI : Is w g 5 #[.int .u8 (y.toNat : Nat)]) (hbound : n + 1 ≤ 140737488355328)
    (h : ∀ g2 c w', Hid (OwnG w' w0.heap.size (.slice (some ⟨g2, 0, none⟩) (n + 1) c) (L ++ [y])) → Hid (But [] w0 w') → wpList Tryd.prog ops Q rest (a.put o.dst (.slice (some ⟨g2, 0, none⟩) (n + 1) c)) w') : wpList Tryd.prog ops Q (o :: rest) a w := by
  subst hn
  exact wpList_append_g w hgd sl x ho v L hs hO hB y hx hI hbound h
end Go.Proofs.YtgemmidkfeebfaaDoor
