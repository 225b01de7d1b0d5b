/- Bytes in words of sixteen digits, layer 14. -/
import Derived.Test.YtgemmidkfeebfaaDoorHaA
import Derived.Deep.LoopGhost
set_option maxRecDepth 100000
set_option linter.unusedVariables false
namespace Go.Proofs.YtgemmidkfeebfaaDoor
set_option maxRecDepth 100000
open Go Go.RowKit
/-- Several bytes appended, at a step of a drawn region. -/
theorem step_append_h {w0 : World} (w : World) {ops : Array Oper} {o : Oper} {a : Act} {K : Act → World → Prop} {Q : Exit → Act → World → Prop} {E : Prop} (hgd : o.guard = none) (sl x : Operand)
    (ho : o.op = .call { callee := .builtin .append, args := #[sl, x], argTypes := #[26, 26] })
    (v : Value) (n : Nat) (L : List UInt8) (hs : a.eval sl = v) (hn : L.length = n) (hO : OwnF w w0.heap.size v L) (hB : But [] w0 w) (Y : List UInt8) {m g : Nat} (hm : Y.length = m)
    (hx : a.eval x = .slice (some ⟨g, 0, none⟩) m m) (hI : Is w g 5 (cellsF Y).toArray) (hpos : 0 < m) (hbound : n + m ≤ 140737488355328)
    (h : ∀ A c w', Hid (OwnF w' w0.heap.size (.slice A (n + m) c) (L ++ Y)) → Hid (But [] w0 w') → K (a.put o.dst (.slice A (n + m) c)) w') : if Region.wanted o (yielded ops a.tmps) = true then Oper.wp Tryd.prog o a w K Q else E := by
  obtain ⟨i0, hi0, hz0, hz1, hz2⟩ := info_parts info_u8F
  subst hn hm
  refine step_append_lies w hgd sl x 26 ho w0.heap.size 5 i0 (.int .u8 0) 1 1 Tryd.underlying26 hi0 hz0 hz1 hz2 rfl (by omega) v L.length (cellsF L) hs hO ⟨g, 0, none⟩ Y.length Y.length (cellsF Y) hx (by rw [cellsF_length, Nat.mul_one]) (fun j u hj => ?_) (fun u hu => ?_) hpos (by unfold maxLen; omega) (by omega) hB.size w.heap.size rfl ?_
  · have e2 : (⟨g, 0, none⟩ : Addr).add j = ⟨g, j, none⟩ := by unfold Addr.add; split <;> simp_all
    rw [e2, hI.cell, List.getElem?_toArray]
    exact hj
  · unfold cellsF at hu
    obtain ⟨y, _, rfl⟩ := List.mem_map.1 hu
    rfl
  · intro g' cap w' hown hgrow _ _
    have hO2 : OwnF w' w0.heap.size (.slice (some ⟨g', 0, none⟩) (L.length + Y.length) cap) (L ++ Y) := by
      unfold OwnF
      rw [List.length_append, cellsF_append]
      exact hown
    exact h (some ⟨g', 0, none⟩) cap w' (Lib.hid hO2) (Lib.hid (hB.grown hgrow (fun k e => .inr (hO.lt k e))))
theorem digitB_lt16 {h : Nat} (hh : h < 16) : (digitB h).toNat = if h < 10 then 48 + h else 87 + h := by
  unfold digitB
  split <;> rw [UInt8.toNat_ofNat'] <;> omega
theorem digit_run {h : Nat} (hh : h < 16) (w : World) : (Instr.index 9 (.string { data := #[48, 49, 50, 51, 52, 53, 54, 55, 56, 57, 97, 98, 99, 100, 101, 102] }) (.int .i64 (h : Int))).run Tryd.prog w = .ok (.int .u8 ((digitB h).toNat : Nat)) w := by
  rw [byteR_run (s := ⟨#[48, 49, 50, 51, 52, 53, 54, 55, 56, 57, 97, 98, 99, 100, 101, 102]⟩) (k := h) hh w]
  congr 3
  have : ∀ h, (hh : h < 16) → ((⟨#[48, 49, 50, 51, 52, 53, 54, 55, 56, 57, 97, 98, 99, 100, 101, 102]⟩ : ByteArray)[h]'hh).toNat = (digitB h).toNat := by decide
  rw [this h hh]
theorem digit_runU {h : Nat} (hh : h < 16) (w : World) : (Instr.index 9 (.string { data := #[48, 49, 50, 51, 52, 53, 54, 55, 56, 57, 97, 98, 99, 100, 101, 102] }) (.int .u8 (h : Int))).run Tryd.prog w = .ok (.int .u8 ((digitB h).toNat : Nat)) w := by
  have e := digit_run hh w
  simp [go_sem, Tryd.underlying9] at e ⊢
  exact e
theorem hexL_take {s : ByteArray} {k : Nat} (h : k < s.size) : hexL (s.data.toList.take k) ++ [digitB (s[k].toNat / 16), digitB (s[k].toNat % 16)] = hexL (s.data.toList.take (k + 1)) := by
  rw [take_snoc s k h, hexL_snoc]
end Go.Proofs.YtgemmidkfeebfaaDoor
