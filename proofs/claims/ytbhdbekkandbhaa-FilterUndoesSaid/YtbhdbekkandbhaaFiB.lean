/- Bytes of the call's own, layer 9; which arguments may be, by the document's word. -/
import Derived.Test.YtbhdbekkandbhaaFiA
import Derived.Laws.IdiomStrings
import Derived.Laws.BytesArg
import Derived.Laws.OwnMore
import Derived.Test.YtbhdbekkandbhaaRegM
import Derived.Deep.AppendLies
import Derived.Deep.RegionLaw
import Derived.Deep.RegionWith
set_option maxRecDepth 100000
set_option linter.unusedVariables false
namespace Go.Proofs.Ytbhdbekkandbhaa
set_option maxRecDepth 100000
open Go Go.RowKit
def cellsF (l : List UInt8) : List Value := l.map fun x => .int .u8 (x.toNat : Int)
theorem cellsF_length (l : List UInt8) : (cellsF l).length = l.length := by simp [cellsF]
theorem cellsF_append (a b : List UInt8) : cellsF (a ++ b) = cellsF a ++ cellsF b := by simp [cellsF]
theorem own_sliceF {w : World} {base n size : Nat} {e : TypeId} {v : Value} {xs : List Value} (h : w.ownsRow base e size v n xs) : ∃ A c, v = .slice A n c ∧ n ≤ c := by
  rcases h.2 with ⟨rfl, rfl⟩ | ⟨g, cap, cur, rfl, _, _, hc, _⟩
  · exact ⟨none, 0, rfl, Nat.le_refl _⟩
  · exact ⟨_, cap, rfl, hc⟩
theorem ownsRow_butF {w w' : World} {base n size : Nat} {e : TypeId} {v : Value} {xs : List Value} {S : List Nat} (h : w.ownsRow base e size v n xs) (hw : But S w w') (hS : ∀ g, v.ownBlock = some g → g ∉ S) : w'.ownsRow base e size v n xs := by
  obtain ⟨h1, h2⟩ := h
  refine ⟨h1, ?_⟩
  rcases h2 with h2 | ⟨g, cap, cur, rfl, hg, hh, r⟩
  · exact .inl h2
  · have hlt : g < w.heap.size := (Array.getElem?_eq_some_iff.1 hh).1
    exact .inr ⟨g, cap, cur, rfl, hg, (hw.block g hlt (hS g rfl)).trans hh, r⟩
/-- Bytes in memory as a string. -/
theorem conv_atF {W : World} {g cap : Nat} {L : List UInt8} (h : ∀ j (hj : j < L.length), W.cell? ⟨g, j, none⟩ = some (.int .u8 (L[j].toNat : Int))) :
    (convert 31 9 (.slice (some ⟨g, 0, none⟩) L.length cap)).run Try.prog W = .ok (.string (strL L)) W := by
  refine run_convert_bytes_back W 31 9 5 ⟨g, 0, none⟩ cap L Try.underlying31 Try.underlying5 Try.underlying9 (fun j hj => ?_)
  have e2 : (⟨g, 0, none⟩ : Addr).add j = ⟨g, j, none⟩ := by unfold Addr.add; split <;> simp_all
  rw [e2]
  exact h j hj
theorem own_textF {w : World} {base n : Nat} {v : Value} {L : List UInt8} (h : w.ownsRow base 5 1 v n (cellsF L)) : (convert 31 9 v).run Try.prog w = .ok (.string (strL L)) w := by
  have hl : L.length = n := by have := h.1; rw [cellsF_length] at this; omega
  rcases h.2 with ⟨rfl, rfl⟩ | ⟨g, cap, cur, rfl, _⟩
  · have : L = [] := List.eq_nil_of_length_eq_zero hl
    subst this
    exact run_convert_bytes_nil w 31 5 Try.underlying31 Try.underlying5 _ _ 9 Try.underlying9
  · subst hl
    refine conv_atF fun i hi => ?_
    have hc := h.cells (g := g) rfl i (.int .u8 (L[i].toNat : Int)) (by simp [cellsF, hi])
    have e2 : (⟨g, 0, none⟩ : Addr).add i = ⟨g, i, none⟩ := by unfold Addr.add; split <;> simp_all
    rw [e2] at hc
    exact hc
/-- Bytes of the call's own. -/
def OwnF (w : World) (base : Nat) (v : Value) (L : List UInt8) : Prop := w.ownsRow base 5 1 v L.length (cellsF L)
theorem OwnF.nil (w : World) (base : Nat) : OwnF w base (.slice none 0 0) [] := World.ownsRow_nil _ _ _ _
theorem OwnF.but {w w' : World} {base : Nat} {v : Value} {L : List UInt8} (h : OwnF w base v L) (hw : But [] w w') : OwnF w' base v L := ownsRow_butF h hw (fun _ _ => by simp)
theorem OwnF.shape {w : World} {base : Nat} {v : Value} {L : List UInt8} (h : OwnF w base v L) : ∃ A c, v = .slice A L.length c := by
  obtain ⟨A, c, e, _⟩ := own_sliceF h
  exact ⟨A, c, e⟩
theorem OwnF.lt {w : World} {base : Nat} {v : Value} {L : List UInt8} (h : OwnF w base v L) : ∀ g, v.ownBlock = some g → base ≤ g := fun g e => (World.ownsRow.lt h g e).1
theorem OwnF.text {w : World} {base : Nat} {v : Value} {L : List UInt8} (h : OwnF w base v L) : (convert 31 9 v).run Try.prog w = .ok (.string (strL L)) w := own_textF h
theorem OwnF.byte {w : World} {base : Nat} {A : Option Addr} {n c : Nat} {L : List UInt8} (h : OwnF w base (.slice A n c) L) {i : Nat} (hi : i < L.length) :
    ∃ g, A = some ⟨g, 0, none⟩ ∧ w.cell? ⟨g, i, none⟩ = some (.int .u8 ((L.getD i 0).toNat : Int)) := by
  unfold OwnF at h
  obtain ⟨g, cap, e, h1, h2⟩ := h.form (by omega)
  injection e with e1 e2 e3
  subst e1 e3
  refine ⟨g, rfl, ?_⟩
  have hc := World.ownsRow.cells h (g := g) rfl i (.int .u8 (L[i].toNat : Int)) (by simp [cellsF, hi])
  have e2 : (⟨g, 0, none⟩ : Addr).add i = ⟨g, i, none⟩ := by unfold Addr.add; split <;> simp_all
  rw [e2] at hc
  rw [hc, getD_lt hi]
theorem news_is {w : World} {g : Nat} {x : Value} (h : Is w g 5 #[x]) : ∀ (j : Nat) u, [x][j]? = some u → w.cell? ((⟨g, 0, none⟩ : Addr).add j) = some u := by
  intro j u hj
  match j, hj with
  | 0, hj =>
    have e : x = u := by simpa using hj
    have := h.cell 0
    rw [← e]
    exact this
  | j + 1, hj => simp at hj
/-- One byte appended, at a step of a drawn region. -/
theorem step_append_f {w0 : World} (w : World) {ops : Array Oper} {o : Oper} {a : Act} {K : Act → World → Prop} {Q : Exit → Act → World → Prop} {E : Prop} (hgd : o.guard = none) (sl x : Operand)
    (ho : o.op = .call { callee := .builtin .append, args := #[sl, x], argTypes := #[31, 31] })
    {i : TypeInfo} (hi : Try.prog.info? 5 = some i) (hz : i.zero = some (.int .u8 0)) (hsize : i.size = 1) (hby : i.bytes = 1) (v : Value) (L : List UInt8) (hs : a.eval sl = v) (hO : OwnF w w0.heap.size v L) (hB : But [] w0 w) (y : UInt8) {g : Nat}
    (hx : a.eval x = .slice (some ⟨g, 0, none⟩) 1 1) (hI : Is w g 5 #[.int .u8 (y.toNat : Int)]) (hbound : L.length < 140737488355328)
    (h : ∀ A c w' M, M = L ++ [y] → OwnF w' w0.heap.size (.slice A M.length c) M → But [] w0 w' → K (a.put o.dst (.slice A M.length c)) w') : if Region.wanted o (yielded ops a.tmps) = true then Oper.wp Try.prog o a w K Q else E := by
  refine step_append_lies w hgd sl x 31 ho w0.heap.size 5 i (.int .u8 0) 1 1 Try.underlying31 hi hz hsize hby rfl (by omega) v L.length (cellsF L) hs hO ⟨g, 0, none⟩ 1 1 [.int .u8 (y.toNat : Int)] hx rfl (news_is hI) (by simp [Value.oneCell']) (by omega) (by unfold maxLen; omega) (by omega) hB.size w.heap.size rfl ?_
  intro g' cap w' hown hgrow _ _
  have hO2 : OwnF w' w0.heap.size (.slice (some ⟨g', 0, none⟩) (L ++ [y]).length cap) (L ++ [y]) := by
    unfold OwnF
    rw [List.length_append, cellsF_append]
    exact hown
  have key := h (some ⟨g', 0, none⟩) cap w' (L ++ [y]) rfl hO2 (hB.grown hgrow (fun k e => .inr (hO.lt k e)))
  rw [List.length_append] at key
  exact key
theorem info_u8F : (Try.prog.info? 5).map (fun i => (i.zero, i.size, i.bytes)) = some (some (.int .u8 0), 1, 1) := by kernel_rfl
theorem But.belowF {w w' : World} (h : But [] w w') : Below w.heap.size w w' := ⟨h.os, h.tape, h.output, h.size, fun k hk => h.block k hk (by simp)⟩
/-- A compare with the empty string, as the walk reads it. -/
theorem empty_eqF {t : ByteArray} (h : t.size = 0) : t = ByteArray.empty := by
  apply ByteArray.ext; apply Array.ext'
  have : t.data.toList.length = 0 := by rw [Array.length_toList]; exact h
  exact List.eq_nil_of_length_eq_zero this
theorem empty_toF {t : ByteArray} (h : t.size = 0) : t.toList = [] := by rw [ByteArray.toList_eq, empty_eqF h]; rfl
theorem empty_neF {t : ByteArray} (h : t.size ≠ 0) : (t.toList == []) = false := by
  rw [ByteArray.toList_eq]
  have h2 : t.data.toList ≠ [] := fun e => h (by show t.data.size = 0; rw [← Array.length_toList, e]; rfl)
  simpa using h2
theorem ewrong_any (w : World) (bpp kind : Int) (s t : ByteArray) (hs : s.size ≤ 140737488355328) (ht : t.size ≤ 140737488355328) :
    Calls Try.prog 19 #[.int .i64 bpp, .int .i64 kind, .string s, .string t] w fun e w' => e = .returned (.int .i64 (wrongF bpp kind s t)) ∧ w = w' := by
  obtain ⟨r, hr⟩ : ∃ r, r = wrongF bpp kind s t := ⟨_, rfl⟩
  rw [← hr]
  have HR := Lib.hid hr
  clear hr
  by_cases hz : t.size = 0
  · have e1 := empty_toF hz
    have HZ := Lib.hid hz
    go_enter Try.func19, Try.ntmps19
    go_wp2
    all_goals
      go_ret
      refine ⟨?_, rfl⟩
      rw [HR.out]
      have hz := HZ.out
      clear HR HZ e1
      unfold wrongF wrongP
      simp_all
      try omega
  · have e1 := empty_neF hz
    have HZ := Lib.hid hz
    go_enter Try.func19, Try.ntmps19
    go_wp2
    all_goals
      go_ret
      refine ⟨?_, rfl⟩
      rw [HR.out]
      have hz := HZ.out
      clear HR HZ e1
      unfold wrongF wrongP
      simp_all
      try omega
end Go.Proofs.Ytbhdbekkandbhaa
