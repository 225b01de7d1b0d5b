/- The document's lengths of a dynamic block: the plain side. -/
import Derived.Test.YtobmghjpfkdooaaDoorRfF
import Derived.Test.YtobmghjpfkdooaaDoorRfD
import Derived.Laws.MakeOwn
set_option linter.unusedVariables false
namespace Go.Proofs.YtobmghjpfkdooaaDoor
set_option maxRecDepth 100000
open Go Go.RowKit

section
variable {α β γ : Type}
theorem bind_assoc (m : Rd α) (f : α → Rd β) (g : β → Rd γ) : rBind (rBind m f) g = rBind m fun a => rBind (f a) g := by
  funext s p
  unfold rBind
  cases m s p <;> rfl
theorem when_bind {c : Prop} [Decidable c] {e : Int} (m : Rd α) (g : α → Rd β) : rBind (rWhen c e m) g = rWhen c e (rBind m g) := by
  funext s p
  by_cases h : c
  · rw [when_yes h]; exact bind_err (when_yes h)
  · unfold rBind rWhen; rw [if_neg h, if_neg h]
theorem pure_bind' (a : α) (g : α → Rd β) : rBind (rPure a) g = g a := by
  funext s p; rfl
end
/-- How lengths are cut in two. -/
def cutL (m : Nat) (ls : List Int) : List Int × List Int := (ls.take m, ls.drop m)
def lenK (m total F : Nat) (small : List Int) : Rd (List Int × List Int) := rWhen (chk small ≠ 0) (chk small) (rBind (lenG small total F []) fun ls => rPure (cutL m ls))
/-- The lengths of a dynamic block. -/
def lensR (F : Nat) : Rd (List Int × List Int) :=
  rBind (rBits 5) fun a => rBind (rBits 5) fun b => rBind (rBits 4) fun c => rBind (smallG (ordS.take (c + 4)) (List.replicate 19 0)) fun small => lenK (a + 257) (a + 257 + (b + 1)) F small
theorem dynR_lens (M : Int) (F : Nat) (L : List UInt8) : dynR M F L = rBind (lensR F) fun x => tablesR x.1 x.2 (symG x.1 x.2 M F L) := by
  unfold dynR lensR lenK
  simp only [bind_assoc, when_bind, pure_bind']
  rfl
theorem small_cons (k : Nat) (ks : List Nat) (a : List Int) (K : List Int → Rd (List Int × List Int)) : rBind (smallG (k :: ks) a) K = rBind (rBits 3) fun v => rBind (smallG ks (a.set k (v : Nat))) K := bind_assoc _ _ _
/-- What stands behind a symbol of the small code: how often which number. -/
def sw (t : Nat) (acc : List Int) : Rd (Int × Nat) :=
  if t < 16 then rPure ((t : Int), 1) else if t = 16 then rWhen (acc.length = 0) 12 (rBind (rBits 2) fun x => rPure (acc.getD (acc.length - 1) 0, 3 + x)) else
  if t = 17 then rBind (rBits 3) fun x => rPure (0, 3 + x) else rBind (rBits 7) fun x => rPure (0, 11 + x)
theorem lenG_sw {small : List Int} {total f : Nat} {acc : List Int} (h : acc.length < total) : lenG small total (f + 1) acc = rBind (rNext small) fun t => rBind (sw t acc) fun y => rWhen (total < acc.length + y.2) 12 (lenG small total f (acc ++ List.replicate y.2 y.1)) := by
  have e : lenG small total (f + 1) acc = rBind (rNext small) fun t =>
    if t < 16 then lenG small total f (acc ++ [(t : Int)]) else
    if t = 16 then rWhen (acc.length = 0) 12 (rBind (rBits 2) fun x => rWhen (total < acc.length + (3 + x)) 12 (lenG small total f (acc ++ List.replicate (3 + x) (acc.getD (acc.length - 1) 0)))) else
    if t = 17 then rBind (rBits 3) fun x => rWhen (total < acc.length + (3 + x)) 12 (lenG small total f (acc ++ List.replicate (3 + x) 0)) else
    rBind (rBits 7) fun x => rWhen (total < acc.length + (11 + x)) 12 (lenG small total f (acc ++ List.replicate (11 + x) 0)) := by
    rw [lenG, if_neg (by omega)]
  rw [e]
  congr 1
  funext t
  unfold sw
  by_cases h1 : t < 16
  · rw [if_pos h1, if_pos h1, pure_bind']
    funext s p
    rw [when_not (by dsimp only; omega)]; rfl
  · rw [if_neg h1, if_neg h1]
    by_cases h2 : t = 16
    · rw [if_pos h2, if_pos h2, when_bind, bind_assoc]; rfl
    · rw [if_neg h2, if_neg h2]
      by_cases h3 : t = 17
      · rw [if_pos h3, if_pos h3, bind_assoc]; rfl
      · rw [if_neg h3, if_neg h3, bind_assoc]; rfl
theorem lenG_end {small : List Int} {total f : Nat} {acc : List Int} (h : total ≤ acc.length) : lenG small total (f + 1) acc = rPure acc := by
  rw [lenG, if_pos h]
theorem ordc_at {w : World} {k : Nat} (hk : k < 19) : (w.alloc (.cells ordCells 3)).cell? ⟨w.heap.size, k, none⟩ = some (.int .i64 (ordS.getD k 0 : Nat)) := by
  have h := (Is.fresh w 3 ordCells).cell k
  rw [h]
  have e : ordCells = (ordS.map fun k => Value.int .i64 ((k : Nat) : Int)).toArray := rfl
  have hl : k < ordS.length := hk
  rw [e, List.getElem?_toArray, List.getElem?_map, List.getD_eq_getElem?_getD, List.getElem?_eq_getElem hl]; rfl
def zero19 : Array Value := ((List.replicate 19 (0 : Int)).map (Value.int .i64)).toArray
theorem made_zeros (n : Nat) : madeCells (Value.int .i64 0).cells (n * 1) = ((List.replicate n (0 : Int)).map (Value.int .i64)).toArray := by
  apply Array.ext_getElem?
  intro j
  unfold madeCells
  have e : (Value.int .i64 0).cells = #[.int .i64 0] := rfl
  rw [e]
  by_cases hj : j < n
  · simp [hj, Nat.mod_one]
  · simp [hj]
theorem make19 (w : World) : (Instr.makeSlice 48 (.int .i64 19) (.int .i64 19)).run Tryd.prog w = .ok (.slice (some ⟨w.heap.size, 0, none⟩) 19 19) (w.alloc (.cells zero19 3)) := by
  obtain ⟨i0, hi0, hz0, hz1, hz2⟩ := info_parts info_int
  have h := run_makeSlice (P := Tryd.prog) w 48 3 i0 (.int .i64 0) Tryd.underlying48 hi0 hz0 .i64 .i64 19 19 (by omega) (by omega) (by rw [hz1]; omega) (by rw [hz2]; omega) (by omega)
  rw [hz1] at h
  have e : madeCells (Value.int .i64 0).cells ((19 : Int).toNat * 1) = zero19 := made_zeros 19
  rw [e] at h
  exact h
/-- The lengths that the document's function tells. -/
def GotRL (w : World) (b rb : Nat) (og : Option Nat) (s : ByteArray) (p : Nat) (M : Int) (L : List UInt8) (er : Int) (F : Nat) (e : Ending) (w' : World) : Prop :=
  ∃ (A1 A2 : Option Addr) (n1 c1 n2 c2 : Nat) (l d : List Int) (er' : Int) (q : Nat), e = .returned (.tuple #[.slice A1 n1 c1, .slice A2 n2 c2]) ∧ SR w' b rb og s q M L er' ∧ Mv b rb w w' og og ∧
    run er (lensR F) s p = run er' (rPure (l, d)) s q ∧ (er' = 0 → HasL b rb og w' A1 n1 c1 l ∧ HasL b rb og w' A2 n2 c2 d)
end Go.Proofs.YtobmghjpfkdooaaDoor
