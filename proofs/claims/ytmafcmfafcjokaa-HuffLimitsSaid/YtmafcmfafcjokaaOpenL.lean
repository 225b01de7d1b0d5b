/- A slice of numbers that is handed in: what a statement's frame takes of it. -/
import Derived.Test.YtmafcmfafcjokaaInts
import Derived.SizedLaws
namespace Go.Proofs.Ytmafcmfafcjokaa
open Go Go.RowKit Go.ChangeShapes Go.WideShapes

theorem open_nums {H : Type} {enc : TypeId × Value → H} {W : World} {base : Nat} {v : Value} {d : DataW H} {p : List MemPlace} (hv : Value.okWide Try.prog W .any base 22 v)
    (hk : DataW.Trod enc Try.prog W 0 (fun _ => true) true 22 v d p) {ts : List TypeId} {ds : List (DataW H)} (hsz : (DataW.weightsEach Try.prog ts ds).all (· ≤ reachBytes) = true) {j : Nat} (ht : ts[j]? = some 22) (hd : ds[j]? = some d) :
    ∃ A len cap l, v = .slice A len cap ∧ Ints W A len l ∧ len * 8 ≤ 140737488351232 ∧ (A = none → cap = 0) ∧ Fits l := by
  obtain ⟨a0, len, cap, rfl⟩ := okWide_slice Try.underlying22 hv
  obtain ⟨fuel, hf⟩ := hk
  rcases open_ints Try.underlying22 Try.underlying3 (by kernel_rfl) hf with ⟨hcs, _⟩ | ⟨a, len', cap', zs, hcs, hb, hl, hm, hzs, hx, hc, hwf⟩
  · simp [Value.cells] at hcs
    obtain ⟨rfl, rfl, rfl⟩ := hcs
    exact ⟨none, 0, 0, [], rfl, ⟨rfl, fun h => absurd h (by omega)⟩, by omega, fun _ => rfl, by intro x hx; cases hx⟩
  · simp [Value.cells] at hcs
    obtain ⟨rfl, rfl, rfl⟩ := hcs
    have hzl : zs.length = cap := by simpa using hzs
    have hde : d = .slice (lits .i64 (zs.take len)) (lits .i64 (zs.drop len)) := by injection hx
    have hbound : len * 8 ≤ 140737488351232 := by
      have h := sized_slice hsz (e := 3) ht (by rw [hd, hde]) Try.underlying22
      have hb8 : Try.prog.bytesOf 3 = 8 := by kernel_rfl
      rw [hb8] at h
      have hr : reachBytes = 140737488351232 := rfl
      rw [hr] at h
      simp only [lits, List.length_map, List.length_take, List.length_drop] at h
      omega
    refine ⟨some a, len, cap, zs.take len, rfl, ⟨by rw [List.length_take]; omega, fun hn => ?_⟩, hbound, (fun e => by cases e), fun x hx' => bounds_i64 (hwf x (List.mem_of_mem_take hx'))⟩
    obtain ⟨g, o, rfl, hg⟩ := ints_at hc (by omega)
    refine ⟨g, o, rfl, ?_, fun i hi => ?_⟩
    · have := World.block_lt_of_cell? W _ (hg 0 (by omega))
      exact this
    · rw [List.length_take] at hi
      rw [hg i (by omega), List.getElem_take, List.getD_eq_getElem?_getD, List.getElem?_eq_getElem (by omega)]; rfl
end Go.Proofs.Ytmafcmfafcjokaa
