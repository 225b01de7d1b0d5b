/- The contract of the reader's Bytes. -/
import Derived.Test.YtmafcmfafcjokaaReadB
import Derived.Deep.DeepCutAuto
namespace Go.Proofs.Ytmafcmfafcjokaa
open Go Go.RowKit

theorem ByteRow.take {w : World} {A : Option Addr} {n : Nat} {l : List UInt8} (h : ByteRow w A n l) {m : Nat} (hm : m ≤ n) : ByteRow w A m (l.take m) := by
  have hl := h.1
  refine ⟨by rw [List.length_take]; omega, fun hp => ?_⟩
  obtain ⟨g, o, e, hc⟩ := h.2 (by omega)
  refine ⟨g, o, e, fun i hi => ?_⟩
  rw [List.length_take] at hi
  rw [List.getElem_take]
  exact hc i (by omega)
theorem ByteRow.text {w : World} {A : Option Addr} {n c : Nat} {l : List UInt8} (h : ByteRow w A n l) :
    (convert 51 9 (.slice A n c)).run Try.prog w = .ok (.string ⟨l.toArray⟩) w := by
  obtain ⟨rfl, hc⟩ := h
  rcases A with _ | a
  · have h0 : l = [] := by
      cases l with
      | nil => rfl
      | cons x l => obtain ⟨g, o, e, _⟩ := hc (by simp); cases e
    subst h0
    exact run_convert_bytes_nil w 51 5 Try.underlying51 Try.underlying5 _ _ 9 Try.underlying9
  · refine run_convert_bytes_back w 51 9 5 a c l Try.underlying51 Try.underlying5 Try.underlying9 (fun j hj => ?_)
    obtain ⟨g, o, e, hcell⟩ := hc (by omega)
    obtain rfl : a = ⟨g, o, none⟩ := by injection e
    have e2 : (⟨g, o, none⟩ : Addr).add j = ⟨g, o + j, none⟩ := by unfold Addr.add; split <;> simp_all
    rw [e2]
    exact hcell j hj

theorem rs_adv {w w' : World} {b d p k n c : Nat} {s : ByteArray} {A : Option Addr} (hd : d ≠ b)
    (hr : ByteRow w A n (s.data.toList.drop (p / 8))) (ha : ∀ a, A = some a → a.block = d) (hnc : n ≤ c) (hk : k ≤ n) (q : Nat) (hq : q / 8 = p / 8 + k) (hqs : q ≤ 8 * s.size)
    (c' : Nat) (hc' : n - k ≤ c') (A' : Option Addr) (hA : A' = if c = k then A else A.map (·.add k))
    (hI : Is w' b 71 #[.slice A' (n - k) c', .int .i64 (q % 8 : Nat)]) (hB : But [b] w w') : RS w' b d s q := by
  have hrow := hr.cut hk hnc
  rw [List.drop_drop, ← hq, ← hA] at hrow
  have hblk : ∀ a, A' = some a → a.block = d := by
    intro a e
    subst hA
    split at e
    · exact ha a e
    · rcases A with _ | a0
      · simp at e
      · simp only [Option.map_some, Option.some.injEq] at e
        subst e
        have := ha a0 rfl
        unfold Addr.add
        split <;> exact this
  exact ⟨hqs, hd, A', n - k, c', hI, hc', hrow.but hB (fun k hk a e => by rw [hblk a e]; simp at hk; omega), hblk⟩

end Go.Proofs.Ytmafcmfafcjokaa
