/- The contract of the reader's Bytes. -/
import Derived.Test.YtcllddfhppikhaaDoorReadB
import Derived.Deep.DeepCutAuto
namespace Go.Proofs.YtcllddfhppikhaaDoor
set_option maxRecDepth 100000
open Go Go.RowKit

theorem ByteRow.take {w : World} {A : Option Addr} {n : Nat} {l : List UInt8} (h : ByteRow w A n l) {m : Nat} (hm : m ≤ n) : ByteRow w A m (l.take m) := by
  have hl := h.1
  refine ⟨by rw [List.length_take]; omega, fun hp => ?_⟩
  obtain ⟨g, o, e, hc⟩ := h.2 (by omega)
  refine ⟨g, o, e, fun i hi => ?_⟩
  rw [List.length_take] at hi
  rw [List.getElem_take]
  exact hc i (by omega)
theorem ByteRow.text {w : World} {A : Option Addr} {n c : Nat} {l : List UInt8} (h : ByteRow w A n l) :
    (convert 33 9 (.slice A n c)).run Tryd.prog w = .ok (.string ⟨l.toArray⟩) w := by
  obtain ⟨rfl, hc⟩ := h
  rcases A with _ | a
  · have h0 : l = [] := by
      cases l with
      | nil => rfl
      | cons x l => obtain ⟨g, o, e, _⟩ := hc (by simp); cases e
    subst h0
    exact run_convert_bytes_nil w 33 5 Tryd.underlying33 Tryd.underlying5 _ _ 9 Tryd.underlying9
  · refine run_convert_bytes_back w 33 9 5 a c l Tryd.underlying33 Tryd.underlying5 Tryd.underlying9 (fun j hj => ?_)
    obtain ⟨g, o, e, hcell⟩ := hc (by omega)
    obtain rfl : a = ⟨g, o, none⟩ := by injection e
    have e2 : (⟨g, o, none⟩ : Addr).add j = ⟨g, o + j, none⟩ := by unfold Addr.add; split <;> simp_all
    rw [e2]
    exact hcell j hj

theorem rs_adv {w w' : World} {b d p k n c : Nat} {s : ByteArray} {A : Option Addr} (hd : d ≠ b)
    (hr : ByteRow w A n (s.data.toList.drop (p / 8))) (ha : ∀ a, A = some a → a.block = d) (hnc : n ≤ c) (hk : k ≤ n) (q : Nat) (hq : q / 8 = p / 8 + k) (hqs : q ≤ 8 * s.size)
    (c' : Nat) (hc' : n - k ≤ c') (A' : Option Addr) (hA : A' = if c = k then A else A.map (·.add k))
    (hI : Is w' b 53 #[.slice A' (n - k) c', .int .i64 (q % 8 : Nat)]) (hB : But [b] w w') : RS w' b d s q := by
  have hrow := hr.cut hk hnc
  rw [List.drop_drop, ← hq, ← hA] at hrow
  have hblk : ∀ a, A' = some a → a.block = d := by
    intro a e
    subst hA
    split at e
    · exact ha a e
    · rcases A with _ | a0
      · simp at e
      · simp only [Option.map_some, Option.some.injEq] at e
        subst e
        have := ha a0 rfl
        unfold Addr.add
        split <;> exact this
  exact ⟨hqs, hd, A', n - k, c', hI, hc', hrow.but hB (fun k hk a e => by rw [hblk a e]; simp at hk; omega), hblk⟩

set_option maxRecDepth 100000 in
theorem RS.bytes {w : World} {b d p : Nat} {s : ByteArray} (h : RS w b d s p) (hs : s.size ≤ 140737488355328) (n : Int) :
    Calls Tryd.prog 39 #[.pointer (some ⟨b, 0, none⟩), .int .i64 n] w fun e w' => e = .returned (.tuple #[.string (bytesVal s p n), .int .i64 (bytesErr s p n)]) ∧ RS w' b d s (bytesGo s p n) ∧ But [b] w w' := by
  by_cases hn : n < 0
  · have he : bytesErr s p n = 1 := by unfold bytesErr; rw [if_pos hn]
    have hv : bytesVal s p n = ⟨#[]⟩ := by unfold bytesVal; rw [he]; rfl
    have hg : bytesGo s p n = p := by unfold bytesGo; rw [if_pos hn]
    rw [he, hv, hg]
    clear he hv hg
    go_enter Tryd.func39, Tryd.ntmps39
    go_wp2
    go_ret2
    exact ⟨rfl, h, But.refl _ _⟩
  · obtain ⟨m, rfl⟩ := Int.eq_ofNat_of_zero_le (show 0 ≤ n by omega)
    have hp := h.1
    have h' := h
    obtain ⟨_, hd, A, n, c, hi, hnc, hr, ha⟩ := h'
    have h0 : w.cell? ⟨b, 0, none⟩ = some (.slice A n c) := hi.cell 0
    have h1 : w.cell? ⟨b, 1, none⟩ = some (.int .i64 (p % 8 : Nat)) := hi.cell 1
    have h2 : w.frozen? ⟨b, 0, none⟩ = false := hi.free 0
    have h3 : w.frozen? ⟨b, 1, none⟩ = false := hi.free 1
    have hlen := hr.1
    rw [List.length_drop, Array.length_toList] at hlen
    have hz : s.data.size = s.size := rfl
    rw [hz] at hlen
    have hnle : n ≤ 140737488355328 := by omega
    have hpos : 0 < p % 8 → (1 : Int) ≤ (n : Int) := by omega
    have HL := Lib.hid hlen
    clear hlen hz
    go_enter Tryd.func39, Tryd.ntmps39
    go_upto_if 17 with (fail)
    go_cut [] (fun w1 => RS w1 b d s (8 * ((p + 7) / 8)) ∧ But [b] w w1)
    case first =>
      by_cases hu : 0 < p % 8
      · have hpos1 := hpos hu
        clear hpos
        go_wp2
        · have hc : c = 1 := by assumption
          go_meet
          refine ⟨?_, ?_⟩
          · refine rs_adv (k := 1) hd hr ha hnc (by omega) _ (by omega) (by omega) 0 (by omega) A (by rw [if_pos hc]) ?_ ?_
            · simpa using (hi.put 0 (.slice A (n - 1) 0)).put 1 (.int .i64 0)
            · exact ((But.refl [b] w).setCell (.inl (by simp)) _).setCell (.inl (by simp)) _
          · exact ((But.refl [b] w).setCell (.inl (by simp)) _).setCell (.inl (by simp)) _
        · have hc : ¬ c = 1 := by assumption
          go_meet
          refine ⟨?_, ?_⟩
          · refine rs_adv (k := 1) hd hr ha hnc (by omega) _ (by omega) (by omega) (c - 1) (by omega) (A.map fun x => ⟨x.block, x.off + 1, none⟩) (by rw [if_neg hc]; rfl) ?_ ?_
            · simpa using (hi.put 0 (.slice (A.map fun x => ⟨x.block, x.off + 1, none⟩) (n - 1) (c - 1))).put 1 (.int .i64 0)
            · exact ((But.refl [b] w).setCell (.inl (by simp)) _).setCell (.inl (by simp)) _
          · exact ((But.refl [b] w).setCell (.inl (by simp)) _).setCell (.inl (by simp)) _
      · clear hpos
        go_wp2
        go_meet
        refine ⟨?_, But.refl _ _⟩
        rw [show 8 * ((p + 7) / 8) = p from by omega]
        exact h
    case rest =>
      obtain ⟨hR, hB⟩ := hcut
      clear h0 h1 h2 h3 hpos hi hr ha HL h hnle hnc hd
      obtain ⟨hq, hd, A, n, c, hi, hnc, hr, ha⟩ := hR
      have h0 : wc.cell? ⟨b, 0, none⟩ = some (.slice A n c) := hi.cell 0
      have h2 : wc.frozen? ⟨b, 0, none⟩ = false := hi.free 0
      have hlen := hr.1
      rw [List.length_drop, Array.length_toList] at hlen
      have hz : s.data.size = s.size := rfl
      rw [hz] at hlen
      have hnle : n ≤ 140737488355328 := by omega
      have HL := Lib.hid hlen
      clear hlen hz
      by_cases hl : n < m
      · have he : bytesErr s p (m : Int) = 3 := by unfold bytesErr; rw [if_neg hn, if_pos (by have := HL.out; omega)]
        have hv : bytesVal s p (m : Int) = ⟨#[]⟩ := by unfold bytesVal; rw [he]; rfl
        have hg : bytesGo s p (m : Int) = 8 * ((p + 7) / 8) := by unfold bytesGo; rw [if_neg hn, he]; rfl
        have HE := Lib.hid he
        have HV := Lib.hid hv
        have HG := Lib.hid hg
        clear he hv hg hn
        go_wp2
        go_ret2
        rw [HE.out, HV.out, HG.out]
        exact ⟨rfl, ⟨hq, hd, A, n, c, hi, hnc, hr, ha⟩, hB⟩
      · have he : bytesErr s p (m : Int) = 0 := by unfold bytesErr; rw [if_neg hn, if_neg (by have := HL.out; omega)]
        have hv : bytesVal s p (m : Int) = ⟨((s.data.toList.drop ((p + 7) / 8)).take m).toArray⟩ := by unfold bytesVal; rw [if_pos he]; rfl
        have hg : bytesGo s p (m : Int) = 8 * ((p + 7) / 8 + m) := by unfold bytesGo; rw [if_neg hn, if_pos he]; rfl
        have HE := Lib.hid he
        have HV := Lib.hid hv
        have HG := Lib.hid hg
        clear he hv hg hn
        have e8 : 8 * ((p + 7) / 8) / 8 = (p + 7) / 8 := by omega
        rw [e8] at hr
        have hcv := (hr.take (m := m) (by omega)).text (c := c)
        clear e8
        have hput : ∀ (A' : Option Addr) (c' : Nat), Is (wc.setCell ⟨b, 0, none⟩ (.slice A' (n - m) c')) b 53 #[.slice A' (n - m) c', .int .i64 (8 * ((p + 7) / 8 + m) % 8 : Nat)] := fun A' c' => by
          have e0 : 8 * ((p + 7) / 8 + m) % 8 = 8 * ((p + 7) / 8) % 8 := by omega
          rw [e0]
          simpa using hi.put 0 (.slice A' (n - m) c')
        have hbut : ∀ v : Value, But [b] wc (wc.setCell ⟨b, 0, none⟩ v) := fun v => (But.refl [b] wc).setCell (.inl (by simp)) _
        have HP := Lib.hid hput
        have HQ := Lib.hid hbut
        clear hput hbut
        have hr' : ByteRow wc A n (s.data.toList.drop (8 * ((p + 7) / 8) / 8)) := by rw [show 8 * ((p + 7) / 8) / 8 = (p + 7) / 8 from by omega]; exact hr
        go_wp2
        · have hc : c = m := by assumption
          go_ret2
          rw [HE.out, HV.out, HG.out]
          exact ⟨rfl, rs_adv (k := m) hd hr' ha hnc (by omega) _ (by omega) (by have := HL.out; omega) 0 (by omega) A (by rw [if_pos hc]) (HP.out _ _) (HQ.out _), hB.trans (HQ.out _)⟩
        · have hc : ¬ c = m := by assumption
          go_ret2
          rw [HE.out, HV.out, HG.out]
          exact ⟨rfl, rs_adv (k := m) hd hr' ha hnc (by omega) _ (by omega) (by have := HL.out; omega) (c - m) (by omega) _ (by rw [if_neg hc]) (HP.out _ _) (HQ.out _), hB.trans (HQ.out _)⟩
end Go.Proofs.YtcllddfhppikhaaDoor
