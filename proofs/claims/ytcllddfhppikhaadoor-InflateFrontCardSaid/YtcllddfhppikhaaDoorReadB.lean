/- The contracts of the readers' Bytes. -/
import Derived.Test.YtcllddfhppikhaaDoorReader
import Derived.Lib.Strings
namespace Go.Proofs.YtcllddfhppikhaaDoor
set_option maxRecDepth 100000
open Go Go.RowKit

/-- What a reader's Bytes does: the bytes and the error, and where it stands then. -/
def bytesErr (s : ByteArray) (p : Nat) (n : Int) : Int := if n < 0 then 1 else if (s.size - (p + 7) / 8 : Nat) < n then 3 else 0
def bytesVal (s : ByteArray) (p : Nat) (n : Int) : ByteArray := if bytesErr s p n = 0 then ⟨((s.data.toList.drop ((p + 7) / 8)).take n.toNat).toArray⟩ else ⟨#[]⟩
def bytesGo (s : ByteArray) (p : Nat) (n : Int) : Nat := if n < 0 then p else if bytesErr s p n = 0 then 8 * ((p + 7) / 8 + n.toNat) else 8 * ((p + 7) / 8)

theorem extract_eq (s : ByteArray) (a m : Nat) : s.extract a (a + m) = ⟨((s.data.toList.drop a).take m).toArray⟩ := by
  have h : (s.extract a (a + m)).data.toList = (s.data.toList.drop a).take m := by
    rw [Lib.extract_data]; congr 1; omega
  rw [← h]

theorem FS.bytes {w : World} {b p : Nat} {s : ByteArray} (h : FS w b s p) (hs : s.size ≤ 140737488355328) (n : Int) (hn64 : n ≤ 9223372036854775807) :
    Calls Tryd.prog 34 #[.pointer (some ⟨b, 0, none⟩), .int .i64 n] w fun e w' => e = .returned (.tuple #[.string (bytesVal s p n), .int .i64 (bytesErr s p n)]) ∧ FS w' b s (bytesGo s p n) ∧ But [b] w w' := by
  by_cases hn : n < 0
  · have he : bytesErr s p n = 1 := by unfold bytesErr; rw [if_pos hn]
    have hv : bytesVal s p n = ⟨#[]⟩ := by unfold bytesVal; rw [he]; rfl
    have hg : bytesGo s p n = p := by unfold bytesGo; rw [if_pos hn]
    rw [he, hv, hg]
    clear he hv hg
    go_enter Tryd.func34, Tryd.ntmps34
    go_wp2
    go_ret2
    exact ⟨rfl, h, But.refl _ _⟩
  · obtain ⟨m, rfl⟩ := Int.eq_ofNat_of_zero_le (show 0 ≤ n by omega)
    have hp := h.1
    have hi := h.2
    have h0 : w.cell? ⟨b, 0, none⟩ = some (.string s) := hi.cell 0
    have h1 : w.cell? ⟨b, 1, none⟩ = some (.int .i64 p) := hi.cell 1
    have h2 : w.frozen? ⟨b, 1, none⟩ = false := hi.free 1
    have hF : FS (w.setCell ⟨b, 1, none⟩ (.int .i64 (((p : Int) + 7) / 8 * 8))) b s (8 * ((p + 7) / 8)) := by
      refine ⟨by omega, ?_⟩
      have := hi.put 1 (.int .i64 (((p : Int) + 7) / 8 * 8))
      have e : (((p : Int) + 7) / 8 * 8) = ((8 * ((p + 7) / 8) : Nat) : Int) := by omega
      rw [e] at this ⊢
      simpa using this
    have hB : But [b] w (w.setCell ⟨b, 1, none⟩ (.int .i64 (((p : Int) + 7) / 8 * 8))) := (But.refl _ w).setCell (.inl (by simp)) _
    have hF1 := hF.2.cell 1
    have hF0 := hF.2.cell 0
    by_cases hl : s.size - (p + 7) / 8 < m
    · have he : bytesErr s p (m : Int) = 3 := by unfold bytesErr; rw [if_neg hn, if_pos (by omega)]
      have hv : bytesVal s p (m : Int) = ⟨#[]⟩ := by unfold bytesVal; rw [he]; rfl
      have hg : bytesGo s p (m : Int) = 8 * ((p + 7) / 8) := by unfold bytesGo; rw [if_neg hn, he]; rfl
      rw [he, hv, hg]
      clear he hv hg hn
      go_enter Tryd.func34, Tryd.ntmps34
      go_wp2_with (go_at_call 33; refine (hF.left hs).mono ?_; rintro e w' ⟨rfl, nq, rfl⟩)
      go_ret2
      exact ⟨rfl, hF.but ((But.refl [] _).drewN nq) (by simp), hB.drewN nq⟩
    · have he : bytesErr s p (m : Int) = 0 := by unfold bytesErr; rw [if_neg hn, if_neg (by omega)]
      have hv : bytesVal s p (m : Int) = s.extract ((p + 7) / 8) ((p + 7) / 8 + m) := by unfold bytesVal; rw [if_pos he, extract_eq]; rfl
      have hg : bytesGo s p (m : Int) = 8 * ((p + 7) / 8 + m) := by unfold bytesGo; rw [if_neg hn, if_pos he]; rfl
      rw [he, hv, hg]
      clear he hv hg hn
      go_enter Tryd.func34, Tryd.ntmps34
      go_wp2_with (go_at_call 33; refine (hF.left hs).mono ?_; rintro e w' ⟨rfl, nq, rfl⟩)
      go_quiet (fail)
      go_wp2
      go_ret2
      refine ⟨rfl, ⟨by omega, ?_⟩, (hB.drewN _).setCell (.inl (by simp)) _⟩
      have e : (8 * (((p : Int) + 7) / 8) + 8 * (m : Int)) = ((8 * ((p + 7) / 8 + m) : Nat) : Int) := by omega
      rw [e]
      have key : ∀ k, Is (((w.setCell ⟨b, 1, none⟩ (.int .i64 (((p : Int) + 7) / 8 * 8))).drewN k).setCell ⟨b, 1, none⟩ (.int .i64 ((8 * ((p + 7) / 8 + m) : Nat) : Int))) b 44 #[.string s, .int .i64 ((8 * ((p + 7) / 8 + m) : Nat) : Int)] := fun k => by
        simpa using (hF.2.drewN k).put 1 (.int .i64 ((8 * ((p + 7) / 8 + m) : Nat) : Int))
      exact key _

theorem lay_byte (l : List UInt8) (j : Nat) (hj : j ≤ 3) (h : j < l.length) :
    Go.bits .or .i64 ((num (l.take j) : Nat) : Int) (wrap64 (wrap64 (l[j].toNat : Int) * 2 ^ (8 * j))) = ((num (l.take (j + 1)) : Nat) : Int) := by
  have hlt := l[j].toNat_lt
  have hn := num_lt (l.take j)
  rw [List.length_take, Nat.min_eq_left (by omega)] at hn
  rw [List.take_succ_eq_append_getElem h, num_snoc, List.length_take, Nat.min_eq_left (by omega), p256]
  rw [p256] at hn
  generalize num (l.take j) = y at *
  generalize l[j].toNat = z at *
  have hp : 2 ^ (8 * j) ≤ 2 ^ 24 := Nat.pow_le_pow_right (by decide) (by omega)
  have ez : wrap64 ((z : Nat) : Int) = ((z : Nat) : Int) := IntWalk.wrap64_in _ ⟨by omega, by omega⟩
  have hzj : z * 2 ^ (8 * j) ≤ 255 * 2 ^ 24 := Nat.mul_le_mul (by omega) hp
  have ew : wrap64 ((z * 2 ^ (8 * j) : Nat) : Int) = ((z * 2 ^ (8 * j) : Nat) : Int) := IntWalk.wrap64_in _ ⟨by omega, by omega⟩
  rw [ez, int_pow, ew, Nat.mul_comm (2 ^ (8 * j)) z]
  exact i64_join _ _ (8 * j) (by omega) hn (Nat.mul_mod_left z _) (by omega)

theorem mask_word (m : Nat) (hm : m ≤ 24) : wrap64 (wrap64 (2 ^ m) - 1) = 2 ^ m - 1 := by
  have hp : 2 ^ m ≤ 2 ^ 24 := Nat.pow_le_pow_right (by decide) hm
  have hpos := Nat.two_pow_pos m
  have e : ((2 : Int) ^ m) = ((2 ^ m : Nat) : Int) := by simp
  rw [e]
  generalize 2 ^ m = q at *
  have h1 : wrap64 (q : Int) = (q : Int) := IntWalk.wrap64_in _ ⟨by omega, by omega⟩
  have h2 : wrap64 ((q : Int) - 1) = (q : Int) - 1 := IntWalk.wrap64_in _ ⟨by omega, by omega⟩
  rw [h1, h2]
theorem take_bits (s : ByteArray) (p m : Nat) (hm : m ≤ 24) :
    Go.bits .and .i64 (((num ((s.data.toList.drop (p / 8)).take ((p % 8 + m + 7) / 8)) : Nat) : Int) / 2 ^ (p % 8)) (wrap64 (wrap64 (2 ^ m) - 1)) = ((bitsAt (num s.data.toList) p m : Nat) : Int) := by
  rw [mask_word m hm, i64_mask _ m (by omega), ← bitsAt_left s.data.toList p m ((p % 8 + m + 7) / 8) (by omega)]
  unfold bitsAt
  simp
theorem rs_done {w : World} {b d p m n c nq : Nat} {s : ByteArray} {A : Option Addr} (hd : d ≠ b) (hi : Is w b 53 #[.slice A n c, .int .i64 (p % 8 : Nat)])
    (hr : ByteRow w A n (s.data.toList.drop (p / 8))) (ha : ∀ a, A = some a → a.block = d) (hnc : n ≤ c) (hk : (p % 8 + m) / 8 ≤ n) (hpm : p + m ≤ 8 * s.size)
    (c' : Nat) (hc' : n - (p % 8 + m) / 8 ≤ c') (A' : Option Addr) (hA : A' = if c = (p % 8 + m) / 8 then A else A.map (·.add ((p % 8 + m) / 8))) :
    RS (((w.drewN nq).setCell ⟨b, 0, none⟩ (.slice A' (n - (p % 8 + m) / 8) c')).setCell ⟨b, 1, none⟩ (.int .i64 (((p : Int) + (m : Int)) % 8))) b d s (p + m) := by
  have hrow := hr.cut hk hnc
  rw [List.drop_drop, show p / 8 + (p % 8 + m) / 8 = (p + m) / 8 from by omega, ← hA] at hrow
  have hblk : ∀ a, A' = some a → a.block = d := by
    intro a e
    subst hA
    split at e
    · exact ha a e
    · rcases A with _ | a0
      · simp at e
      · simp only [Option.map_some, Option.some.injEq] at e
        subst e
        have := ha a0 rfl
        unfold Addr.add
        split <;> exact this
  clear hA
  have e8 : (((p : Int) + (m : Int)) % 8) = (((p + m) % 8 : Nat) : Int) := by omega
  rw [e8]
  generalize hL : n - (p % 8 + m) / 8 = n' at *
  have hB1 : But [b] w ((w.drewN nq).setCell ⟨b, 0, none⟩ (.slice A' n' c')) := But.setCell ((But.refl [b] w).drewN nq) (.inl (by simp)) _
  have hB : But [b] w (((w.drewN nq).setCell ⟨b, 0, none⟩ (.slice A' n' c')).setCell ⟨b, 1, none⟩ (.int .i64 (((p + m) % 8 : Nat) : Int))) := hB1.setCell (.inl (by simp)) _
  have hI : Is (((w.drewN nq).setCell ⟨b, 0, none⟩ (.slice A' n' c')).setCell ⟨b, 1, none⟩ (.int .i64 (((p + m) % 8 : Nat) : Int))) b 53 #[.slice A' n' c', .int .i64 (((p + m) % 8 : Nat) : Int)] := by
    simpa using ((hi.drewN nq).put 0 (.slice A' n' c')).put 1 (.int .i64 (((p + m) % 8 : Nat) : Int))
  exact ⟨hpm, hd, A', n', c', hI, by omega, hrow.but hB (fun k hk a e => by rw [hblk a e]; simp at hk; omega), hblk⟩

theorem RS.bits {w : World} {b d p : Nat} {s : ByteArray} (h : RS w b d s p) (hs : s.size ≤ 140737488355328) (n : Int) :
    Calls Tryd.prog 27 #[.pointer (some ⟨b, 0, none⟩), .int .i64 n] w fun e w' => e = .returned (.tuple #[.int .i64 (bitsVal s p n), .int .i64 (bitsErr s p n)]) ∧ RS w' b d s (bitsGo s p n) ∧ But [b] w w' := by
  by_cases hn : n < 0 ∨ 24 < n
  · have he : bitsErr s p n = 1 := by unfold bitsErr; rw [if_pos hn]
    have hv : bitsVal s p n = 0 := by unfold bitsVal; rw [he]; rfl
    have hg : bitsGo s p n = p := by unfold bitsGo; rw [he]; rfl
    rw [he, hv, hg]
    clear he hv hg
    rcases hn with hn | hn
    · go_enter Tryd.func27, Tryd.ntmps27
      go_wp2
      go_ret2
      exact ⟨rfl, h, But.refl _ _⟩
    · have hn0 : ¬ n < 0 := by omega
      go_enter Tryd.func27, Tryd.ntmps27
      go_wp2
      go_ret2
      exact ⟨rfl, h, But.refl _ _⟩
  · obtain ⟨m, rfl⟩ := Int.eq_ofNat_of_zero_le (show 0 ≤ n by omega)
    have hm : m ≤ 24 := by omega
    have hp := h.1
    by_cases hl : 8 * s.size - p < m
    · have he : bitsErr s p (m : Int) = 3 := by unfold bitsErr; rw [if_neg hn, if_pos (by omega)]
      have hv : bitsVal s p (m : Int) = 0 := by unfold bitsVal; rw [he]; rfl
      have hg : bitsGo s p (m : Int) = p := by unfold bitsGo; rw [he]; rfl
      rw [he, hv, hg]
      clear he hv hg hn
      go_enter Tryd.func27, Tryd.ntmps27
      go_wp2_with (go_at_call 11; refine (h.left hs).mono ?_; rintro e w' ⟨rfl, nq, rfl⟩)
      go_ret2
      exact ⟨rfl, h.but ((But.refl [] w).drewN nq) (by simp) (by simp), (But.refl _ w).drewN nq⟩
    · have he : bitsErr s p (m : Int) = 0 := by unfold bitsErr; rw [if_neg hn, if_neg (by omega)]
      have hv : bitsVal s p (m : Int) = bitsAt (num s.data.toList) p m := by unfold bitsVal; rw [if_pos he]; rfl
      have hg : bitsGo s p (m : Int) = p + m := by unfold bitsGo; rw [if_pos he]; rfl
      rw [he, hv, hg]
      clear he hv hg hn
      have hl0 := h.left hs
      obtain ⟨_, hd, A, n, c, hi, hnc, hr, ha⟩ := h
      have h0 : w.cell? ⟨b, 0, none⟩ = some (.slice A n c) := hi.cell 0
      have h1 : w.cell? ⟨b, 1, none⟩ = some (.int .i64 (p % 8 : Nat)) := hi.cell 1
      have h2 : w.frozen? ⟨b, 0, none⟩ = false := hi.free 0
      have h3 : w.frozen? ⟨b, 1, none⟩ = false := hi.free 1
      have d1 : decide ((m : Int) < 0) = false := by simp
      have d2 : decide ((24 : Int) < (m : Int)) = false := by simp; omega
      have hlen := hr.1
      rw [List.length_drop, Array.length_toList] at hlen
      have hz : s.data.size = s.size := rfl
      rw [hz] at hlen
      have hnle : n ≤ 140737488355328 := by omega
      have HL := Lib.hid hlen
      clear hlen hz
      go_enter Tryd.func27, Tryd.ntmps27
      go_wp2_with (go_at_call 11; refine hl0.mono ?_; rintro e w' ⟨rfl, nq, rfl⟩)
      go_loop [6, 8, 33] (fun v _ i => ∃ j : Nat, j ≤ (p % 8 + m + 7) / 8 ∧ i = .int .i64 j ∧ v = .int .i64 (num ((s.data.toList.drop (p / 8)).take j))) (fun _ _ i => (p % 8 + m + 7) / 8 - (intOf i).toNat)
      case atStart => exact ⟨0, Nat.zero_le _, rfl, rfl⟩
      case round =>
        obtain ⟨j, hj, rfl, rfl⟩ := hrel
        by_cases hlt : j < (p % 8 + m + 7) / 8
        · have hjn : j < n := by have := HL.out; omega
          have hln : j < (s.data.toList.drop (p / 8)).length := by have := hr.1; omega
          obtain ⟨g, o, rfl, hcell⟩ := hr.at hjn
          have hly := lay_byte (s.data.toList.drop (p / 8)) j (by omega) hln
          have hj3 : j ≤ 3 := by omega
          generalize (s.data.toList.drop (p / 8))[j] = x at *
          go_wp2
          go_round
          case rel => exact ⟨j + 1, by omega, by go_num, rfl⟩
          case measure => simp [intOf]; omega
        · obtain rfl : j = (p % 8 + m + 7) / 8 := by omega
          have hcut : ((p : Int) % 8 + (m : Int)) / 8 ≤ (n : Int) := by have := HL.out; omega
          have hcut0 : 0 ≤ ((p : Int) % 8 + (m : Int)) / 8 := by omega
          have HT := Lib.hid (take_bits s p m hm)
          go_wp2
          go_quiet (fail)
          go_wp2
          · have hc : c = (p % 8 + m) / 8 := by assumption
            go_ret2
            exact ⟨by rw [HT.out] <;> rfl, rs_done (m := m) hd hi hr ha hnc (by omega) (by omega) _ (by omega) _ (by rw [if_pos hc]), ((((But.refl _ w).drewN _).setCell (.inl (by simp)) _).setCell (.inl (by simp)) _)⟩
          · have hc : ¬ c = (p % 8 + m) / 8 := by assumption
            go_ret2
            exact ⟨by rw [HT.out] <;> rfl, rs_done (m := m) hd hi hr ha hnc (by omega) (by omega) _ (by omega) _ (by rw [if_neg hc]), ((((But.refl _ w).drewN _).setCell (.inl (by simp)) _).setCell (.inl (by simp)) _)⟩
end Go.Proofs.YtcllddfhppikhaaDoor
