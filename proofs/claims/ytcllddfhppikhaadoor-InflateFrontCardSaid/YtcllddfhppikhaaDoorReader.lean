/- The contracts of the readers of bits. -/
import Derived.Test.YtcllddfhppikhaaDoorCrc
import Derived.Test.YtcllddfhppikhaaDoorStream
import Derived.Test.YtcllddfhppikhaaDoorMem
import Derived.WalkKit
import Derived.WalkSpells
import Derived.WalkLawsBesides
import Derived.Lib.Hide
import Derived.Outline
import Derived.Laws.IdiomStrings
import Derived.Deep.QuietTactic
import Derived.BigQuiet
import Derived.RegionTactic
namespace Go.Proofs.YtcllddfhppikhaaDoor
set_option maxRecDepth 100000
open Go Go.RowKit

/-- A reader in block b, its bytes in block d: of the bytes s, p bits are consumed. -/
def RS (w : World) (b d : Nat) (s : ByteArray) (p : Nat) : Prop :=
  p ≤ 8 * s.size ∧ d ≠ b ∧ ∃ A n c, Is w b 53 #[.slice A n c, .int .i64 (p % 8 : Nat)] ∧ n ≤ c ∧ ByteRow w A n (s.data.toList.drop (p / 8)) ∧ ∀ a, A = some a → a.block = d

theorem RS.but {w w' : World} {b d p : Nat} {s : ByteArray} {S : List Nat} (h : RS w b d s p) (hw : But S w w') (hb : b ∉ S) (hd : d ∉ S) : RS w' b d s p := by
  obtain ⟨h1, h2, A, n, c, hi, hn, hr, ha⟩ := h
  exact ⟨h1, h2, A, n, c, hi.but hw hb, hn, hr.but hw (fun k hk a e e' => hd (by rw [← ha a e, e']; exact hk)), ha⟩
theorem read_made (w : World) (s : ByteArray) (cap : Nat) (fz : Nat × Nat) (hc : s.size ≤ cap) :
    RS (((w.alloc (.cells (bytesRow s cap) 5 fz)).alloc (.cells #[.slice (some ⟨w.heap.size, 0, none⟩) s.size cap, .int .i64 0] 53)).drew) (w.heap.size + 1) w.heap.size s 0 := by
  refine ⟨by omega, by omega, some ⟨w.heap.size, 0, none⟩, s.size, cap, ?_, hc, ⟨Array.length_toList.trans rfl, fun _ => ⟨w.heap.size, 0, rfl, fun i hi => ?_⟩⟩, ?_⟩
  · have h := Is.fresh (w.alloc (.cells (bytesRow s cap) 5 fz)) 53 #[.slice (some ⟨w.heap.size, 0, none⟩) s.size cap, .int .i64 0]
    have e : (w.alloc (.cells (bytesRow s cap) 5 fz)).heap.size = w.heap.size + 1 := by simp
    rw [e] at h
    exact h.drew
  · have hi' : i < s.data.size := by simpa using hi
    have h1 : (w.alloc (.cells (bytesRow s cap) 5 fz)).cell? ⟨w.heap.size, 0 + i, none⟩ = some (.int .u8 (s.data[i].toNat : Int)) := by
      rw [World.cell?_alloc_mark, Nat.zero_add]; exact bytesRow_at s cap i hi'
    show ((w.alloc (.cells (bytesRow s cap) 5 fz)).alloc _).cell? _ = _
    rw [World.cell?_alloc_lt _ _ _ (by simp), h1]
    simp
  · intro a e; simp at e; subst e; rfl

theorem bits_read (s : ByteArray) (w : World) :
    Calls Tryd.prog 9 #[.string s] w fun e w' => e = .returned (.pointer (some ⟨w.heap.size + 1, 0, none⟩)) ∧ RS w' (w.heap.size + 1) w.heap.size s 0 ∧ But [] w w' ∧ w'.heap.size = w.heap.size + 2 := by
  have hcv := run_bytes_of_string (P := Tryd.prog) w 9 33 5 s Tryd.underlying9 Tryd.underlying33 Tryd.underlying5
  go_enter Tryd.func9, Tryd.ntmps9
  go_wp2
  go_ret
  exact ⟨rfl, read_made w s _ _ (grownCap_ge w s.size 0 _), ((((But.refl [] w).alloc _).alloc _).drew), by simp⟩

theorem RS.left {w : World} {b d p : Nat} {s : ByteArray} (h : RS w b d s p) (hs : s.size ≤ 140737488355328) :
    Calls Tryd.prog 11 #[.pointer (some ⟨b, 0, none⟩)] w fun e w' => e = .returned (.int .i64 (8 * s.size - p : Nat)) ∧ ∃ n, w' = w.drewN n := by
  obtain ⟨hp, hd, A, n, c, hi, hn, hr, ha⟩ := h
  have h0 : w.cell? ⟨b, 0, none⟩ = some (.slice A n c) := hi.cell 0
  have h1 : w.cell? ⟨b, 1, none⟩ = some (.int .i64 (p % 8 : Nat)) := hi.cell 1
  have hl := hr.1
  rw [List.length_drop, Array.length_toList] at hl
  have hz : s.data.size = s.size := rfl
  rw [hz] at hl
  have hlen : n ≤ 140737488355328 := by omega
  have H := Lib.hid hl
  clear hl hz hr ha hi hn
  go_enter Tryd.func11, Tryd.ntmps11
  go_wp2
  go_quiet (fail)
  go_wp2
  go_ret
  exact ⟨ret_int (by have := H.out; omega), nq, rfl⟩

/-- The document's reader in block b: of the bytes s, p bits are consumed. -/
def FS (w : World) (b : Nat) (s : ByteArray) (p : Nat) : Prop := p ≤ 8 * s.size ∧ Is w b 44 #[.string s, .int .i64 p]
theorem FS.but {w w' : World} {b p : Nat} {s : ByteArray} {S : List Nat} (h : FS w b s p) (hw : But S w w') (hb : b ∉ S) : FS w' b s p := ⟨h.1, h.2.but hw hb⟩

theorem FS.left {w : World} {b p : Nat} {s : ByteArray} (h : FS w b s p) (hs : s.size ≤ 140737488355328) :
    Calls Tryd.prog 33 #[.pointer (some ⟨b, 0, none⟩)] w fun e w' => e = .returned (.int .i64 (8 * s.size - p : Nat)) ∧ ∃ n, w' = w.drewN n := by
  obtain ⟨hp, hi⟩ := h
  have h0 : w.cell? ⟨b, 0, none⟩ = some (.string s) := hi.cell 0
  have h1 : w.cell? ⟨b, 1, none⟩ = some (.int .i64 p) := hi.cell 1
  clear hi
  go_enter Tryd.func33, Tryd.ntmps33
  go_wp2
  go_quiet (fail)
  go_wp2
  go_ret
  exact ⟨ret_int (by omega), nq, rfl⟩

/-- What a reader's Bits does: the number and the error, and where it stands then. -/
def bitsErr (s : ByteArray) (p : Nat) (n : Int) : Int := if n < 0 ∨ 24 < n then 1 else if (8 * s.size - p : Nat) < n then 3 else 0
def bitsVal (s : ByteArray) (p : Nat) (n : Int) : Nat := if bitsErr s p n = 0 then bitsAt (num s.data.toList) p n.toNat else 0
def bitsGo (s : ByteArray) (p : Nat) (n : Int) : Nat := if bitsErr s p n = 0 then p + n.toNat else p

theorem byte_at (s : ByteArray) (i : Nat) (h : i < s.size) : s[i] = s.data.toList[i]'(by simpa using h) := rfl
theorem int_pow (z j : Nat) : ((z : Nat) : Int) * 2 ^ j = ((z * 2 ^ j : Nat) : Int) := by simp
theorem lay_bit' (y z j : Nat) (hj : j < 24) (hz : z < 2) (hy : y < 2 ^ j) :
    Go.bits .or .i64 (y : Int) (wrap64 (wrap64 (z : Int) * 2 ^ j)) = ((y + z * 2 ^ j : Nat) : Int) := by
  have hp : 2 ^ j ≤ 2 ^ 24 := Nat.pow_le_pow_right (by decide) (by omega)
  have ez : wrap64 ((z : Nat) : Int) = ((z : Nat) : Int) := IntWalk.wrap64_in _ ⟨by omega, by omega⟩
  have hzj : z * 2 ^ j ≤ 1 * 2 ^ 24 := Nat.mul_le_mul (by omega) hp
  have ew : wrap64 ((z * 2 ^ j : Nat) : Int) = ((z * 2 ^ j : Nat) : Int) := IntWalk.wrap64_in _ ⟨by omega, by omega⟩
  rw [ez, int_pow, ew]
  exact i64_join _ _ j (by omega) hy (Nat.mul_mod_left z (2 ^ j)) (by omega)
theorem lay_bit (s : ByteArray) (p j : Nat) (hj : j < 24) (h : (p + j) / 8 < s.size) :
    Go.bits .or .i64 ((bitsAt (num s.data.toList) p j : Nat) : Int) (wrap64 (wrap64 (Go.bits .and .u8 (((s[(p + j) / 8]'h).toNat : Int) / 2 ^ ((p + j) % 8)) 1) * 2 ^ j)) = ((bitsAt (num s.data.toList) p (j + 1) : Nat) : Int) := by
  have hb := bit_of_byte s.data.toList (p + j) (by simpa using h)
  rw [← byte_at s _ h] at hb
  have hlt := (s[(p + j) / 8]'h).toNat_lt
  generalize (s[(p + j) / 8]'h).toNat = x at *
  have e1 : ((x : Int) / 2 ^ ((p + j) % 8)) = ((x / 2 ^ ((p + j) % 8) : Nat) : Int) := by simp
  have h1 : x / 2 ^ ((p + j) % 8) < 256 := Nat.lt_of_le_of_lt (Nat.div_le_self _ _) (by omega)
  have e2 := u8_and_nat (x / 2 ^ ((p + j) % 8)) 1 h1 (by decide)
  rw [nat_mask1, hb] at e2
  have hz := bitsAt_lt (num s.data.toList) (p + j) 1
  have hy := bitsAt_lt (num s.data.toList) p j
  rw [e1, bitsAt_succ]
  generalize bitsAt (num s.data.toList) (p + j) 1 = z at *
  generalize bitsAt (num s.data.toList) p j = y at *
  have e3 : Go.bits .and .u8 ((x / 2 ^ ((p + j) % 8) : Nat) : Int) 1 = (z : Int) := e2
  rw [e3]
  exact lay_bit' y z j hj hz hy

theorem FS.bits {w : World} {b p : Nat} {s : ByteArray} (h : FS w b s p) (hs : s.size ≤ 140737488355328) (n : Int) :
    Calls Tryd.prog 20 #[.pointer (some ⟨b, 0, none⟩), .int .i64 n] w fun e w' => e = .returned (.tuple #[.int .i64 (bitsVal s p n), .int .i64 (bitsErr s p n)]) ∧ FS w' b s (bitsGo s p n) ∧ But [b] w w' := by
  by_cases hn : n < 0 ∨ 24 < n
  · have he : bitsErr s p n = 1 := by unfold bitsErr; rw [if_pos hn]
    have hv : bitsVal s p n = 0 := by unfold bitsVal; rw [he]; rfl
    have hg : bitsGo s p n = p := by unfold bitsGo; rw [he]; rfl
    rw [he, hv, hg]
    clear he hv hg
    rcases hn with hn | hn
    · go_enter Tryd.func20, Tryd.ntmps20
      go_wp2
      go_ret2
      exact ⟨rfl, h, But.refl _ _⟩
    · have hn0 : ¬ n < 0 := by omega
      go_enter Tryd.func20, Tryd.ntmps20
      go_wp2
      go_ret2
      exact ⟨rfl, h, But.refl _ _⟩
  · obtain ⟨m, rfl⟩ := Int.eq_ofNat_of_zero_le (show 0 ≤ n by omega)
    have hm : m ≤ 24 := by omega
    have hp := h.1
    by_cases hl : 8 * s.size - p < m
    · have he : bitsErr s p (m : Int) = 3 := by unfold bitsErr; rw [if_neg hn, if_pos (by omega)]
      have hv : bitsVal s p (m : Int) = 0 := by unfold bitsVal; rw [he]; rfl
      have hg : bitsGo s p (m : Int) = p := by unfold bitsGo; rw [he]; rfl
      rw [he, hv, hg]
      clear he hv hg hn
      go_enter Tryd.func20, Tryd.ntmps20
      go_wp2_with (go_at_call 33; refine (h.left hs).mono ?_; rintro e w' ⟨rfl, nq, rfl⟩)
      go_ret2
      exact ⟨rfl, h.but ((But.refl [] w).drewN nq) (by simp), (But.refl _ w).drewN nq⟩
    · have he : bitsErr s p (m : Int) = 0 := by unfold bitsErr; rw [if_neg hn, if_neg (by omega)]
      have hv : bitsVal s p (m : Int) = bitsAt (num s.data.toList) p m := by unfold bitsVal; rw [if_pos he]; rfl
      have hg : bitsGo s p (m : Int) = p + m := by unfold bitsGo; rw [if_pos he]; rfl
      rw [he, hv, hg]
      clear he hv hg hn
      have hi := h.2
      have h0 : w.cell? ⟨b, 0, none⟩ = some (.string s) := hi.cell 0
      have h1 : w.cell? ⟨b, 1, none⟩ = some (.int .i64 p) := hi.cell 1
      have h2 : w.frozen? ⟨b, 1, none⟩ = false := hi.free 1
      have d1 : decide ((m : Int) < 0) = false := by simp
      have d2 : decide ((24 : Int) < (m : Int)) = false := by simp; omega
      go_enter Tryd.func20, Tryd.ntmps20
      go_wp2_with (go_at_call 33; refine (h.left hs).mono ?_; rintro e w' ⟨rfl, nq, rfl⟩)
      go_loopw [6, 7] (fun v i wr => ∃ j k : Nat, j ≤ m ∧ i = .int .i64 j ∧ v = .int .i64 (bitsAt (num s.data.toList) p j) ∧ wr = w.drewN k) (fun _ i _ => m - (intOf i).toNat)
      case atStart => exact ⟨0, nq, Nat.zero_le _, rfl, by rw [bitsAt_zero]; rfl, rfl⟩
      case round =>
        obtain ⟨j, k, hj, rfl, rfl, rfl⟩ := hrel
        by_cases hlt : j < m
        · have hx : ((p : Int) + (j : Int)) / 8 < (s.size : Int) := by omega
          have hx0 : 0 ≤ ((p : Int) + (j : Int)) / 8 := by omega
          go_wp2
          go_quiet (fail)
          go_wp2
          go_roundw
          case rel => exact ⟨j + 1, k + nq, by omega, by go_num, by rw [lay_bit s p j (by omega) (by omega)], rfl⟩
          case measure => simp [intOf]; omega
        · obtain rfl : j = m := by omega
          go_wp2
          go_ret2
          refine ⟨rfl, ⟨by omega, ?_⟩, ((But.refl _ w).drewN k).setCell (p := ⟨b, 1, none⟩) (.inl (by simp)) _⟩
          have := (hi.drewN k).put 1 (.int .i64 ((p + j : Nat) : Int))
          simpa using this
end Go.Proofs.YtcllddfhppikhaaDoor

