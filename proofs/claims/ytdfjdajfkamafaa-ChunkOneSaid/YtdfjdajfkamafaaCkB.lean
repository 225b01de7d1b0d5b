/- The document's chunks of a file. -/
import Derived.Test.YtdfjdajfkamafaaCkA
import Derived.Test.YtdfjdajfkamafaaZlD
import Derived.BigRegion
import Derived.Deep.RegionWith
set_option maxRecDepth 100000
set_option linter.unusedVariables false
namespace Go.Proofs.Ytdfjdajfkamafaa
set_option maxRecDepth 100000
open Go Go.RowKit
theorem OwnC.pushed {w wr w' : World} {v v' : Value} {L : List Ck} {x : Ck} {cs : Array Value} {t : TypeId} (hB : But [] w wr) (hO : OwnC wr w.heap.size v L)
    (h1 : w'.ownsRow w.heap.size 35 2 v' (L.length + 1) (ckCells L ++ [.string (strL x.1), .string (strL x.2)])) (hg : (wr.alloc (.cells cs t)).grownBy w' v.ownBlock) :
    OwnC w' w.heap.size v' (L ++ [x]) ∧ But [] w w' := by
  refine ⟨?_, (hB.alloc _).grown hg (fun g e => .inr (hO.lt g e).1)⟩
  unfold OwnC
  rw [List.length_append, ckCells_append]
  simpa [ckCells] using h1
theorem OwnC.pushedD {w wr w' : World} {v v' : Value} {L : List Ck} {x : Ck} {cs : Array Value} {t : TypeId} (hB : But [] w wr) (hO : OwnC wr w.heap.size v L)
    (h1 : w'.ownsRow w.heap.size 35 2 v' (L.length + 1) (ckCells L ++ [.string (strL x.1), .string (strL x.2)])) (hg : ((wr.alloc (.cells cs t)).drew).grownBy w' v.ownBlock) :
    OwnC w' w.heap.size v' (L ++ [x]) ∧ But [] w w' := by
  refine ⟨?_, ((hB.alloc _).drew).grown hg (fun g e => .inr (hO.lt g e).1)⟩
  unfold OwnC
  rw [List.length_append, ckCells_append]
  simpa [ckCells] using h1
/-- Chunks and an error, the chunks in a slice of the call's own. -/
def GotC (w : World) (r : List Ck × Int) (e : Ending) (w' : World) : Prop := ∃ v, e = .returned (.tuple #[v, .int .i64 r.2]) ∧ OwnC w' w.heap.size v r.1 ∧ But [] w w'
theorem letter_not {t : List UInt8} {k : Nat} (hk : k < t.length) (h : letterB t[k] = false) : rightT t = false := by
  unfold rightT
  rw [Bool.and_eq_false_iff]
  right
  rw [List.all_eq_false]
  exact ⟨t[k], List.getElem_mem hk, by rw [h]; decide⟩
theorem letter_next {t : List UInt8} {k : Nat} (hk : k < t.length) (h : letterB t[k] = true) (ha : (t.take k).all letterB = true) : (t.take (k + 1)).all letterB = true := by
  rw [List.take_succ_eq_append_getElem hk, List.all_append, ha]
  simp [h]
theorem right_whole {t : List UInt8} (h4 : t.length = 4) (ha : (t.take 4).all letterB = true) : rightT t = true := by
  unfold rightT
  rw [List.take_of_length_le (by omega)] at ha
  rw [ha, h4]; rfl
theorem right_long {t : List UInt8} (h4 : ¬ t.length = 4) : rightT t = false := by
  unfold rightT
  rw [decide_eq_false h4]; rfl
theorem byteC_run {s : ByteArray} {k : Nat} (hk : k < s.size) (w : World) : (Instr.index 9 (.string s) (.int .i64 (k : Int))).run Try.prog w = .ok (.int .u8 ((s.data.toList[k]'(by simpa using hk)).toNat : Nat)) w := by
  rw [run_index_string w 9 s .i64 _ Try.underlying9, dif_pos (by omega)]
  simp
  rfl
theorem eright_any (w : World) {t : ByteArray} : Calls Try.prog 20 #[.string t] w fun e w' => e = .returned (.bool (rightT t.data.toList)) ∧ w = w' := by
  have hlen : t.data.toList.length = t.size := by simp
  by_cases h4 : t.size = 4
  · have d4 : ((t.size : Int) != 4) = false := by simp; omega
    have HE := Lib.hid hlen
    have HT := Lib.hid (right_whole (t := t.data.toList) (by omega))
    have HF := Lib.hid (fun k (hk : k < t.data.toList.length) h => letter_not hk h)
    have HX := Lib.hid (fun k (hk : k < t.data.toList.length) h ha => letter_next hk h ha)
    have HK := Lib.hid (fun k (hk : k < t.size) w => byteC_run hk w)
    clear hlen
    go_enter Try.func20, Try.ntmps20
    go_wp2
    go_loop [3, 4] (fun i _ => ∃ k : Nat, k ≤ 4 ∧ i = .int .i64 k ∧ Hid ((t.data.toList.take k).all letterB = true)) (fun i _ => 4 - (intOf i).toNat)
    case atStart => exact ⟨0, Nat.zero_le _, rfl, Lib.hid rfl⟩
    case round =>
      obtain ⟨k, hk, rfl, HA⟩ := hrel
      by_cases hlt : k < 4
      · have hkt : k < t.size := by omega
        have hkl : k < t.data.toList.length := by rw [HE.out]; exact hkt
        have hf := HF.out k hkl
        have hn := HX.out k hkl
        have kx := HK.out k hkt
        obtain ⟨b, hb⟩ : ∃ b, b = t.data.toList[k] := ⟨_, rfl⟩
        rw [← hb] at hf hn
        simp only [← hb] at kx
        have hlb : letterB b = decide (65 ≤ b.toNat ∧ b.toNat ≤ 90 ∨ 97 ≤ b.toNat ∧ b.toNat ≤ 122) := rfl
        have hb8 := b.toNat_lt
        obtain ⟨x, hx⟩ : ∃ x, x = b.toNat := ⟨_, rfl⟩
        rw [← hx] at hlb hb8
        simp only [← hx] at kx
        clear hb hx
        by_cases h : 65 ≤ x ∧ x ≤ 90 ∨ 97 ≤ x ∧ x ≤ 122
        · have HN := Lib.hid (hn (by rw [hlb]; exact decide_eq_true h) HA.out)
          clear hf hn hlb
          go_wp2
          all_goals
            first
              | (exfalso; clear HA HN kx HE HT HF HX HK; simp at *; omega)
              | (go_round
                 case rel => exact ⟨k + 1, by omega, by go_num, HN⟩
                 case measure => simp [intOf]; omega)
        · have HN := Lib.hid (hf (by rw [hlb]; exact decide_eq_false h))
          clear hf hn hlb
          go_wp2
          all_goals
            first
              | (exfalso; clear HA HN kx HE HT HF HX HK; simp at *; omega)
              | (go_ret; exact ⟨by rw [HN.out]; rfl, rfl⟩)
      · obtain rfl : k = 4 := by omega
        have HN := Lib.hid (HT.out HA.out)
        go_wp2
        go_ret
        exact ⟨by rw [HN.out]; rfl, rfl⟩
  · have d4 : ((t.size : Int) != 4) = true := by simp; omega
    have HN := Lib.hid (right_long (t := t.data.toList) (by omega))
    clear hlen h4
    go_enter Try.func20, Try.ntmps20
    go_wp2
    go_ret
    exact ⟨by rw [HN.out]; rfl, rfl⟩
end Go.Proofs.Ytdfjdajfkamafaa
