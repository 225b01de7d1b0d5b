/- The walk of the statement on symbols that are read. -/
import Derived.Test.YtmafcmfafcjokaaRNext
import Derived.Test.YtmafcmfafcjokaaLawF
namespace Go.Proofs.Ytmafcmfafcjokaa
open Go Go.RowKit

theorem fs_fresh (w : World) (s : ByteArray) : FS (w.alloc (.cells #[.string s, .int .i64 0] 42)) w.heap.size s 0 := ⟨Nat.zero_le _, Is.fresh w _ _⟩

set_option maxRecDepth 100000 in
set_option maxHeartbeats 2000000 in
theorem huffReads_walk {A : Option Addr} {len cap : Nat} {l : List Int} {s : ByteArray} {w : World} (hl : Ints w A len l) (hb : len * 8 ≤ 140737488351232) (hnil : A = none → cap = 0) (_hf : Fits l)
    (hs : s.size ≤ 140737488351232) :
    Calls Try.prog 5 #[.slice A len cap, .string s] w fun e w' => e = .returned (.bool true) ∧ Below w.heap.size w w' := by
  have hm : len ≤ maxLen := by unfold maxLen; omega
  have hs2 : s.size ≤ 140737488355328 := by omega
  by_cases hc : chk l = 0
  · have HC := Lib.hid hc
    have HNIL := Lib.hid hnil
    have hmk := make_any hl hb hnil hc
    clear hc hnil
    go_enter Try.func5, Try.ntmps5
    go_wp2_with fail
    refine hmk.mono ?_
    rintro e w1 ⟨bt, rfl, hT, hB1⟩
    have hmk2 := rmake_any (hl.but hB1 (by simp)) hb HNIL.out HC.out
    go_wp2_with fail
    refine hmk2.mono ?_
    rintro e w2 ⟨bu, rfl, hU, hB2⟩
    have hT2 := hT.but hB2
    have HB := Lib.hid (hB1.trans hB2)
    clear hmk2 hmk hl hT hB1 hB2
    go_wp2_with fail
    refine (bits_read _ _).mono ?_
    rintro e w3 ⟨rfl, hR, hB3, hs3⟩
    go_wp2_with fail
    have hF := fs_fresh w3 s
    have hR1 := hR.but ((But.refl [] w3).alloc (.cells #[.string s, .int .i64 0] 42)) (by simp) (by simp)
    have hB4 := hB3.alloc (.cells #[.string s, .int .i64 0] 42)
    rw [hs3] at hF
    have HT := Lib.hid hT2
    have HU := Lib.hid hU
    have HF := Lib.hid hF
    have HR := Lib.hid hR1
    have HB4 := Lib.hid hB4
    have HS3 := Lib.hid hs3
    clear hT2 hU hF hR1 hB4 hR hB3 hs3
    go_loopw [11] (fun iv wr => ∃ k p : Nat, k ≤ 100 ∧ iv = .int .i64 k ∧ RS wr (w2.heap.size + 1) w2.heap.size s p ∧ FS wr (w2.heap.size + 2) s p ∧ But [] w2 wr) (fun iv _ => 100 - (intOf iv).toNat)
    case atStart => exact ⟨0, 0, by omega, rfl, HR.out, by have := HS3.out; exact HF.out, HB4.out⟩
    case round =>
      obtain ⟨k, p, hk, rfl, hRr, hFr, hBr⟩ := hrel
      clear HR HF HB4
      by_cases hlt : k < 100
      · have hn := next_any (bt := bt) HC.out hRr hs2 (fun w' hw => HT.out.but (hBr.fresh hw (by simp)))
        have HN := Lib.hid hn
        have HRr := Lib.hid hRr
        have HFr := Lib.hid hFr
        have HBr := Lib.hid hBr
        clear hn hRr hFr hBr
        go_wp2_with fail
        refine HN.out.mono ?_
        rintro e w4 ⟨q, hq, rfl, hR4, hB4⟩
        have hBr4 := HBr.out.fresh hB4 (by simp)
        have hF4 := HFr.out.but hB4 (by simp)
        have hn2 := rnext_any (bt := bu) HC.out hF4 hs2 (fun w' hw => HU.out.but (hBr4.fresh hw (by simp)))
        have HN2 := Lib.hid hn2
        have HQ := Lib.hid hq
        have HR4 := Lib.hid hR4
        have HBr4 := Lib.hid hBr4
        clear hn2 hq hR4 hBr4 hF4 hB4
        go_wp2_with fail
        refine HN2.out.mono ?_
        rintro e w5 ⟨q', hq', rfl, hF5, hB5⟩
        obtain rfl : q' = q := hq'.symm.trans HQ.out
        have hR5 := HR4.out.but hB5 (by simp) (by simp)
        have hBr5 := HBr4.out.fresh hB5 (by simp)
        obtain ⟨q1, q2, q3⟩ := q'
        dsimp only at hF5 hR5 ⊢
        have b1 : ((q1 : Int) != (q1 : Int)) = false := by simp
        have b2 : (q2 != q2) = false := by simp
        have HR5 := Lib.hid hR5
        have HF5 := Lib.hid hF5
        have HBr5 := Lib.hid hBr5
        clear hq' hF5 hR5 hBr5 hB5
        go_wp2_with fail
        refine (HR5.out.left hs2).mono ?_
        rintro e w6 ⟨rfl, nq, rfl⟩
        have hF6 := HF5.out.but ((But.refl [] w5).drewN nq) (by simp)
        go_wp2_with fail
        refine (hF6.left hs2).mono ?_
        rintro e w7 ⟨rfl, nq2, rfl⟩
        clear hF6
        go_wp2
        go_roundw
        case rel => exact ⟨k + 1, q3, by omega, by go_num, HR5.out.but ((But.refl [] w5).drewN _) (by simp) (by simp), HF5.out.but ((But.refl [] w5).drewN _) (by simp), HBr5.out.drewN _⟩
        case measure => simp [intOf]; omega
      · have HBr := Lib.hid hBr
        clear hRr hFr hBr
        go_wp2_with fail
        refine (awake_any _).mono ?_
        rintro e w7 ⟨rfl, hB7⟩
        have HF := Lib.hid ((HB.out.trans (HBr.out.trans hB7)).belowNew)
        clear hB7
        go_wp2
        go_ret
        exact ⟨rfl, HF.out⟩
  · have hmk := make_err (cap := cap) hl hm hc
    have hck := rmake_err (cap := cap) hl hm hc
    have hx0 : (chk l == 0) = false := by simpa using hc
    generalize chk l = x at *
    have HM := Lib.hid hmk
    have HCK := Lib.hid hck
    clear hmk hc hnil hck hl
    go_enter Try.func5, Try.ntmps5
    go_wp2_with fail
    refine HM.out.mono ?_
    rintro e w1 ⟨rfl, rfl⟩
    go_wp2_with fail
    refine HCK.out.mono ?_
    rintro e w2 ⟨rfl, rfl⟩
    go_wp2_with fail
    refine (awake_any _).mono ?_
    rintro e w3 ⟨rfl, hB3⟩
    have HF := Lib.hid hB3.belowNew
    go_wp2
    go_ret
    exact ⟨rfl, HF.out⟩
end Go.Proofs.Ytmafcmfafcjokaa
