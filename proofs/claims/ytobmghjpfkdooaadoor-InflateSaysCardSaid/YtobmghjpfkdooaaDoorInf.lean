/- The program's Inflate. -/
import Derived.Test.YtobmghjpfkdooaaDoorBlk
namespace Go.Proofs.YtobmghjpfkdooaaDoor
set_option maxRecDepth 100000
open Go Go.RowKit

section
variable {w : World}
def tell (r : List UInt8 × Nat × Int) : Ending := .returned (.tuple #[.string ⟨r.1.toArray⟩, .int .i64 (r.2.1 : Nat), .int .i64 r.2.2])
/-- The program's Inflate is the plain one. -/
theorem inflate_any (s : ByteArray) (M : Int) (hs : s.size ≤ 1099511627776) (hM : M ≤ 1099511627776) (hG : GL w) :
    Calls Tryd.prog 7 #[.string s, .int .i64 M] w fun e w' => e = tell (inflT s M) ∧ But [] w w' := by
  go_enter Tryd.func7, Tryd.ntmps7
  go_wp2_with fail
  refine (bits_read _ _).mono ?_
  rintro e w1 ⟨rfl, hR, hB1, hs1⟩
  have hb : w1.heap.size = w.heap.size + 2 := hs1
  have hI := Is.fresh w1 38 #[.pointer (some ⟨w.heap.size + 1, 0, none⟩), .slice none 0 0, .int .i64 M, .pointer none, .pointer none]
  rw [hb] at hI
  have hBa := hB1.alloc (.cells #[.pointer (some ⟨w.heap.size + 1, 0, none⟩), .slice none 0 0, .int .i64 M, .pointer none, .pointer none] 38)
  have hS : SS (w1.alloc (.cells #[.pointer (some ⟨w.heap.size + 1, 0, none⟩), .slice none 0 0, .int .i64 M, .pointer none, .pointer none] 38)) (w.heap.size + 2) (w.heap.size + 1) w.heap.size none s 0 M [] none none :=
    ⟨hR.but (but_alloc w1 _) (by simp) (by simp), by omega, by omega, hs, hM, by simp; omega, .slice none 0 0, hI, World.ownsRow_nil _ _ _ _, rfl⟩
  have hKG : Keep (Foot (w.heap.size + 2) (w.heap.size + 1) none) (w1.alloc (.cells #[.pointer (some ⟨w.heap.size + 1, 0, none⟩), .slice none 0 0, .int .i64 M, .pointer none, .pointer none] 38)) GL :=
    (show Keep [] w GL from fun w' hw => hG.but hw).step hBa (fun i hi => by
      unfold Foot at hi
      simp at hi
      right; omega)
  have hbk := blocks_any (F := 8 * s.size + 1) (f0 := 8 * s.size + 1) hS hKG (.inl ⟨rfl, rfl⟩) (by omega) (by omega)
  have HBK := Lib.hid hbk
  have HBA := Lib.hid hBa
  have hfr : ∀ i ∈ Foot (w.heap.size + 2) (w.heap.size + 1) none, w.heap.size ≤ i := fun i hi => by
    unfold Foot at hi
    simp at hi
    omega
  have HFR := Lib.hid hfr
  clear hR hB1 hI hBa hS hKG hbk hG hs1 hfr
  go_wp2_with fail
  refine HBK.out.mono ?_
  rintro e w2 ⟨er, og2, rfl, hMv, he1, he2⟩
  have hBf := HBA.out.fresh hMv.but HFR.out
  have HBF := Lib.hid hBf
  have HE1 := Lib.hid he1
  have HE2 := Lib.hid he2
  clear hMv he1 he2 hBf HBK HBA
  by_cases her : er = 0
  · obtain ⟨L, q, fs, fd, hr, hS⟩ := HE2.out her
    obtain ⟨A, c, hi, hown, _⟩ := hS.at
    have k0 : w2.cell? ⟨w.heap.size + 2, 0, none⟩ = some (.pointer (some ⟨w.heap.size + 1, 0, none⟩)) := hi.cell 0
    have k1 : w2.cell? ⟨w.heap.size + 2, 1, none⟩ = some (.slice A L.length c) := hi.cell 1
    have hcv : ∀ n, (convert 33 9 (.slice A L.length c)).run Tryd.prog (w2.drewN n) = .ok (.string ⟨L.toArray⟩) (w2.drewN n) := fun n => own_text (ownsRow_but hown ((But.refl [] w2).drewN n) (by simp))
    have hlf := fun n => (hS.drewN n).rs.left (by omega)
    have hq8 := hS.rs.1
    obtain ⟨x, hx⟩ : ∃ x, x = 8 * s.size - q := ⟨_, rfl⟩
    rw [← hx] at hlf
    obtain ⟨y, hy⟩ : ∃ y, y = x / 8 := ⟨_, rfl⟩
    obtain ⟨z, hz⟩ : ∃ z, z = (q + 7) / 8 := ⟨_, rfl⟩
    have a1 : (x : Int) / 8 = (y : Int) := by omega
    have a2 : IntKind.i64.wrap (y : Int) = (y : Int) := IntWalk.i64_in _ (by omega)
    have a3 : (s.size : Int) - (y : Int) = (z : Int) := by omega
    have a4 : IntKind.i64.wrap (z : Int) = (z : Int) := IntWalk.i64_in _ (by omega)
    have HR := Lib.hid hr
    have HL := Lib.hid hlf
    have HCV := Lib.hid hcv
    have hcv0 := hcv 0
    have HZ := Lib.hid hz
    clear hr hS hi hown hlf hx hy hz hq8 HE1 HE2 hcv hcv0 HFR
    subst her
    have hcv := HCV.out
    go_wp2
    go_quiet ((go_at_call 11; exact Calls.quiet_of (HL.out _)))
    go_wp2
    go_ret3
    exact ⟨by rw [inflT_ok HR.out, ← HZ.out]; rfl, HBF.out.drewN nq⟩
  · have d2 : (er != 0) = true := by simpa using her
    have HER := Lib.hid her
    clear her
    go_wp2
    go_ret3
    exact ⟨by rw [inflT_err (HE1.out HER.out)]; rfl, HBF.out⟩
end
end Go.Proofs.YtobmghjpfkdooaaDoor
