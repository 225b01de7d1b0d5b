/- The library's builder of strings within the program's file: its address is the file's, eight cells on. -/
import Derived.Test.YtedffeimcccobaaHdC
import Derived.Test.YtedffeimcccobaaBuB
set_option maxRecDepth 100000
set_option linter.unusedVariables false
namespace Go.Proofs.Ytedffeimcccobaa
set_option maxRecDepth 100000
open Go Go.RowKit
theorem lies_fbld : liesAt Try.prog Try.prog.depth 56 (12 / Try.prog.cellsOf 56) 8 54 1 = true := by kernel_rfl
theorem own_not {base n size : Nat} {v : World} {t : TypeId} {u : Value} {xs : List Value} {b : Nat} {c : Array Value} (h : v.ownsRow base 5 size u n xs) (k : Is v b t c) (ht : t ≠ 5) : some b ≠ u.ownBlock := by
  rcases h.2 with ⟨rfl, _⟩ | ⟨g, cap, cur, rfl, _, hg, _⟩
  · simp [Value.ownBlock]
  · intro e
    have e' : b = g := by simpa [Value.ownBlock] using e
    subst e'
    exact ht (Obj.cells.inj (Option.some.inj (k.symm.trans hg))).2.1
/-- Whatever is no row of bytes, and not block b, is as it was. -/
def Kp (b : Nat) (w w' : World) : Prop := ∀ (g : Nat) (t : TypeId) (cs : Array Value), g ≠ b → t ≠ 5 → Is w g t cs → Is w' g t cs
section
variable {w w' w'' w0 : World} {b : Nat}
theorem Kp.refl (b : Nat) (w : World) : Kp b w w := fun _ _ _ _ _ h => h
theorem Kp.trans (h : Kp b w w') (k : Kp b w' w'') : Kp b w w'' := fun g t cs h1 h2 h3 => k g t cs h1 h2 (h g t cs h1 h2 h3)
theorem Kp.set (h : Kp b w w') (i : Nat) (u : Value) : Kp b w (w'.setCell ⟨b, i, none⟩ u) := fun g t cs h1 h2 h3 => (h g t cs h1 h2 h3).far (p := ⟨b, i, none⟩) h1 u
theorem Kp.but (h : Kp b w w') (k : But [] w' w'') : Kp b w w'' := fun g t cs h1 h2 h3 => (h g t cs h1 h2 h3).but k (by simp)
theorem Kp.grown {base n : Nat} {v : Value} {D : List UInt8} (h : Kp b w w') (hO : OwnY w' base v D) (k : w'.grownBy w'' v.ownBlock) : Kp b w w'' := fun g t cs h1 h2 h3 => (h g t cs h1 h2 h3).grown k (own_not hO (h g t cs h1 h2 h3) h2)
theorem Is.shape {t : TypeId} {cs : Array Value} (h : Is w b t cs) : w.shape? b = some (t, cs.size) := by unfold Is at h; simp [World.shape?, h]
end
theorem Is.freeze {w : World} {b : Nat} {t : TypeId} {cs : Array Value} (h : Is w b t cs) {p : Addr} (hp : b ≠ p.block) (n : Nat) : Is (w.freeze p n) b t cs := by
  unfold World.freeze
  split
  · exact h
  · unfold Is at h ⊢
    simp only [Array.getElem?_modify]
    rw [if_neg (fun e => hp e.symm)]
    exact h
theorem fbld_used (b : Nat) (w : World) (h0 : w.cell? ⟨b, 8, none⟩ = some (.pointer (some ⟨b, 8, none⟩))) :
    Calls Try.prog 46 #[.pointer (some ⟨b, 8, none⟩)] w fun e w' => e = .returned (.tuple #[]) ∧ w' = w := by
  obtain ⟨j, hj, _⟩ := Option.map_eq_some_iff.1 size_bld
  go_enter Try.func46, Try.ntmps46
  go_wp2
  rw [Lib.run_neq_ptr_same w _ Try.underlying52 hj]
  go_wp2
  go_end0
  exact ⟨rfl, rfl⟩
theorem fbld_fresh (b : Nat) (w : World) (h0 : w.cell? ⟨b, 8, none⟩ = some (.pointer none)) (hsh : w.shape? b = some (56, 12)) (hfz : w.frozen? ⟨b, 8, none⟩ = false) :
    Calls Try.prog 46 #[.pointer (some ⟨b, 8, none⟩)] w fun e w' => e = .returned (.tuple #[]) ∧ w' = w.setCell ⟨b, 8, none⟩ (.pointer (some ⟨b, 8, none⟩)) := by
  obtain ⟨j, hj, hjs⟩ := Option.map_eq_some_iff.1 size_bld
  go_enter Try.func46, Try.ntmps46
  go_wp2
  rw [Lib.run_to_unsafe w ⟨b, 8, none⟩ Try.underlying52 Try.underlying77 hj (by rw [hjs]; decide) hsh (show 8 < 12 by decide)]
  simp only [Result.andThen]
  rw [Oper.upon_value]
  go_wp2
  rw [run_callFunc_extern Try.func47 (by kernel_rfl) (by kernel_rfl) (by kernel_rfl) (e := Extern.AbiNoEscape.same) (by kernel_rfl)]
  rw [Lib.run_noEscape]
  simp only [Result.andThen]
  rw [Oper.upon_value]
  go_wp2
  rw [Lib.run_from_unsafe w ⟨b, 8, none⟩ Try.underlying77 Try.underlying52 hj hsh lies_fbld]
  simp only [Result.andThen]
  rw [Oper.upon_value]
  go_wp2
  go_end0
  exact ⟨rfl, rfl⟩
section
variable {w0 w : World} {b : Nat} {x0 x1 x2 x3 x4 x5 x6 x7 p v x10 x11 : Value} {D : List UInt8}
/-- The builder's part of a file. -/
def FbS (w0 w : World) (b : Nat) (x0 x1 x2 x3 x4 x5 x6 x7 p v x10 x11 : Value) (D : List UInt8) : Prop :=
  w0.heap.size ≤ b ∧ But [] w0 w ∧ (p = .pointer none ∨ p = .pointer (some ⟨b, 8, none⟩)) ∧ Is w b 56 #[x0, x1, x2, x3, x4, x5, x6, x7, p, v, x10, x11] ∧ OwnY w w0.heap.size v D ∧ some b ≠ v.ownBlock
theorem fuse_none (W : World) (q : Option Addr) : (Builtin.unsafeString_ #[66, 3] 9 #[.pointer q, .int .i64 0]).run Try.prog W = .ok (.string ⟨#[]⟩) W :=
  Lib.run_unsafeString_none W _ _ _ q
theorem cells_u8 : Try.prog.cellsOf 5 = 1 := by kernel_rfl
set_option maxHeartbeats 4000000 in
theorem fbld_text (hc : w.cell? ⟨b, 9, none⟩ = some v) (hO : OwnY w w0.heap.size v D) (hB : But [] w0 w) :
    Calls Try.prog 28 #[.pointer (some ⟨b, 8, none⟩)] w fun e w' => e = .returned (.string (strL D)) ∧ But [] w0 w' ∧ ∀ (g : Nat) (t : TypeId) (cs : Array Value), t ≠ 5 → Is w g t cs → Is w' g t cs := by
  have hS : Below w0.heap.size w0 w := ⟨hB.os, hB.tape, hB.output, hB.size, fun i hi => hB.block i hi (by simp)⟩
  have done : ∀ {w' : World}, Below w0.heap.size w w' → But [] w0 w' := fun {w'} h2 => ⟨h2.os.trans hB.os, h2.tape.trans hB.tape, h2.output.trans hB.output, Nat.le_trans hB.size h2.size, fun i hi _ => (h2.block i hi).trans (hB.block i hi (by simp))⟩
  have hsz := hB.size
  have mixed : Try.prog.follows .mixedOrders = true := by kernel_rfl
  rcases hO.2 with ⟨rfl, hz⟩ | ⟨g, cap, cur, rfl, hbg, hg, hnc, hcm, hcs, htake⟩
  · obtain rfl : D = [] := List.eq_nil_of_length_eq_zero hz
    have hUS := fuse_none
    have c1 : w.drew.cell? ⟨b, 9, none⟩ = some (.slice none 0 0) := hc
    have hSD : (Builtin.unsafeSliceData_ #[48] 66 #[.slice none 0 0]).run Try.prog w.drew = .ok (.pointer none) w.drew := rfl
    have HD := Lib.hid (fun w' => @done w')
    clear hO hz hB hS done
    go_enter Try.func28, Try.ntmps28
    go_wp2
    go_region_o
    all_goals (go_wp2; go_ret; exact ⟨rfl, HD.out _ (Below.drew (Below.refl _ w)), fun g t cs _ h => h.drew⟩)
  · by_cases hl0 : D.length = 0
    · obtain rfl : D = [] := List.eq_nil_of_length_eq_zero hl0
      have hUS := fuse_none
      by_cases hc0 : cap = 0
      · subst hc0
        have hc : w.cell? ⟨b, 9, none⟩ = some (.slice (some ⟨g, 0, none⟩) 0 0) := hc
        have c1 : w.drew.cell? ⟨b, 9, none⟩ = some (.slice (some ⟨g, 0, none⟩) 0 0) := hc
        have hSD : (Builtin.unsafeSliceData_ #[48] 66 #[.slice (some ⟨g, 0, none⟩) 0 0]).run Try.prog w.drew = .ok (.pointer (some ⟨w.drew.heap.size, 0, none⟩)) (w.drew.alloc (.view ⟨g, 0, none⟩ 5)) :=
          Lib.run_unsafeSliceData_zero w.drew _ _ 5 Try.underlying66 ⟨g, 0, none⟩ 0 (5, cur.size) (by have hg' : w.drew.heap[g]? = some (.cells cur 5 (0, 0)) := hg; simp [World.shape?, hg'])
        have hk : But [] w (w.drew.alloc (.view ⟨g, 0, none⟩ 5)) := ((But.refl [] w).drew).alloc _
        have c2 : (w.drew.alloc (.view ⟨g, 0, none⟩ 5)).cell? ⟨b, 9, none⟩ = some (.slice (some ⟨g, 0, none⟩) 0 0) := hk.cell hc (by simp)
        have c3 : (w.alloc (.view ⟨g, 0, none⟩ 5)).drew.cell? ⟨b, 9, none⟩ = some (.slice (some ⟨g, 0, none⟩) 0 0) := c2
        have HD := Lib.hid (fun w' => @done w')
        clear hO hB hS done hk hg hnc hcm hcs htake
        go_enter Try.func28, Try.ntmps28
        go_wp2
        go_region_o
        all_goals (go_wp2; go_ret; exact ⟨rfl, HD.out _ ((Below.drew (Below.refl _ w)).alloc hsz _), fun g t cs _ h => h.drew.alloc _⟩)
      · have hc : w.cell? ⟨b, 9, none⟩ = some (.slice (some ⟨g, 0, none⟩) 0 cap) := hc
        have c1 : w.drew.cell? ⟨b, 9, none⟩ = some (.slice (some ⟨g, 0, none⟩) 0 cap) := hc
        have hSD : (Builtin.unsafeSliceData_ #[48] 66 #[.slice (some ⟨g, 0, none⟩) 0 cap]).run Try.prog w.drew = .ok (.pointer (some ⟨g, 0, none⟩)) w.drew :=
          Lib.run_unsafeSliceData_row _ _ _ _ _ _ hc0
        have HD := Lib.hid (fun w' => @done w')
        clear hO hB hS done hg hnc hcm hcs htake hc0
        go_enter Try.func28, Try.ntmps28
        go_wp2
        go_region_o
        all_goals (go_wp2; go_ret; exact ⟨rfl, HD.out _ (Below.drew (Below.refl _ w)), fun g t cs _ h => h.drew⟩)
    · have c1 : w.drew.cell? ⟨b, 9, none⟩ = some (.slice (some ⟨g, 0, none⟩) D.length cap) := hc
      have hSD : (Builtin.unsafeSliceData_ #[48] 66 #[.slice (some ⟨g, 0, none⟩) D.length cap]).run Try.prog w.drew = .ok (.pointer (some ⟨g, 0, none⟩)) w.drew :=
        Lib.run_unsafeSliceData_row _ _ _ _ _ _ (by omega)
      have hUS : (Builtin.unsafeString_ #[66, 3] 9 #[.pointer (some ⟨g, 0, none⟩), .int .i64 D.length]).run Try.prog w.drew = .ok (.string (strL D)) (w.drew.freeze ⟨g, 0, none⟩ D.length) := by
        refine Lib.run_unsafeString_row w.drew 66 3 9 5 Try.underlying66 cells_u8 g cur.size (by have hg' : w.drew.heap[g]? = some (.cells cur 5 (0, 0)) := hg; simp [World.shape?, hg']) D (fun e => hl0 (by rw [e]; rfl)) (by omega) (by unfold maxLen at hcm; omega) ?_
        intro j x hx
        have := World.ownsRow.cells hO (g := g) rfl j (.int .u8 x.toNat) (by simp [cellsOf, hx])
        exact this
      have HD := Lib.hid (fun w' => @done w')
      have HG := Lib.hid hbg
      have HN := Lib.hid (fun (b' : Nat) (t : TypeId) (cs : Array Value) (ht : t ≠ 5) (h : Is w b' t cs) => (show b' ≠ g from fun e => own_not hO h ht (by rw [e]; rfl)))
      obtain ⟨S, hS2⟩ : ∃ S, S = strL D := ⟨_, rfl⟩
      rw [← hS2] at hUS ⊢
      obtain ⟨n, hn⟩ : ∃ n, n = D.length := ⟨_, rfl⟩
      rw [← hn] at hUS hSD c1
      clear hO hB hS done hg hnc hcm hcs htake hl0 hc hS2 hbg hn
      go_enter Try.func28, Try.ntmps28
      go_wp2
      go_region_o
      all_goals (go_wp2; go_ret; exact ⟨rfl, HD.out _ (Lib.below_freeze (Below.drew (Below.refl _ w)) (p := ⟨g, 0, none⟩) HG.out _), fun b' t cs ht h => Is.freeze h.drew (p := ⟨g, 0, none⟩) (HN.out b' t cs ht h) _⟩)
theorem fbld_check (h : FbS w0 w b x0 x1 x2 x3 x4 x5 x6 x7 p v x10 x11 D) :
    Calls Try.prog 46 #[.pointer (some ⟨b, 8, none⟩)] w fun e w' => e = .returned (.tuple #[]) ∧ FbS w0 w' b x0 x1 x2 x3 x4 x5 x6 x7 (.pointer (some ⟨b, 8, none⟩)) v x10 x11 D ∧ Kp b w w' := by
  obtain ⟨h1, h2, h3, h4, h5, h6⟩ := h
  rcases h3 with rfl | rfl
  · refine (fbld_fresh b w (by rw [h4.cell]; rfl) (by rw [h4.shape]; rfl) (h4.free 8)).mono ?_
    rintro e w' ⟨rfl, rfl⟩
    exact ⟨rfl, ⟨h1, h2.setCell (.inr h1) _, .inr rfl, h4.put 8 _, ownsRow_but (S := [b]) h5 ((But.refl [b] w).setCell (p := ⟨b, 8, none⟩) (.inl (by simp)) _) (fun g e hm => h6 (by rw [List.mem_singleton.1 hm] at e; exact e.symm)), h6⟩, (Kp.refl b w).set 8 _⟩
  · refine (fbld_used b w (by rw [h4.cell]; rfl)).mono ?_
    rintro e w' ⟨rfl, rfl⟩
    exact ⟨rfl, ⟨h1, h2, .inr rfl, h4, h5, h6⟩, Kp.refl b _⟩
theorem fbld_put (s : List UInt8) (h : FbS w0 w b x0 x1 x2 x3 x4 x5 x6 x7 p v x10 x11 D) (hlen : D.length + s.length ≤ 140737488355328) :
    Calls Try.prog 43 #[.pointer (some ⟨b, 8, none⟩), .string (strL s)] w fun e w' => e = .returned (.tuple #[.int .i64 (s.length : Nat), .nilIface]) ∧ ∃ v', FbS w0 w' b x0 x1 x2 x3 x4 x5 x6 x7 (.pointer (some ⟨b, 8, none⟩)) v' x10 x11 (D ++ s) ∧ Kp b w w' := by
  obtain ⟨i0, hi, hz0, hz1, hz2⟩ := info_parts info_byteB
  have HC := Lib.hid (fbld_check h)
  have hsz : (strL s).size = s.length := strL_size s
  obtain ⟨z, hz⟩ : ∃ z, z = s.length := ⟨_, rfl⟩
  have HZ := Lib.hid hz
  rw [← hz] at hsz hlen ⊢
  clear h hz
  go_enter Try.func43, Try.ntmps43
  go_wp2_with fail
  refine HC.out.mono ?_
  rintro e w1 ⟨rfl, ⟨h1, h2, h3, h4, h5, h6⟩, hk⟩
  have c1 : w1.cell? ⟨b, 9, none⟩ = some v := by rw [h4.cell]; rfl
  go_wp2_with (at_builtin; refine wpList_append_yk (w0 := w0) _ rfl _ _ rfl hi hz0 hz1 hz2 _ _ rfl h5 h2 _ rfl ?hb ?_)
  case hb => rw [← HZ.out]; exact hlen
  intro v' w2 hO2 hg2
  have h42 : Is w2 b 56 #[x0, x1, x2, x3, x4, x5, x6, x7, .pointer (some ⟨b, 8, none⟩), v, x10, x11] := h4.grown hg2 h6
  have hk2 : Kp b w w2 := Kp.grown (n := 0) hk h5 hg2
  have hB2 : But [] w0 w2 := h2.grown hg2 (fun g e => .inr (World.ownsRow.lt h5 g e).1)
  have d1 := h42.cell 9
  have f1 := h42.free 9
  have hn2 := own_not hO2 h42 (by decide)
  obtain ⟨ao, n', cap, rfl⟩ : ∃ ao n' cap, v' = .slice ao n' cap := by
    obtain ⟨A, c, e⟩ := hO2.shape
    exact ⟨_, _, _, e⟩
  go_wp2
  go_ret2
  refine ⟨rfl, _, ⟨h1, hB2.setCell (p := ⟨b, 9, none⟩) (.inr h1) _, .inr rfl, h42.put 9 _, ownsRow_but (S := [b]) hO2 ((But.refl [b] w2).setCell (p := ⟨b, 9, none⟩) (.inl (by simp)) _) (fun g e hm => hn2 (by rw [List.mem_singleton.1 hm] at e; exact e.symm)), hn2⟩, hk2.set 9 _⟩
end
end Go.Proofs.Ytedffeimcccobaa
