/- The chapter's examples. -/
import Derived.Test.YtedffeimcccobaaHpK
import Derived.Deep.CutRange
import Derived.Test.YtedffeimcccobaaRegN
import Derived.Deep.CutBlock
set_option maxRecDepth 100000
set_option linter.unusedVariables false
namespace Go.Proofs.Ytedffeimcccobaa
set_option maxRecDepth 100000
open Go Go.RowKit
def shpG : Array Value := #[.int .i64 1, .int .i64 1, .int .i64 8, .int .i64 0, .int .i64 0, .string ⟨#[]⟩, .string ⟨#[]⟩, .bool false]
theorem cks_is {W : World} {g : Nat} {L : List Ck} (h : Is W g 30 (ckCells L).toArray) : Cks W (some ⟨g, 0, none⟩) L.length L := by
  have h0 := cks_lit W L
  refine ⟨rfl, fun hp => ⟨g, 0, rfl, h.lt, fun i hi => ?_⟩⟩
  obtain ⟨g', o', e, _, hc⟩ := h0.2 hp
  injection e with e
  injection e with e1 e2
  subst e1 e2
  obtain ⟨h1, h2⟩ := hc i hi
  rw [World.cell?_alloc_mark] at h1 h2
  rw [h.cell, h.cell]
  exact ⟨h1, h2⟩
theorem Is.freshD (w : World) (t : TypeId) (cs : Array Value) : Is (w.drew.alloc (.cells cs t)) w.heap.size t cs := Is.fresh w.drew t cs
theorem Is.fresh1 (w : World) (o : Obj) (t : TypeId) (cs : Array Value) : Is ((w.alloc o).alloc (.cells cs t)) (w.heap.size + 1) t cs := by
  have h := Is.fresh (w.alloc o) t cs
  rw [show (w.alloc o).heap.size = w.heap.size + 1 by simp] at h
  exact h
theorem aw_a (W : World) (g : Nat) (h : Is W g 30 #[.string ⟨#[73, 72, 68, 82]⟩, .string (strL greyD), .string ⟨#[73, 68, 65, 84]⟩, .string ⟨#[120]⟩, .string ⟨#[73, 68, 65, 84]⟩, .string ⟨#[121]⟩, .string ⟨#[73, 69, 78, 68]⟩, .string ⟨#[]⟩]) : Calls Try.prog 17 #[.slice (some ⟨g, 0, none⟩) 4 4] W fun e w' => e = .returned (.tuple #[.agg #[.int .i64 1, .int .i64 1, .int .i64 8, .int .i64 0, .int .i64 0, .string ⟨#[]⟩, .string ⟨#[]⟩, .bool false], .string ⟨#[120, 121]⟩, .int .i64 0]) ∧ But [] W w' := by
  have h := pread_any _ (cap := 4) (cks_is (L := [(tIHDR, greyD), (tIDAT, [120]), (tIDAT, [121]), (tIEND, [])]) h) (by decide) (by decide) (by decide) (by
    intro i k h
    have hm := List.mem_of_getElem? h
    simp only [List.mem_cons, List.not_mem_nil, or_false] at hm
    rcases hm with rfl | rfl | rfl | rfl <;> decide)
  rw [read_two] at h
  exact h
theorem aw_b (W : World) (g : Nat) (h : Is W g 30 #[.string ⟨#[73, 72, 68, 82]⟩, .string (strL greyD), .string ⟨#[73, 69, 78, 68]⟩, .string ⟨#[]⟩]) : Calls Try.prog 17 #[.slice (some ⟨g, 0, none⟩) 2 2] W fun e w' => e = .returned (.tuple #[.agg #[.int .i64 0, .int .i64 0, .int .i64 0, .int .i64 0, .int .i64 0, .string ⟨#[]⟩, .string ⟨#[]⟩, .bool false], .string ⟨#[]⟩, .int .i64 23]) ∧ But [] W w' := by
  have h := pread_any _ (cap := 2) (cks_is (L := [(tIHDR, greyD), (tIEND, [])]) h) (by decide) (by decide) (by decide) (by
    intro i k h
    have hm := List.mem_of_getElem? h
    simp only [List.mem_cons, List.not_mem_nil, or_false] at hm
    rcases hm with rfl | rfl <;> decide)
  rw [read_ends] at h
  exact h
theorem aw_c (W : World) (g : Nat) (h : Is W g 30 #[.string ⟨#[73, 72, 68, 82]⟩, .string (strL greyD), .string ⟨#[73, 68, 65, 84]⟩, .string ⟨#[120]⟩, .string ⟨#[116, 69, 88, 116]⟩, .string ⟨#[]⟩, .string ⟨#[73, 68, 65, 84]⟩, .string ⟨#[121]⟩, .string ⟨#[73, 69, 78, 68]⟩, .string ⟨#[]⟩]) : Calls Try.prog 17 #[.slice (some ⟨g, 0, none⟩) 5 5] W fun e w' => e = .returned (.tuple #[.agg #[.int .i64 0, .int .i64 0, .int .i64 0, .int .i64 0, .int .i64 0, .string ⟨#[]⟩, .string ⟨#[]⟩, .bool false], .string ⟨#[]⟩, .int .i64 23]) ∧ But [] W w' := by
  have h := pread_any _ (cap := 5) (cks_is (L := [(tIHDR, greyD), (tIDAT, [120]), ([116, 69, 88, 116], []), (tIDAT, [121]), (tIEND, [])]) h) (by decide) (by decide) (by decide) (by
    intro i k h
    have hm := List.mem_of_getElem? h
    simp only [List.mem_cons, List.not_mem_nil, or_false] at hm
    rcases hm with rfl | rfl | rfl | rfl | rfl <;> decide)
  rw [read_text] at h
  exact h
theorem aw_d (W : World) (g : Nat) (h : Is W g 30 #[.string ⟨#[73, 72, 68, 82]⟩, .string (strL greyD), .string ⟨#[65, 66, 67, 68]⟩, .string ⟨#[]⟩, .string ⟨#[73, 68, 65, 84]⟩, .string ⟨#[120]⟩, .string ⟨#[73, 69, 78, 68]⟩, .string ⟨#[]⟩]) : Calls Try.prog 17 #[.slice (some ⟨g, 0, none⟩) 4 4] W fun e w' => e = .returned (.tuple #[.agg #[.int .i64 0, .int .i64 0, .int .i64 0, .int .i64 0, .int .i64 0, .string ⟨#[]⟩, .string ⟨#[]⟩, .bool false], .string ⟨#[]⟩, .int .i64 27]) ∧ But [] W w' := by
  have h := pread_any _ (cap := 4) (cks_is (L := [(tIHDR, greyD), ([65, 66, 67, 68], []), (tIDAT, [120]), (tIEND, [])]) h) (by decide) (by decide) (by decide) (by
    intro i k h
    have hm := List.mem_of_getElem? h
    simp only [List.mem_cons, List.not_mem_nil, or_false] at hm
    rcases hm with rfl | rfl | rfl | rfl <;> decide)
  rw [read_crit] at h
  exact h
/-- What stands between the examples. -/
def AwS (w : World) (g1 : Nat) (G : ByteArray) (v : World) : Prop := Is v g1 30 #[.string ⟨#[73, 72, 68, 82]⟩, .string G] ∧ But [] w v
theorem AwS.but {w v v' : World} {g1 : Nat} {G : ByteArray} (h : AwS w g1 G v) (k : But [] v v') : AwS w g1 G v' := ⟨h.1.but k (by simp), h.2.trans k⟩
theorem AwS.fin {w W : World} {g1 gs : Nat} {G : ByteArray} (hS : AwS w g1 G W) (hZ : Is W gs 36 zerC) (hb : w.heap.size ≤ gs) (v0 v1 v2 v3 v4 v5 v6 v7 : Value) :
    Is ((((((((W.setCell ⟨gs, 0, none⟩ v0).setCell ⟨gs, 1, none⟩ v1).setCell ⟨gs, 2, none⟩ v2).setCell ⟨gs, 3, none⟩ v3).setCell ⟨gs, 4, none⟩ v4).setCell ⟨gs, 5, none⟩ v5).setCell ⟨gs, 6, none⟩ v6).setCell ⟨gs, 7, none⟩ v7) gs 36 #[v0, v1, v2, v3, v4, v5, v6, v7] ∧
    AwS w g1 G ((((((((W.setCell ⟨gs, 0, none⟩ v0).setCell ⟨gs, 1, none⟩ v1).setCell ⟨gs, 2, none⟩ v2).setCell ⟨gs, 3, none⟩ v3).setCell ⟨gs, 4, none⟩ v4).setCell ⟨gs, 5, none⟩ v5).setCell ⟨gs, 6, none⟩ v6).setCell ⟨gs, 7, none⟩ v7) := by
  obtain ⟨h1, h2⟩ := put8 hZ hS.2 hb v0 v1 v2 v3 v4 v5 v6 v7
  have hne : g1 ≠ gs := hS.1.ne hZ (by decide)
  exact ⟨h1, (((((((hS.1.far (p := ⟨gs, 0, none⟩) hne _).far (p := ⟨gs, 1, none⟩) hne _).far (p := ⟨gs, 2, none⟩) hne _).far (p := ⟨gs, 3, none⟩) hne _).far (p := ⟨gs, 4, none⟩) hne _).far (p := ⟨gs, 5, none⟩) hne _).far (p := ⟨gs, 6, none⟩) hne _).far (p := ⟨gs, 7, none⟩) hne _, h2⟩
def AwT (w : World) (g1 : Nat) (G : ByteArray) (g2 : Nat) (v : World) : Prop := Is v g1 30 #[.string ⟨#[73, 72, 68, 82]⟩, .string G] ∧ Is v g2 36 shpG ∧ But [] w v
theorem AwT.but {w v v' : World} {g1 g2 : Nat} {G : ByteArray} (h : AwT w g1 G g2 v) (k : But [] v v') : AwT w g1 G g2 v' := ⟨h.1.but k (by simp), h.2.1.but k (by simp), h.2.2.trans k⟩
theorem AwT.fin {w W : World} {g1 g2 gs : Nat} {G : ByteArray} (hS : AwT w g1 G g2 W) (hZ : Is W gs 36 zerC) (hb : w.heap.size ≤ gs) (v0 v1 v2 v3 v4 v5 v6 v7 : Value) :
    Is ((((((((W.setCell ⟨gs, 0, none⟩ v0).setCell ⟨gs, 1, none⟩ v1).setCell ⟨gs, 2, none⟩ v2).setCell ⟨gs, 3, none⟩ v3).setCell ⟨gs, 4, none⟩ v4).setCell ⟨gs, 5, none⟩ v5).setCell ⟨gs, 6, none⟩ v6).setCell ⟨gs, 7, none⟩ v7) gs 36 #[v0, v1, v2, v3, v4, v5, v6, v7] ∧
    AwT w g1 G g2 ((((((((W.setCell ⟨gs, 0, none⟩ v0).setCell ⟨gs, 1, none⟩ v1).setCell ⟨gs, 2, none⟩ v2).setCell ⟨gs, 3, none⟩ v3).setCell ⟨gs, 4, none⟩ v4).setCell ⟨gs, 5, none⟩ v5).setCell ⟨gs, 6, none⟩ v6).setCell ⟨gs, 7, none⟩ v7) := by
  obtain ⟨h1, h2⟩ := AwS.fin (g1 := g1) ⟨hS.1, hS.2.2⟩ hZ hb v0 v1 v2 v3 v4 v5 v6 v7
  have hne : g2 ≠ gs := fun e => by
    subst e
    have h := (Obj.cells.inj (Option.some.inj (hS.2.1.symm.trans hZ))).1
    unfold shpG zerC at h
    simp at h
  exact ⟨h1, h2.1, (((((((hS.2.1.far (p := ⟨gs, 0, none⟩) hne _).far (p := ⟨gs, 1, none⟩) hne _).far (p := ⟨gs, 2, none⟩) hne _).far (p := ⟨gs, 3, none⟩) hne _).far (p := ⟨gs, 4, none⟩) hne _).far (p := ⟨gs, 5, none⟩) hne _).far (p := ⟨gs, 6, none⟩) hne _).far (p := ⟨gs, 7, none⟩) hne _, h2.2⟩
attribute [local irreducible] strL
set_option maxHeartbeats 20000000 in
theorem awake8_any (w : World) : Calls Try.prog 13 #[] w fun e w' => e = .returned (.bool true) ∧ But [] w w' := by
  have hl := fun v => play_head v 1 1 8 0 0
  rw [lay_grey] at hl
  unfold ckVal at hl
  dsimp only at hl
  rw [tIHDR_str] at hl
  have ra := aw_a
  have rb := aw_b
  have rc := aw_c
  have rd := aw_d
  obtain ⟨G, hG⟩ : ∃ G, G = strL greyD := ⟨_, rfl⟩
  rw [← hG] at hl
  simp only [← hG] at ra rb rc rd
  have HGR := Lib.hid pgrey_any
  have HDT := Lib.hid pdat_b
  have HEN := Lib.hid pends_any
  have HLA := Lib.hid hl
  have HA := Lib.hid ra
  have HB := Lib.hid rb
  have HC := Lib.hid rc
  have HD := Lib.hid rd
  have hri := fun v => pright_h v 1 1 8 1 0
  rw [right_one] at hri
  have hrj := fun v => pright_h v 1025 1 8 0 0
  rw [right_wide] at hrj
  have HRI := Lib.hid hri
  have HRJ := Lib.hid hrj
  clear hl ra rb rc rd hG hri hrj
  go_enter Try.func13, Try.ntmps13
  go_upto_region 2 with (first | (go_at_call 23; refine (HGR.out _).mono ?_; rintro e w1 ⟨rfl, hB1⟩; have HB1 := Lib.hid hB1; clear hB1) | (go_at_call 14; refine (HLA.out _).mono ?_; rintro e w2 ⟨rfl, hB2⟩; have HB2 := Lib.hid hB2; clear hB2))
  have hS : AwS w w2.heap.size G (w2.alloc (.cells #[.string ⟨#[73, 72, 68, 82]⟩, .string G] 30)) := ⟨Is.fresh _ _ _, ((HB1.out.trans HB2.out).alloc _)⟩
  obtain ⟨w3, hw3⟩ : ∃ x, x = w2.alloc (.cells #[.string ⟨#[73, 72, 68, 82]⟩, .string G] 30) := ⟨_, rfl⟩
  rw [← hw3] at hS ⊢
  obtain ⟨g1, hg1⟩ : ∃ g, g = w2.heap.size := ⟨_, rfl⟩
  rw [← hg1] at hS ⊢
  have HS3 := Lib.hid hS
  clear hw3 hg1 HB1 HB2 HLA
  go_cut [2, 3, 4] from 16 to 25 (fun v2 v3 v4 wx => ∃ gs, v2 = .pointer (some ⟨gs, 0, none⟩) ∧ v3 = .string ⟨#[120, 121]⟩ ∧ v4 = .int .i64 0 ∧ Hid (Is wx gs 36 shpG) ∧ Hid (AwS w g1 G wx))
  case first =>
    refine wp_region_m (S := AwS w g1 G) (R := fun v v' => But [] v v') (fun w => But.refl [] w) (by kernel_rfl) (hS.but ((But.refl [] _).drew)) ?_
    simp only [List.size_toArray, List.length_cons, List.length_nil, Nat.reduceAdd, Array.replicate_succ, Array.replicate_zero, List.push_toArray, List.nil_append, List.cons_append]
    refine wpM_take (fun w => But.refl [] w) (fun x y z h k => h.trans k) (i := 0) (v := .agg #[.string ⟨#[73, 72, 68, 82]⟩, .string G]) rfl (by kernel_rfl) (by kernel_rfl) (by kernel_rfl) (fun _ _ _ h => h) (YieldsR.read (fun w => But.refl [] w) ?_ fun w hS => ?_) ?_
    · go_simp
    · have c0 := hS.1.cell 0; have c1 := hS.1.cell 1; go_simp
    dsimp only [Act.put, List.getElem_toArray, List.getElem_cons_zero, List.getElem_cons_succ, List.setIfInBounds_toArray, List.set_cons_zero, List.set_cons_succ]
    refine wpM_take (fun w => But.refl [] w) (fun x y z h k => h.trans k) (i := 1) (v := .agg #[.string ⟨#[73, 68, 65, 84]⟩, .string ⟨#[120]⟩]) rfl (by kernel_rfl) (by kernel_rfl) (by kernel_rfl) (fun _ _ _ h => h) (.inl ⟨?_, fun w hS => .inr ⟨_, _, ?_, (HDT.out w ⟨#[120]⟩).mono ?_⟩⟩) ?_
    · go_simp
    · go_simp
    · rintro e wy ⟨rfl, hB⟩; exact ⟨rfl, hS.but hB, hB⟩
    dsimp only [Act.put, List.getElem_toArray, List.getElem_cons_zero, List.getElem_cons_succ, List.setIfInBounds_toArray, List.set_cons_zero, List.set_cons_succ]
    refine wpM_take (fun w => But.refl [] w) (fun x y z h k => h.trans k) (i := 2) (v := .agg #[.string ⟨#[73, 68, 65, 84]⟩, .string ⟨#[121]⟩]) rfl (by kernel_rfl) (by kernel_rfl) (by kernel_rfl) (fun _ _ _ h => h) (.inl ⟨?_, fun w hS => .inr ⟨_, _, ?_, (HDT.out w ⟨#[121]⟩).mono ?_⟩⟩) ?_
    · go_simp
    · go_simp
    · rintro e wy ⟨rfl, hB⟩; exact ⟨rfl, hS.but hB, hB⟩
    dsimp only [Act.put, List.getElem_toArray, List.getElem_cons_zero, List.getElem_cons_succ, List.setIfInBounds_toArray, List.set_cons_zero, List.set_cons_succ]
    refine wpM_take (fun w => But.refl [] w) (fun x y z h k => h.trans k) (i := 3) (v := .agg #[.string ⟨#[73, 69, 78, 68]⟩, .string ⟨#[]⟩]) rfl (by kernel_rfl) (by kernel_rfl) (by kernel_rfl) (fun _ _ _ h => h) (.inl ⟨?_, fun w hS => .inr ⟨_, _, ?_, (HEN.out w).mono ?_⟩⟩) ?_
    · go_simp
    · go_simp
    · rintro e wy ⟨rfl, hB⟩; exact ⟨rfl, hS.but hB, hB⟩
    dsimp only [Act.put, List.getElem_toArray, List.getElem_cons_zero, List.getElem_cons_succ, List.setIfInBounds_toArray, List.set_cons_zero, List.set_cons_succ]
    refine wpM_two (i := 4) (j := 10) rfl rfl (by kernel_rfl) ?_ ?_
    · intro w4 hR4 hS4 K' hK
      go_simp
      refine hK _ _ ⟨hS4.but ((But.refl [] w4).alloc _), ?_⟩
      clear hK K'
      have hI := Is.fresh w4 30 #[.string ⟨#[73, 72, 68, 82]⟩, .string G, .string ⟨#[73, 68, 65, 84]⟩, .string ⟨#[120]⟩, .string ⟨#[73, 68, 65, 84]⟩, .string ⟨#[121]⟩, .string ⟨#[73, 69, 78, 68]⟩, .string ⟨#[]⟩]
      refine wpM_two (i := 5) (j := 10) rfl rfl (by kernel_rfl) ?_ ?_
      · intro w5 hR5 hS5 K' hK
        go_simp
        refine (HA.out w5 _ (hI.but hR5 (by simp))).mono ?_
        rintro e w6 ⟨rfl, hB6⟩
        refine hK _ _ ⟨hS5.but hB6, ?_⟩
        clear hK K'
        refine wpM_take (fun w => But.refl [] w) (fun x y z h k => h.trans k) (i := 6) (v := .tuple #[.agg #[.int .i64 1, .int .i64 1, .int .i64 8, .int .i64 0, .int .i64 0, .string ⟨#[]⟩, .string ⟨#[]⟩, .bool false], .string ⟨#[120, 121]⟩, .int .i64 0]) rfl (by kernel_rfl) (by kernel_rfl) (by kernel_rfl) (fun _ _ _ h => h) (YieldsR.read (fun w => But.refl [] w) ?_ fun w hS => ?_) ?_
        · go_simp
        · go_simp
        dsimp only [Act.put, List.getElem_toArray, List.getElem_cons_zero, List.getElem_cons_succ, List.setIfInBounds_toArray, List.set_cons_zero, List.set_cons_succ]
        refine wpM_take (fun w => But.refl [] w) (fun x y z h k => h.trans k) (i := 7) (v := .agg #[.int .i64 1, .int .i64 1, .int .i64 8, .int .i64 0, .int .i64 0, .string ⟨#[]⟩, .string ⟨#[]⟩, .bool false]) rfl (by kernel_rfl) (by kernel_rfl) (by kernel_rfl) (fun _ _ _ h => h) (YieldsR.read (fun w => But.refl [] w) ?_ fun w hS => ?_) ?_
        · go_simp
        · go_simp
        dsimp only [Act.put, List.getElem_toArray, List.getElem_cons_zero, List.getElem_cons_succ, List.setIfInBounds_toArray, List.set_cons_zero, List.set_cons_succ]
        refine wpM_take (fun w => But.refl [] w) (fun x y z h k => h.trans k) (i := 8) (v := .string ⟨#[120, 121]⟩) rfl (by kernel_rfl) (by kernel_rfl) (by kernel_rfl) (fun _ _ _ h => h) (YieldsR.read (fun w => But.refl [] w) ?_ fun w hS => ?_) ?_
        · go_simp
        · go_simp
        dsimp only [Act.put, List.getElem_toArray, List.getElem_cons_zero, List.getElem_cons_succ, List.setIfInBounds_toArray, List.set_cons_zero, List.set_cons_succ]
        refine wpM_take (fun w => But.refl [] w) (fun x y z h k => h.trans k) (i := 9) (v := .int .i64 0) rfl (by kernel_rfl) (by kernel_rfl) (by kernel_rfl) (fun _ _ _ h => h) (YieldsR.read (fun w => But.refl [] w) ?_ fun w hS => ?_) ?_
        · go_simp
        · go_simp
        dsimp only [Act.put, List.getElem_toArray, List.getElem_cons_zero, List.getElem_cons_succ, List.setIfInBounds_toArray, List.set_cons_zero, List.set_cons_succ]
        refine wpM_one (i := 10) rfl (by kernel_rfl) ?_
        intro w7 hR7 hS7 K' hK
        go_simp
        refine hK _ _ ⟨hS7.but ((But.refl [] w7).alloc _), ?_⟩
        clear hK K'
        have hZ : Is (w7.alloc (.cells #[.int .i64 0, .int .i64 0, .int .i64 0, .int .i64 0, .int .i64 0, .string ⟨#[]⟩, .string ⟨#[]⟩, .bool false] 36)) w7.heap.size 36 zerC := Is.fresh _ _ _
        refine wpM_one (i := 11) rfl (by kernel_rfl) ?_
        intro w8 hR8 hS8 K' hK
        have hZ8 := hZ.but hR8 (by simp)
        have hZ9 := hZ8
        unfold zerC at hZ8
        have z0 := hZ8.cell 0
        have z1 := hZ8.cell 1
        have z2 := hZ8.cell 2
        have z3 := hZ8.cell 3
        have z4 := hZ8.cell 4
        have z5 := hZ8.cell 5
        have z6 := hZ8.cell 6
        have z7 := hZ8.cell 7
        have y0 := hZ8.free 0
        have y1 := hZ8.free 1
        have y2 := hZ8.free 2
        have y3 := hZ8.free 3
        have y4 := hZ8.free 4
        have y5 := hZ8.free 5
        have y6 := hZ8.free 6
        have y7 := hZ8.free 7
        go_simp
        obtain ⟨i1, i2⟩ := AwS.fin hS8 hZ9 hS7.2.size (.int .i64 1) (.int .i64 1) (.int .i64 8) (.int .i64 0) (.int .i64 0) (.string ⟨#[]⟩) (.string ⟨#[]⟩) (.bool false)
        refine hK _ _ ⟨i2, ?_⟩
        clear hK K' z0 y0 z1 y1 z2 y2 z3 y3 z4 y4 z5 y5 z6 y6 z7 y7
        refine wpM_take (fun w => But.refl [] w) (fun x y z h k => h.trans k) (i := 12) (v := .string ⟨#[120, 121]⟩) rfl (by kernel_rfl) (by kernel_rfl) (by kernel_rfl) (fun _ _ _ h => h) (YieldsR.read (fun w => But.refl [] w) ?_ fun w hS => ?_) ?_
        · go_simp
        · go_simp
        dsimp only [Act.put, List.getElem_toArray, List.getElem_cons_zero, List.getElem_cons_succ, List.setIfInBounds_toArray, List.set_cons_zero, List.set_cons_succ]
        refine wpM_take (fun w => But.refl [] w) (fun x y z h k => h.trans k) (i := 13) (v := .int .i64 0) rfl (by kernel_rfl) (by kernel_rfl) (by kernel_rfl) (fun _ _ _ h => h) (YieldsR.read (fun w => But.refl [] w) ?_ fun w hS => ?_) ?_
        · go_simp
        · go_simp
        dsimp only [Act.put, List.getElem_toArray, List.getElem_cons_zero, List.getElem_cons_succ, List.setIfInBounds_toArray, List.set_cons_zero, List.set_cons_succ]
        refine ⟨by kernel_rfl, fun w9 hR9 hS9 => ?_⟩
        have HI9 := Lib.hid (i1.but hR9 (by simp)); have HS9 := Lib.hid hS9
        clear hR9 hS9 i1 i2 hI hZ8 hZ9 hZ hS8 hR8
        go_simp
        go_wp2
        go_meet
        exact ⟨w7.heap.size, rfl, rfl, rfl, HI9, HS9⟩
      · intro w7 hR7 hS7 K' hK
        go_simp
        refine hK _ _ ⟨hS7.but ((But.refl [] w7).alloc _), ?_⟩
        clear hK K'
        have hZ : Is (w7.alloc (.cells #[.int .i64 0, .int .i64 0, .int .i64 0, .int .i64 0, .int .i64 0, .string ⟨#[]⟩, .string ⟨#[]⟩, .bool false] 36)) w7.heap.size 36 zerC := Is.fresh _ _ _
        have hI := (hI.but hR7 (by simp)).alloc (.cells #[.int .i64 0, .int .i64 0, .int .i64 0, .int .i64 0, .int .i64 0, .string ⟨#[]⟩, .string ⟨#[]⟩, .bool false] 36)
        refine wpM_one (i := 5) rfl (by kernel_rfl) ?_
        intro w5 hR5 hS5 K' hK
        go_simp
        refine (HA.out w5 _ (hI.but hR5 (by simp))).mono ?_
        rintro e w6 ⟨rfl, hB6⟩
        refine hK _ _ ⟨hS5.but hB6, ?_⟩
        clear hK K'
        have hZ := (hZ.but hR5 (by simp)).but hB6 (by simp)
        refine wpM_take (fun w => But.refl [] w) (fun x y z h k => h.trans k) (i := 6) (v := .tuple #[.agg #[.int .i64 1, .int .i64 1, .int .i64 8, .int .i64 0, .int .i64 0, .string ⟨#[]⟩, .string ⟨#[]⟩, .bool false], .string ⟨#[120, 121]⟩, .int .i64 0]) rfl (by kernel_rfl) (by kernel_rfl) (by kernel_rfl) (fun _ _ _ h => h) (YieldsR.read (fun w => But.refl [] w) ?_ fun w hS => ?_) ?_
        · go_simp
        · go_simp
        dsimp only [Act.put, List.getElem_toArray, List.getElem_cons_zero, List.getElem_cons_succ, List.setIfInBounds_toArray, List.set_cons_zero, List.set_cons_succ]
        refine wpM_take (fun w => But.refl [] w) (fun x y z h k => h.trans k) (i := 7) (v := .agg #[.int .i64 1, .int .i64 1, .int .i64 8, .int .i64 0, .int .i64 0, .string ⟨#[]⟩, .string ⟨#[]⟩, .bool false]) rfl (by kernel_rfl) (by kernel_rfl) (by kernel_rfl) (fun _ _ _ h => h) (YieldsR.read (fun w => But.refl [] w) ?_ fun w hS => ?_) ?_
        · go_simp
        · go_simp
        dsimp only [Act.put, List.getElem_toArray, List.getElem_cons_zero, List.getElem_cons_succ, List.setIfInBounds_toArray, List.set_cons_zero, List.set_cons_succ]
        refine wpM_take (fun w => But.refl [] w) (fun x y z h k => h.trans k) (i := 8) (v := .string ⟨#[120, 121]⟩) rfl (by kernel_rfl) (by kernel_rfl) (by kernel_rfl) (fun _ _ _ h => h) (YieldsR.read (fun w => But.refl [] w) ?_ fun w hS => ?_) ?_
        · go_simp
        · go_simp
        dsimp only [Act.put, List.getElem_toArray, List.getElem_cons_zero, List.getElem_cons_succ, List.setIfInBounds_toArray, List.set_cons_zero, List.set_cons_succ]
        refine wpM_take (fun w => But.refl [] w) (fun x y z h k => h.trans k) (i := 9) (v := .int .i64 0) rfl (by kernel_rfl) (by kernel_rfl) (by kernel_rfl) (fun _ _ _ h => h) (YieldsR.read (fun w => But.refl [] w) ?_ fun w hS => ?_) ?_
        · go_simp
        · go_simp
        dsimp only [Act.put, List.getElem_toArray, List.getElem_cons_zero, List.getElem_cons_succ, List.setIfInBounds_toArray, List.set_cons_zero, List.set_cons_succ]
        refine wpM_one (i := 11) rfl (by kernel_rfl) ?_
        intro w8 hR8 hS8 K' hK
        have hZ8 := hZ.but hR8 (by simp)
        have hZ9 := hZ8
        unfold zerC at hZ8
        have z0 := hZ8.cell 0
        have z1 := hZ8.cell 1
        have z2 := hZ8.cell 2
        have z3 := hZ8.cell 3
        have z4 := hZ8.cell 4
        have z5 := hZ8.cell 5
        have z6 := hZ8.cell 6
        have z7 := hZ8.cell 7
        have y0 := hZ8.free 0
        have y1 := hZ8.free 1
        have y2 := hZ8.free 2
        have y3 := hZ8.free 3
        have y4 := hZ8.free 4
        have y5 := hZ8.free 5
        have y6 := hZ8.free 6
        have y7 := hZ8.free 7
        go_simp
        obtain ⟨i1, i2⟩ := AwS.fin hS8 hZ9 hS7.2.size (.int .i64 1) (.int .i64 1) (.int .i64 8) (.int .i64 0) (.int .i64 0) (.string ⟨#[]⟩) (.string ⟨#[]⟩) (.bool false)
        refine hK _ _ ⟨i2, ?_⟩
        clear hK K' z0 y0 z1 y1 z2 y2 z3 y3 z4 y4 z5 y5 z6 y6 z7 y7
        refine wpM_take (fun w => But.refl [] w) (fun x y z h k => h.trans k) (i := 12) (v := .string ⟨#[120, 121]⟩) rfl (by kernel_rfl) (by kernel_rfl) (by kernel_rfl) (fun _ _ _ h => h) (YieldsR.read (fun w => But.refl [] w) ?_ fun w hS => ?_) ?_
        · go_simp
        · go_simp
        dsimp only [Act.put, List.getElem_toArray, List.getElem_cons_zero, List.getElem_cons_succ, List.setIfInBounds_toArray, List.set_cons_zero, List.set_cons_succ]
        refine wpM_take (fun w => But.refl [] w) (fun x y z h k => h.trans k) (i := 13) (v := .int .i64 0) rfl (by kernel_rfl) (by kernel_rfl) (by kernel_rfl) (fun _ _ _ h => h) (YieldsR.read (fun w => But.refl [] w) ?_ fun w hS => ?_) ?_
        · go_simp
        · go_simp
        dsimp only [Act.put, List.getElem_toArray, List.getElem_cons_zero, List.getElem_cons_succ, List.setIfInBounds_toArray, List.set_cons_zero, List.set_cons_succ]
        refine ⟨by kernel_rfl, fun w9 hR9 hS9 => ?_⟩
        have HI9 := Lib.hid (i1.but hR9 (by simp)); have HS9 := Lib.hid hS9
        clear hR9 hS9 i1 i2 hI hZ8 hZ9 hZ hS8 hR8
        go_simp
        go_wp2
        go_meet
        exact ⟨w7.heap.size, rfl, rfl, rfl, HI9, HS9⟩
    · intro w7 hR7 hS7 K' hK
      go_simp
      refine hK _ _ ⟨hS7.but ((But.refl [] w7).alloc _), ?_⟩
      clear hK K'
      have hZ : Is (w7.alloc (.cells #[.int .i64 0, .int .i64 0, .int .i64 0, .int .i64 0, .int .i64 0, .string ⟨#[]⟩, .string ⟨#[]⟩, .bool false] 36)) w7.heap.size 36 zerC := Is.fresh _ _ _
      refine wpM_one (i := 4) rfl (by kernel_rfl) ?_
      intro w4 hR4 hS4 K' hK
      go_simp
      refine hK _ _ ⟨hS4.but ((But.refl [] w4).alloc _), ?_⟩
      clear hK K'
      have hI := Is.fresh w4 30 #[.string ⟨#[73, 72, 68, 82]⟩, .string G, .string ⟨#[73, 68, 65, 84]⟩, .string ⟨#[120]⟩, .string ⟨#[73, 68, 65, 84]⟩, .string ⟨#[121]⟩, .string ⟨#[73, 69, 78, 68]⟩, .string ⟨#[]⟩]
      have hZ := (hZ.but hR4 (by simp)).alloc (.cells #[.string ⟨#[73, 72, 68, 82]⟩, .string G, .string ⟨#[73, 68, 65, 84]⟩, .string ⟨#[120]⟩, .string ⟨#[73, 68, 65, 84]⟩, .string ⟨#[121]⟩, .string ⟨#[73, 69, 78, 68]⟩, .string ⟨#[]⟩] 30)
      refine wpM_one (i := 5) rfl (by kernel_rfl) ?_
      intro w5 hR5 hS5 K' hK
      go_simp
      refine (HA.out w5 _ (hI.but hR5 (by simp))).mono ?_
      rintro e w6 ⟨rfl, hB6⟩
      refine hK _ _ ⟨hS5.but hB6, ?_⟩
      clear hK K'
      have hZ := (hZ.but hR5 (by simp)).but hB6 (by simp)
      refine wpM_take (fun w => But.refl [] w) (fun x y z h k => h.trans k) (i := 6) (v := .tuple #[.agg #[.int .i64 1, .int .i64 1, .int .i64 8, .int .i64 0, .int .i64 0, .string ⟨#[]⟩, .string ⟨#[]⟩, .bool false], .string ⟨#[120, 121]⟩, .int .i64 0]) rfl (by kernel_rfl) (by kernel_rfl) (by kernel_rfl) (fun _ _ _ h => h) (YieldsR.read (fun w => But.refl [] w) ?_ fun w hS => ?_) ?_
      · go_simp
      · go_simp
      dsimp only [Act.put, List.getElem_toArray, List.getElem_cons_zero, List.getElem_cons_succ, List.setIfInBounds_toArray, List.set_cons_zero, List.set_cons_succ]
      refine wpM_take (fun w => But.refl [] w) (fun x y z h k => h.trans k) (i := 7) (v := .agg #[.int .i64 1, .int .i64 1, .int .i64 8, .int .i64 0, .int .i64 0, .string ⟨#[]⟩, .string ⟨#[]⟩, .bool false]) rfl (by kernel_rfl) (by kernel_rfl) (by kernel_rfl) (fun _ _ _ h => h) (YieldsR.read (fun w => But.refl [] w) ?_ fun w hS => ?_) ?_
      · go_simp
      · go_simp
      dsimp only [Act.put, List.getElem_toArray, List.getElem_cons_zero, List.getElem_cons_succ, List.setIfInBounds_toArray, List.set_cons_zero, List.set_cons_succ]
      refine wpM_take (fun w => But.refl [] w) (fun x y z h k => h.trans k) (i := 8) (v := .string ⟨#[120, 121]⟩) rfl (by kernel_rfl) (by kernel_rfl) (by kernel_rfl) (fun _ _ _ h => h) (YieldsR.read (fun w => But.refl [] w) ?_ fun w hS => ?_) ?_
      · go_simp
      · go_simp
      dsimp only [Act.put, List.getElem_toArray, List.getElem_cons_zero, List.getElem_cons_succ, List.setIfInBounds_toArray, List.set_cons_zero, List.set_cons_succ]
      refine wpM_take (fun w => But.refl [] w) (fun x y z h k => h.trans k) (i := 9) (v := .int .i64 0) rfl (by kernel_rfl) (by kernel_rfl) (by kernel_rfl) (fun _ _ _ h => h) (YieldsR.read (fun w => But.refl [] w) ?_ fun w hS => ?_) ?_
      · go_simp
      · go_simp
      dsimp only [Act.put, List.getElem_toArray, List.getElem_cons_zero, List.getElem_cons_succ, List.setIfInBounds_toArray, List.set_cons_zero, List.set_cons_succ]
      refine wpM_one (i := 11) rfl (by kernel_rfl) ?_
      intro w8 hR8 hS8 K' hK
      have hZ8 := hZ.but hR8 (by simp)
      have hZ9 := hZ8
      unfold zerC at hZ8
      have z0 := hZ8.cell 0
      have z1 := hZ8.cell 1
      have z2 := hZ8.cell 2
      have z3 := hZ8.cell 3
      have z4 := hZ8.cell 4
      have z5 := hZ8.cell 5
      have z6 := hZ8.cell 6
      have z7 := hZ8.cell 7
      have y0 := hZ8.free 0
      have y1 := hZ8.free 1
      have y2 := hZ8.free 2
      have y3 := hZ8.free 3
      have y4 := hZ8.free 4
      have y5 := hZ8.free 5
      have y6 := hZ8.free 6
      have y7 := hZ8.free 7
      go_simp
      obtain ⟨i1, i2⟩ := AwS.fin hS8 hZ9 hS7.2.size (.int .i64 1) (.int .i64 1) (.int .i64 8) (.int .i64 0) (.int .i64 0) (.string ⟨#[]⟩) (.string ⟨#[]⟩) (.bool false)
      refine hK _ _ ⟨i2, ?_⟩
      clear hK K' z0 y0 z1 y1 z2 y2 z3 y3 z4 y4 z5 y5 z6 y6 z7 y7
      refine wpM_take (fun w => But.refl [] w) (fun x y z h k => h.trans k) (i := 12) (v := .string ⟨#[120, 121]⟩) rfl (by kernel_rfl) (by kernel_rfl) (by kernel_rfl) (fun _ _ _ h => h) (YieldsR.read (fun w => But.refl [] w) ?_ fun w hS => ?_) ?_
      · go_simp
      · go_simp
      dsimp only [Act.put, List.getElem_toArray, List.getElem_cons_zero, List.getElem_cons_succ, List.setIfInBounds_toArray, List.set_cons_zero, List.set_cons_succ]
      refine wpM_take (fun w => But.refl [] w) (fun x y z h k => h.trans k) (i := 13) (v := .int .i64 0) rfl (by kernel_rfl) (by kernel_rfl) (by kernel_rfl) (fun _ _ _ h => h) (YieldsR.read (fun w => But.refl [] w) ?_ fun w hS => ?_) ?_
      · go_simp
      · go_simp
      dsimp only [Act.put, List.getElem_toArray, List.getElem_cons_zero, List.getElem_cons_succ, List.setIfInBounds_toArray, List.set_cons_zero, List.set_cons_succ]
      refine ⟨by kernel_rfl, fun w9 hR9 hS9 => ?_⟩
      have HI9 := Lib.hid (i1.but hR9 (by simp)); have HS9 := Lib.hid hS9
      clear hR9 hS9 i1 i2 hI hZ8 hZ9 hZ hS8 hR8
      go_simp
      go_wp2
      go_meet
      exact ⟨w7.heap.size, rfl, rfl, rfl, HI9, HS9⟩
  case rest =>
  obtain ⟨g2, rfl, rfl, rfl, HI2, HS2⟩ := hcut
  obtain ⟨w4, hw4⟩ : ∃ x : World, x = wc := ⟨_, rfl⟩
  rw [← hw4] at HI2 HS2 ⊢
  have hS : AwT w g1 G g2 w4 := ⟨HS2.out.1, HI2.out, HS2.out.2⟩
  clear hw4 HI2 HS2 HS3
  go_upto_region 3 with (fail)
  go_cut [5, 6, 7] from 26 to 33 (fun _ _ v wx => v = .int .i64 23 ∧ Hid (AwT w g1 G g2 wx))
  case first =>
    refine wp_region_m (S := AwT w g1 G g2) (R := fun v v' => But [] v v') (fun w => But.refl [] w) (by kernel_rfl) (hS.but ((But.refl [] _).drew)) ?_
    simp only [List.size_toArray, List.length_cons, List.length_nil, Nat.reduceAdd, Array.replicate_succ, Array.replicate_zero, List.push_toArray, List.nil_append, List.cons_append]
    refine wpM_take (fun w => But.refl [] w) (fun x y z h k => h.trans k) (i := 0) (v := .agg #[.string ⟨#[73, 72, 68, 82]⟩, .string G]) rfl (by kernel_rfl) (by kernel_rfl) (by kernel_rfl) (fun _ _ _ h => h) (YieldsR.read (fun w => But.refl [] w) ?_ fun w hS => ?_) ?_
    · go_simp
    · have c0 := hS.1.cell 0; have c1 := hS.1.cell 1; go_simp
    dsimp only [Act.put, List.getElem_toArray, List.getElem_cons_zero, List.getElem_cons_succ, List.setIfInBounds_toArray, List.set_cons_zero, List.set_cons_succ]
    refine wpM_take (fun w => But.refl [] w) (fun x y z h k => h.trans k) (i := 1) (v := .agg #[.string ⟨#[73, 69, 78, 68]⟩, .string ⟨#[]⟩]) rfl (by kernel_rfl) (by kernel_rfl) (by kernel_rfl) (fun _ _ _ h => h) (.inl ⟨?_, fun w hS => .inr ⟨_, _, ?_, (HEN.out w).mono ?_⟩⟩) ?_
    · go_simp
    · go_simp
    · rintro e wy ⟨rfl, hB⟩; exact ⟨rfl, hS.but hB, hB⟩
    dsimp only [Act.put, List.getElem_toArray, List.getElem_cons_zero, List.getElem_cons_succ, List.setIfInBounds_toArray, List.set_cons_zero, List.set_cons_succ]
    refine wpM_two (i := 2) (j := 8) rfl rfl (by kernel_rfl) ?_ ?_
    · intro w4 hR4 hS4 K' hK
      go_simp
      refine hK _ _ ⟨hS4.but ((But.refl [] w4).alloc _), ?_⟩
      clear hK K'
      have hI := Is.fresh w4 30 #[.string ⟨#[73, 72, 68, 82]⟩, .string G, .string ⟨#[73, 69, 78, 68]⟩, .string ⟨#[]⟩]
      refine wpM_two (i := 3) (j := 8) rfl rfl (by kernel_rfl) ?_ ?_
      · intro w5 hR5 hS5 K' hK
        go_simp
        refine (HB.out w5 _ (hI.but hR5 (by simp))).mono ?_
        rintro e w6 ⟨rfl, hB6⟩
        refine hK _ _ ⟨hS5.but hB6, ?_⟩
        clear hK K'
        refine wpM_take (fun w => But.refl [] w) (fun x y z h k => h.trans k) (i := 4) (v := .tuple #[.agg #[.int .i64 0, .int .i64 0, .int .i64 0, .int .i64 0, .int .i64 0, .string ⟨#[]⟩, .string ⟨#[]⟩, .bool false], .string ⟨#[]⟩, .int .i64 23]) rfl (by kernel_rfl) (by kernel_rfl) (by kernel_rfl) (fun _ _ _ h => h) (YieldsR.read (fun w => But.refl [] w) ?_ fun w hS => ?_) ?_
        · go_simp
        · go_simp
        dsimp only [Act.put, List.getElem_toArray, List.getElem_cons_zero, List.getElem_cons_succ, List.setIfInBounds_toArray, List.set_cons_zero, List.set_cons_succ]
        refine wpM_take (fun w => But.refl [] w) (fun x y z h k => h.trans k) (i := 5) (v := .agg #[.int .i64 0, .int .i64 0, .int .i64 0, .int .i64 0, .int .i64 0, .string ⟨#[]⟩, .string ⟨#[]⟩, .bool false]) rfl (by kernel_rfl) (by kernel_rfl) (by kernel_rfl) (fun _ _ _ h => h) (YieldsR.read (fun w => But.refl [] w) ?_ fun w hS => ?_) ?_
        · go_simp
        · go_simp
        dsimp only [Act.put, List.getElem_toArray, List.getElem_cons_zero, List.getElem_cons_succ, List.setIfInBounds_toArray, List.set_cons_zero, List.set_cons_succ]
        refine wpM_take (fun w => But.refl [] w) (fun x y z h k => h.trans k) (i := 6) (v := .string ⟨#[]⟩) rfl (by kernel_rfl) (by kernel_rfl) (by kernel_rfl) (fun _ _ _ h => h) (YieldsR.read (fun w => But.refl [] w) ?_ fun w hS => ?_) ?_
        · go_simp
        · go_simp
        dsimp only [Act.put, List.getElem_toArray, List.getElem_cons_zero, List.getElem_cons_succ, List.setIfInBounds_toArray, List.set_cons_zero, List.set_cons_succ]
        refine wpM_take (fun w => But.refl [] w) (fun x y z h k => h.trans k) (i := 7) (v := .int .i64 23) rfl (by kernel_rfl) (by kernel_rfl) (by kernel_rfl) (fun _ _ _ h => h) (YieldsR.read (fun w => But.refl [] w) ?_ fun w hS => ?_) ?_
        · go_simp
        · go_simp
        dsimp only [Act.put, List.getElem_toArray, List.getElem_cons_zero, List.getElem_cons_succ, List.setIfInBounds_toArray, List.set_cons_zero, List.set_cons_succ]
        refine wpM_one (i := 8) rfl (by kernel_rfl) ?_
        intro w7 hR7 hS7 K' hK
        go_simp
        refine hK _ _ ⟨hS7.but ((But.refl [] w7).alloc _), ?_⟩
        clear hK K'
        have hZ : Is (w7.alloc (.cells #[.int .i64 0, .int .i64 0, .int .i64 0, .int .i64 0, .int .i64 0, .string ⟨#[]⟩, .string ⟨#[]⟩, .bool false] 36)) w7.heap.size 36 zerC := Is.fresh _ _ _
        refine wpM_one (i := 9) rfl (by kernel_rfl) ?_
        intro w8 hR8 hS8 K' hK
        have hZ8 := hZ.but hR8 (by simp)
        have hZ9 := hZ8
        unfold zerC at hZ8
        have z0 := hZ8.cell 0
        have z1 := hZ8.cell 1
        have z2 := hZ8.cell 2
        have z3 := hZ8.cell 3
        have z4 := hZ8.cell 4
        have z5 := hZ8.cell 5
        have z6 := hZ8.cell 6
        have z7 := hZ8.cell 7
        have y0 := hZ8.free 0
        have y1 := hZ8.free 1
        have y2 := hZ8.free 2
        have y3 := hZ8.free 3
        have y4 := hZ8.free 4
        have y5 := hZ8.free 5
        have y6 := hZ8.free 6
        have y7 := hZ8.free 7
        go_simp
        obtain ⟨i1, i2⟩ := AwT.fin hS8 hZ9 hS7.2.2.size (.int .i64 0) (.int .i64 0) (.int .i64 0) (.int .i64 0) (.int .i64 0) (.string ⟨#[]⟩) (.string ⟨#[]⟩) (.bool false)
        refine hK _ _ ⟨i2, ?_⟩
        clear hK K' z0 y0 z1 y1 z2 y2 z3 y3 z4 y4 z5 y5 z6 y6 z7 y7
        refine wpM_take (fun w => But.refl [] w) (fun x y z h k => h.trans k) (i := 10) (v := .string ⟨#[]⟩) rfl (by kernel_rfl) (by kernel_rfl) (by kernel_rfl) (fun _ _ _ h => h) (YieldsR.read (fun w => But.refl [] w) ?_ fun w hS => ?_) ?_
        · go_simp
        · go_simp
        dsimp only [Act.put, List.getElem_toArray, List.getElem_cons_zero, List.getElem_cons_succ, List.setIfInBounds_toArray, List.set_cons_zero, List.set_cons_succ]
        refine wpM_take (fun w => But.refl [] w) (fun x y z h k => h.trans k) (i := 11) (v := .int .i64 23) rfl (by kernel_rfl) (by kernel_rfl) (by kernel_rfl) (fun _ _ _ h => h) (YieldsR.read (fun w => But.refl [] w) ?_ fun w hS => ?_) ?_
        · go_simp
        · go_simp
        dsimp only [Act.put, List.getElem_toArray, List.getElem_cons_zero, List.getElem_cons_succ, List.setIfInBounds_toArray, List.set_cons_zero, List.set_cons_succ]
        refine ⟨by kernel_rfl, fun w9 hR9 hS9 => ?_⟩
        have HS9 := Lib.hid hS9
        clear hR9 hS9 i1 i2 hI hZ8 hZ9 hZ hS8 hR8
        go_simp
        go_wp2
        go_meet
        exact ⟨rfl, HS9⟩
      · intro w7 hR7 hS7 K' hK
        go_simp
        refine hK _ _ ⟨hS7.but ((But.refl [] w7).alloc _), ?_⟩
        clear hK K'
        have hZ : Is (w7.alloc (.cells #[.int .i64 0, .int .i64 0, .int .i64 0, .int .i64 0, .int .i64 0, .string ⟨#[]⟩, .string ⟨#[]⟩, .bool false] 36)) w7.heap.size 36 zerC := Is.fresh _ _ _
        have hI := (hI.but hR7 (by simp)).alloc (.cells #[.int .i64 0, .int .i64 0, .int .i64 0, .int .i64 0, .int .i64 0, .string ⟨#[]⟩, .string ⟨#[]⟩, .bool false] 36)
        refine wpM_one (i := 3) rfl (by kernel_rfl) ?_
        intro w5 hR5 hS5 K' hK
        go_simp
        refine (HB.out w5 _ (hI.but hR5 (by simp))).mono ?_
        rintro e w6 ⟨rfl, hB6⟩
        refine hK _ _ ⟨hS5.but hB6, ?_⟩
        clear hK K'
        have hZ := (hZ.but hR5 (by simp)).but hB6 (by simp)
        refine wpM_take (fun w => But.refl [] w) (fun x y z h k => h.trans k) (i := 4) (v := .tuple #[.agg #[.int .i64 0, .int .i64 0, .int .i64 0, .int .i64 0, .int .i64 0, .string ⟨#[]⟩, .string ⟨#[]⟩, .bool false], .string ⟨#[]⟩, .int .i64 23]) rfl (by kernel_rfl) (by kernel_rfl) (by kernel_rfl) (fun _ _ _ h => h) (YieldsR.read (fun w => But.refl [] w) ?_ fun w hS => ?_) ?_
        · go_simp
        · go_simp
        dsimp only [Act.put, List.getElem_toArray, List.getElem_cons_zero, List.getElem_cons_succ, List.setIfInBounds_toArray, List.set_cons_zero, List.set_cons_succ]
        refine wpM_take (fun w => But.refl [] w) (fun x y z h k => h.trans k) (i := 5) (v := .agg #[.int .i64 0, .int .i64 0, .int .i64 0, .int .i64 0, .int .i64 0, .string ⟨#[]⟩, .string ⟨#[]⟩, .bool false]) rfl (by kernel_rfl) (by kernel_rfl) (by kernel_rfl) (fun _ _ _ h => h) (YieldsR.read (fun w => But.refl [] w) ?_ fun w hS => ?_) ?_
        · go_simp
        · go_simp
        dsimp only [Act.put, List.getElem_toArray, List.getElem_cons_zero, List.getElem_cons_succ, List.setIfInBounds_toArray, List.set_cons_zero, List.set_cons_succ]
        refine wpM_take (fun w => But.refl [] w) (fun x y z h k => h.trans k) (i := 6) (v := .string ⟨#[]⟩) rfl (by kernel_rfl) (by kernel_rfl) (by kernel_rfl) (fun _ _ _ h => h) (YieldsR.read (fun w => But.refl [] w) ?_ fun w hS => ?_) ?_
        · go_simp
        · go_simp
        dsimp only [Act.put, List.getElem_toArray, List.getElem_cons_zero, List.getElem_cons_succ, List.setIfInBounds_toArray, List.set_cons_zero, List.set_cons_succ]
        refine wpM_take (fun w => But.refl [] w) (fun x y z h k => h.trans k) (i := 7) (v := .int .i64 23) rfl (by kernel_rfl) (by kernel_rfl) (by kernel_rfl) (fun _ _ _ h => h) (YieldsR.read (fun w => But.refl [] w) ?_ fun w hS => ?_) ?_
        · go_simp
        · go_simp
        dsimp only [Act.put, List.getElem_toArray, List.getElem_cons_zero, List.getElem_cons_succ, List.setIfInBounds_toArray, List.set_cons_zero, List.set_cons_succ]
        refine wpM_one (i := 9) rfl (by kernel_rfl) ?_
        intro w8 hR8 hS8 K' hK
        have hZ8 := hZ.but hR8 (by simp)
        have hZ9 := hZ8
        unfold zerC at hZ8
        have z0 := hZ8.cell 0
        have z1 := hZ8.cell 1
        have z2 := hZ8.cell 2
        have z3 := hZ8.cell 3
        have z4 := hZ8.cell 4
        have z5 := hZ8.cell 5
        have z6 := hZ8.cell 6
        have z7 := hZ8.cell 7
        have y0 := hZ8.free 0
        have y1 := hZ8.free 1
        have y2 := hZ8.free 2
        have y3 := hZ8.free 3
        have y4 := hZ8.free 4
        have y5 := hZ8.free 5
        have y6 := hZ8.free 6
        have y7 := hZ8.free 7
        go_simp
        obtain ⟨i1, i2⟩ := AwT.fin hS8 hZ9 hS7.2.2.size (.int .i64 0) (.int .i64 0) (.int .i64 0) (.int .i64 0) (.int .i64 0) (.string ⟨#[]⟩) (.string ⟨#[]⟩) (.bool false)
        refine hK _ _ ⟨i2, ?_⟩
        clear hK K' z0 y0 z1 y1 z2 y2 z3 y3 z4 y4 z5 y5 z6 y6 z7 y7
        refine wpM_take (fun w => But.refl [] w) (fun x y z h k => h.trans k) (i := 10) (v := .string ⟨#[]⟩) rfl (by kernel_rfl) (by kernel_rfl) (by kernel_rfl) (fun _ _ _ h => h) (YieldsR.read (fun w => But.refl [] w) ?_ fun w hS => ?_) ?_
        · go_simp
        · go_simp
        dsimp only [Act.put, List.getElem_toArray, List.getElem_cons_zero, List.getElem_cons_succ, List.setIfInBounds_toArray, List.set_cons_zero, List.set_cons_succ]
        refine wpM_take (fun w => But.refl [] w) (fun x y z h k => h.trans k) (i := 11) (v := .int .i64 23) rfl (by kernel_rfl) (by kernel_rfl) (by kernel_rfl) (fun _ _ _ h => h) (YieldsR.read (fun w => But.refl [] w) ?_ fun w hS => ?_) ?_
        · go_simp
        · go_simp
        dsimp only [Act.put, List.getElem_toArray, List.getElem_cons_zero, List.getElem_cons_succ, List.setIfInBounds_toArray, List.set_cons_zero, List.set_cons_succ]
        refine ⟨by kernel_rfl, fun w9 hR9 hS9 => ?_⟩
        have HS9 := Lib.hid hS9
        clear hR9 hS9 i1 i2 hI hZ8 hZ9 hZ hS8 hR8
        go_simp
        go_wp2
        go_meet
        exact ⟨rfl, HS9⟩
    · intro w7 hR7 hS7 K' hK
      go_simp
      refine hK _ _ ⟨hS7.but ((But.refl [] w7).alloc _), ?_⟩
      clear hK K'
      have hZ : Is (w7.alloc (.cells #[.int .i64 0, .int .i64 0, .int .i64 0, .int .i64 0, .int .i64 0, .string ⟨#[]⟩, .string ⟨#[]⟩, .bool false] 36)) w7.heap.size 36 zerC := Is.fresh _ _ _
      refine wpM_one (i := 2) rfl (by kernel_rfl) ?_
      intro w4 hR4 hS4 K' hK
      go_simp
      refine hK _ _ ⟨hS4.but ((But.refl [] w4).alloc _), ?_⟩
      clear hK K'
      have hI := Is.fresh w4 30 #[.string ⟨#[73, 72, 68, 82]⟩, .string G, .string ⟨#[73, 69, 78, 68]⟩, .string ⟨#[]⟩]
      have hZ := (hZ.but hR4 (by simp)).alloc (.cells #[.string ⟨#[73, 72, 68, 82]⟩, .string G, .string ⟨#[73, 69, 78, 68]⟩, .string ⟨#[]⟩] 30)
      refine wpM_one (i := 3) rfl (by kernel_rfl) ?_
      intro w5 hR5 hS5 K' hK
      go_simp
      refine (HB.out w5 _ (hI.but hR5 (by simp))).mono ?_
      rintro e w6 ⟨rfl, hB6⟩
      refine hK _ _ ⟨hS5.but hB6, ?_⟩
      clear hK K'
      have hZ := (hZ.but hR5 (by simp)).but hB6 (by simp)
      refine wpM_take (fun w => But.refl [] w) (fun x y z h k => h.trans k) (i := 4) (v := .tuple #[.agg #[.int .i64 0, .int .i64 0, .int .i64 0, .int .i64 0, .int .i64 0, .string ⟨#[]⟩, .string ⟨#[]⟩, .bool false], .string ⟨#[]⟩, .int .i64 23]) rfl (by kernel_rfl) (by kernel_rfl) (by kernel_rfl) (fun _ _ _ h => h) (YieldsR.read (fun w => But.refl [] w) ?_ fun w hS => ?_) ?_
      · go_simp
      · go_simp
      dsimp only [Act.put, List.getElem_toArray, List.getElem_cons_zero, List.getElem_cons_succ, List.setIfInBounds_toArray, List.set_cons_zero, List.set_cons_succ]
      refine wpM_take (fun w => But.refl [] w) (fun x y z h k => h.trans k) (i := 5) (v := .agg #[.int .i64 0, .int .i64 0, .int .i64 0, .int .i64 0, .int .i64 0, .string ⟨#[]⟩, .string ⟨#[]⟩, .bool false]) rfl (by kernel_rfl) (by kernel_rfl) (by kernel_rfl) (fun _ _ _ h => h) (YieldsR.read (fun w => But.refl [] w) ?_ fun w hS => ?_) ?_
      · go_simp
      · go_simp
      dsimp only [Act.put, List.getElem_toArray, List.getElem_cons_zero, List.getElem_cons_succ, List.setIfInBounds_toArray, List.set_cons_zero, List.set_cons_succ]
      refine wpM_take (fun w => But.refl [] w) (fun x y z h k => h.trans k) (i := 6) (v := .string ⟨#[]⟩) rfl (by kernel_rfl) (by kernel_rfl) (by kernel_rfl) (fun _ _ _ h => h) (YieldsR.read (fun w => But.refl [] w) ?_ fun w hS => ?_) ?_
      · go_simp
      · go_simp
      dsimp only [Act.put, List.getElem_toArray, List.getElem_cons_zero, List.getElem_cons_succ, List.setIfInBounds_toArray, List.set_cons_zero, List.set_cons_succ]
      refine wpM_take (fun w => But.refl [] w) (fun x y z h k => h.trans k) (i := 7) (v := .int .i64 23) rfl (by kernel_rfl) (by kernel_rfl) (by kernel_rfl) (fun _ _ _ h => h) (YieldsR.read (fun w => But.refl [] w) ?_ fun w hS => ?_) ?_
      · go_simp
      · go_simp
      dsimp only [Act.put, List.getElem_toArray, List.getElem_cons_zero, List.getElem_cons_succ, List.setIfInBounds_toArray, List.set_cons_zero, List.set_cons_succ]
      refine wpM_one (i := 9) rfl (by kernel_rfl) ?_
      intro w8 hR8 hS8 K' hK
      have hZ8 := hZ.but hR8 (by simp)
      have hZ9 := hZ8
      unfold zerC at hZ8
      have z0 := hZ8.cell 0
      have z1 := hZ8.cell 1
      have z2 := hZ8.cell 2
      have z3 := hZ8.cell 3
      have z4 := hZ8.cell 4
      have z5 := hZ8.cell 5
      have z6 := hZ8.cell 6
      have z7 := hZ8.cell 7
      have y0 := hZ8.free 0
      have y1 := hZ8.free 1
      have y2 := hZ8.free 2
      have y3 := hZ8.free 3
      have y4 := hZ8.free 4
      have y5 := hZ8.free 5
      have y6 := hZ8.free 6
      have y7 := hZ8.free 7
      go_simp
      obtain ⟨i1, i2⟩ := AwT.fin hS8 hZ9 hS7.2.2.size (.int .i64 0) (.int .i64 0) (.int .i64 0) (.int .i64 0) (.int .i64 0) (.string ⟨#[]⟩) (.string ⟨#[]⟩) (.bool false)
      refine hK _ _ ⟨i2, ?_⟩
      clear hK K' z0 y0 z1 y1 z2 y2 z3 y3 z4 y4 z5 y5 z6 y6 z7 y7
      refine wpM_take (fun w => But.refl [] w) (fun x y z h k => h.trans k) (i := 10) (v := .string ⟨#[]⟩) rfl (by kernel_rfl) (by kernel_rfl) (by kernel_rfl) (fun _ _ _ h => h) (YieldsR.read (fun w => But.refl [] w) ?_ fun w hS => ?_) ?_
      · go_simp
      · go_simp
      dsimp only [Act.put, List.getElem_toArray, List.getElem_cons_zero, List.getElem_cons_succ, List.setIfInBounds_toArray, List.set_cons_zero, List.set_cons_succ]
      refine wpM_take (fun w => But.refl [] w) (fun x y z h k => h.trans k) (i := 11) (v := .int .i64 23) rfl (by kernel_rfl) (by kernel_rfl) (by kernel_rfl) (fun _ _ _ h => h) (YieldsR.read (fun w => But.refl [] w) ?_ fun w hS => ?_) ?_
      · go_simp
      · go_simp
      dsimp only [Act.put, List.getElem_toArray, List.getElem_cons_zero, List.getElem_cons_succ, List.setIfInBounds_toArray, List.set_cons_zero, List.set_cons_succ]
      refine ⟨by kernel_rfl, fun w9 hR9 hS9 => ?_⟩
      have HS9 := Lib.hid hS9
      clear hR9 hS9 i1 i2 hI hZ8 hZ9 hZ hS8 hR8
      go_simp
      go_wp2
      go_meet
      exact ⟨rfl, HS9⟩
  case rest =>
  obtain ⟨rfl, HS5⟩ := hcut
  obtain ⟨w5x, hwx⟩ : ∃ x : World, x = wc := ⟨_, rfl⟩
  rw [← hwx] at HS5 ⊢
  have hS := HS5.out
  clear hwx
  go_upto_region 4 with (fail)
  go_cut [8, 9, 10] from 34 to 44 (fun _ _ v wx => v = .int .i64 23 ∧ Hid (AwT w g1 G g2 wx))
  case first =>
    refine wp_region_m (S := AwT w g1 G g2) (R := fun v v' => But [] v v') (fun w => But.refl [] w) (by kernel_rfl) (hS.but ((But.refl [] _).drew)) ?_
    simp only [List.size_toArray, List.length_cons, List.length_nil, Nat.reduceAdd, Array.replicate_succ, Array.replicate_zero, List.push_toArray, List.nil_append, List.cons_append]
    refine wpM_take (fun w => But.refl [] w) (fun x y z h k => h.trans k) (i := 0) (v := .agg #[.string ⟨#[73, 72, 68, 82]⟩, .string G]) rfl (by kernel_rfl) (by kernel_rfl) (by kernel_rfl) (fun _ _ _ h => h) (YieldsR.read (fun w => But.refl [] w) ?_ fun w hS => ?_) ?_
    · go_simp
    · have c0 := hS.1.cell 0; have c1 := hS.1.cell 1; go_simp
    dsimp only [Act.put, List.getElem_toArray, List.getElem_cons_zero, List.getElem_cons_succ, List.setIfInBounds_toArray, List.set_cons_zero, List.set_cons_succ]
    refine wpM_take (fun w => But.refl [] w) (fun x y z h k => h.trans k) (i := 1) (v := .agg #[.string ⟨#[73, 68, 65, 84]⟩, .string ⟨#[120]⟩]) rfl (by kernel_rfl) (by kernel_rfl) (by kernel_rfl) (fun _ _ _ h => h) (.inl ⟨?_, fun w hS => .inr ⟨_, _, ?_, (HDT.out w ⟨#[120]⟩).mono ?_⟩⟩) ?_
    · go_simp
    · go_simp
    · rintro e wy ⟨rfl, hB⟩; exact ⟨rfl, hS.but hB, hB⟩
    dsimp only [Act.put, List.getElem_toArray, List.getElem_cons_zero, List.getElem_cons_succ, List.setIfInBounds_toArray, List.set_cons_zero, List.set_cons_succ]
    refine wpM_take (fun w => But.refl [] w) (fun x y z h k => h.trans k) (i := 2) (v := .agg #[.string ⟨#[116, 69, 88, 116]⟩, .string ⟨#[]⟩]) rfl (by kernel_rfl) (by kernel_rfl) (by kernel_rfl) (fun _ _ _ h => h) (YieldsR.read (fun w => But.refl [] w) ?_ fun w hS => ?_) ?_
    · go_simp
    · go_simp
    dsimp only [Act.put, List.getElem_toArray, List.getElem_cons_zero, List.getElem_cons_succ, List.setIfInBounds_toArray, List.set_cons_zero, List.set_cons_succ]
    refine wpM_take (fun w => But.refl [] w) (fun x y z h k => h.trans k) (i := 3) (v := .agg #[.string ⟨#[73, 68, 65, 84]⟩, .string ⟨#[121]⟩]) rfl (by kernel_rfl) (by kernel_rfl) (by kernel_rfl) (fun _ _ _ h => h) (.inl ⟨?_, fun w hS => .inr ⟨_, _, ?_, (HDT.out w ⟨#[121]⟩).mono ?_⟩⟩) ?_
    · go_simp
    · go_simp
    · rintro e wy ⟨rfl, hB⟩; exact ⟨rfl, hS.but hB, hB⟩
    dsimp only [Act.put, List.getElem_toArray, List.getElem_cons_zero, List.getElem_cons_succ, List.setIfInBounds_toArray, List.set_cons_zero, List.set_cons_succ]
    refine wpM_take (fun w => But.refl [] w) (fun x y z h k => h.trans k) (i := 4) (v := .agg #[.string ⟨#[73, 69, 78, 68]⟩, .string ⟨#[]⟩]) rfl (by kernel_rfl) (by kernel_rfl) (by kernel_rfl) (fun _ _ _ h => h) (.inl ⟨?_, fun w hS => .inr ⟨_, _, ?_, (HEN.out w).mono ?_⟩⟩) ?_
    · go_simp
    · go_simp
    · rintro e wy ⟨rfl, hB⟩; exact ⟨rfl, hS.but hB, hB⟩
    dsimp only [Act.put, List.getElem_toArray, List.getElem_cons_zero, List.getElem_cons_succ, List.setIfInBounds_toArray, List.set_cons_zero, List.set_cons_succ]
    refine wpM_two (i := 5) (j := 11) rfl rfl (by kernel_rfl) ?_ ?_
    · intro w4 hR4 hS4 K' hK
      go_simp
      refine hK _ _ ⟨hS4.but ((But.refl [] w4).alloc _), ?_⟩
      clear hK K'
      have hI := Is.fresh w4 30 #[.string ⟨#[73, 72, 68, 82]⟩, .string G, .string ⟨#[73, 68, 65, 84]⟩, .string ⟨#[120]⟩, .string ⟨#[116, 69, 88, 116]⟩, .string ⟨#[]⟩, .string ⟨#[73, 68, 65, 84]⟩, .string ⟨#[121]⟩, .string ⟨#[73, 69, 78, 68]⟩, .string ⟨#[]⟩]
      refine wpM_two (i := 6) (j := 11) rfl rfl (by kernel_rfl) ?_ ?_
      · intro w5 hR5 hS5 K' hK
        go_simp
        refine (HC.out w5 _ (hI.but hR5 (by simp))).mono ?_
        rintro e w6 ⟨rfl, hB6⟩
        refine hK _ _ ⟨hS5.but hB6, ?_⟩
        clear hK K'
        refine wpM_take (fun w => But.refl [] w) (fun x y z h k => h.trans k) (i := 7) (v := .tuple #[.agg #[.int .i64 0, .int .i64 0, .int .i64 0, .int .i64 0, .int .i64 0, .string ⟨#[]⟩, .string ⟨#[]⟩, .bool false], .string ⟨#[]⟩, .int .i64 23]) rfl (by kernel_rfl) (by kernel_rfl) (by kernel_rfl) (fun _ _ _ h => h) (YieldsR.read (fun w => But.refl [] w) ?_ fun w hS => ?_) ?_
        · go_simp
        · go_simp
        dsimp only [Act.put, List.getElem_toArray, List.getElem_cons_zero, List.getElem_cons_succ, List.setIfInBounds_toArray, List.set_cons_zero, List.set_cons_succ]
        refine wpM_take (fun w => But.refl [] w) (fun x y z h k => h.trans k) (i := 8) (v := .agg #[.int .i64 0, .int .i64 0, .int .i64 0, .int .i64 0, .int .i64 0, .string ⟨#[]⟩, .string ⟨#[]⟩, .bool false]) rfl (by kernel_rfl) (by kernel_rfl) (by kernel_rfl) (fun _ _ _ h => h) (YieldsR.read (fun w => But.refl [] w) ?_ fun w hS => ?_) ?_
        · go_simp
        · go_simp
        dsimp only [Act.put, List.getElem_toArray, List.getElem_cons_zero, List.getElem_cons_succ, List.setIfInBounds_toArray, List.set_cons_zero, List.set_cons_succ]
        refine wpM_take (fun w => But.refl [] w) (fun x y z h k => h.trans k) (i := 9) (v := .string ⟨#[]⟩) rfl (by kernel_rfl) (by kernel_rfl) (by kernel_rfl) (fun _ _ _ h => h) (YieldsR.read (fun w => But.refl [] w) ?_ fun w hS => ?_) ?_
        · go_simp
        · go_simp
        dsimp only [Act.put, List.getElem_toArray, List.getElem_cons_zero, List.getElem_cons_succ, List.setIfInBounds_toArray, List.set_cons_zero, List.set_cons_succ]
        refine wpM_take (fun w => But.refl [] w) (fun x y z h k => h.trans k) (i := 10) (v := .int .i64 23) rfl (by kernel_rfl) (by kernel_rfl) (by kernel_rfl) (fun _ _ _ h => h) (YieldsR.read (fun w => But.refl [] w) ?_ fun w hS => ?_) ?_
        · go_simp
        · go_simp
        dsimp only [Act.put, List.getElem_toArray, List.getElem_cons_zero, List.getElem_cons_succ, List.setIfInBounds_toArray, List.set_cons_zero, List.set_cons_succ]
        refine wpM_one (i := 11) rfl (by kernel_rfl) ?_
        intro w7 hR7 hS7 K' hK
        go_simp
        refine hK _ _ ⟨hS7.but ((But.refl [] w7).alloc _), ?_⟩
        clear hK K'
        have hZ : Is (w7.alloc (.cells #[.int .i64 0, .int .i64 0, .int .i64 0, .int .i64 0, .int .i64 0, .string ⟨#[]⟩, .string ⟨#[]⟩, .bool false] 36)) w7.heap.size 36 zerC := Is.fresh _ _ _
        refine wpM_one (i := 12) rfl (by kernel_rfl) ?_
        intro w8 hR8 hS8 K' hK
        have hZ8 := hZ.but hR8 (by simp)
        have hZ9 := hZ8
        unfold zerC at hZ8
        have z0 := hZ8.cell 0
        have z1 := hZ8.cell 1
        have z2 := hZ8.cell 2
        have z3 := hZ8.cell 3
        have z4 := hZ8.cell 4
        have z5 := hZ8.cell 5
        have z6 := hZ8.cell 6
        have z7 := hZ8.cell 7
        have y0 := hZ8.free 0
        have y1 := hZ8.free 1
        have y2 := hZ8.free 2
        have y3 := hZ8.free 3
        have y4 := hZ8.free 4
        have y5 := hZ8.free 5
        have y6 := hZ8.free 6
        have y7 := hZ8.free 7
        go_simp
        obtain ⟨i1, i2⟩ := AwT.fin hS8 hZ9 hS7.2.2.size (.int .i64 0) (.int .i64 0) (.int .i64 0) (.int .i64 0) (.int .i64 0) (.string ⟨#[]⟩) (.string ⟨#[]⟩) (.bool false)
        refine hK _ _ ⟨i2, ?_⟩
        clear hK K' z0 y0 z1 y1 z2 y2 z3 y3 z4 y4 z5 y5 z6 y6 z7 y7
        refine wpM_take (fun w => But.refl [] w) (fun x y z h k => h.trans k) (i := 13) (v := .string ⟨#[]⟩) rfl (by kernel_rfl) (by kernel_rfl) (by kernel_rfl) (fun _ _ _ h => h) (YieldsR.read (fun w => But.refl [] w) ?_ fun w hS => ?_) ?_
        · go_simp
        · go_simp
        dsimp only [Act.put, List.getElem_toArray, List.getElem_cons_zero, List.getElem_cons_succ, List.setIfInBounds_toArray, List.set_cons_zero, List.set_cons_succ]
        refine wpM_take (fun w => But.refl [] w) (fun x y z h k => h.trans k) (i := 14) (v := .int .i64 23) rfl (by kernel_rfl) (by kernel_rfl) (by kernel_rfl) (fun _ _ _ h => h) (YieldsR.read (fun w => But.refl [] w) ?_ fun w hS => ?_) ?_
        · go_simp
        · go_simp
        dsimp only [Act.put, List.getElem_toArray, List.getElem_cons_zero, List.getElem_cons_succ, List.setIfInBounds_toArray, List.set_cons_zero, List.set_cons_succ]
        refine ⟨by kernel_rfl, fun w9 hR9 hS9 => ?_⟩
        have HS9 := Lib.hid hS9
        clear hR9 hS9 i1 i2 hI hZ8 hZ9 hZ hS8 hR8
        go_simp
        go_wp2
        go_meet
        exact ⟨rfl, HS9⟩
      · intro w7 hR7 hS7 K' hK
        go_simp
        refine hK _ _ ⟨hS7.but ((But.refl [] w7).alloc _), ?_⟩
        clear hK K'
        have hZ : Is (w7.alloc (.cells #[.int .i64 0, .int .i64 0, .int .i64 0, .int .i64 0, .int .i64 0, .string ⟨#[]⟩, .string ⟨#[]⟩, .bool false] 36)) w7.heap.size 36 zerC := Is.fresh _ _ _
        have hI := (hI.but hR7 (by simp)).alloc (.cells #[.int .i64 0, .int .i64 0, .int .i64 0, .int .i64 0, .int .i64 0, .string ⟨#[]⟩, .string ⟨#[]⟩, .bool false] 36)
        refine wpM_one (i := 6) rfl (by kernel_rfl) ?_
        intro w5 hR5 hS5 K' hK
        go_simp
        refine (HC.out w5 _ (hI.but hR5 (by simp))).mono ?_
        rintro e w6 ⟨rfl, hB6⟩
        refine hK _ _ ⟨hS5.but hB6, ?_⟩
        clear hK K'
        have hZ := (hZ.but hR5 (by simp)).but hB6 (by simp)
        refine wpM_take (fun w => But.refl [] w) (fun x y z h k => h.trans k) (i := 7) (v := .tuple #[.agg #[.int .i64 0, .int .i64 0, .int .i64 0, .int .i64 0, .int .i64 0, .string ⟨#[]⟩, .string ⟨#[]⟩, .bool false], .string ⟨#[]⟩, .int .i64 23]) rfl (by kernel_rfl) (by kernel_rfl) (by kernel_rfl) (fun _ _ _ h => h) (YieldsR.read (fun w => But.refl [] w) ?_ fun w hS => ?_) ?_
        · go_simp
        · go_simp
        dsimp only [Act.put, List.getElem_toArray, List.getElem_cons_zero, List.getElem_cons_succ, List.setIfInBounds_toArray, List.set_cons_zero, List.set_cons_succ]
        refine wpM_take (fun w => But.refl [] w) (fun x y z h k => h.trans k) (i := 8) (v := .agg #[.int .i64 0, .int .i64 0, .int .i64 0, .int .i64 0, .int .i64 0, .string ⟨#[]⟩, .string ⟨#[]⟩, .bool false]) rfl (by kernel_rfl) (by kernel_rfl) (by kernel_rfl) (fun _ _ _ h => h) (YieldsR.read (fun w => But.refl [] w) ?_ fun w hS => ?_) ?_
        · go_simp
        · go_simp
        dsimp only [Act.put, List.getElem_toArray, List.getElem_cons_zero, List.getElem_cons_succ, List.setIfInBounds_toArray, List.set_cons_zero, List.set_cons_succ]
        refine wpM_take (fun w => But.refl [] w) (fun x y z h k => h.trans k) (i := 9) (v := .string ⟨#[]⟩) rfl (by kernel_rfl) (by kernel_rfl) (by kernel_rfl) (fun _ _ _ h => h) (YieldsR.read (fun w => But.refl [] w) ?_ fun w hS => ?_) ?_
        · go_simp
        · go_simp
        dsimp only [Act.put, List.getElem_toArray, List.getElem_cons_zero, List.getElem_cons_succ, List.setIfInBounds_toArray, List.set_cons_zero, List.set_cons_succ]
        refine wpM_take (fun w => But.refl [] w) (fun x y z h k => h.trans k) (i := 10) (v := .int .i64 23) rfl (by kernel_rfl) (by kernel_rfl) (by kernel_rfl) (fun _ _ _ h => h) (YieldsR.read (fun w => But.refl [] w) ?_ fun w hS => ?_) ?_
        · go_simp
        · go_simp
        dsimp only [Act.put, List.getElem_toArray, List.getElem_cons_zero, List.getElem_cons_succ, List.setIfInBounds_toArray, List.set_cons_zero, List.set_cons_succ]
        refine wpM_one (i := 12) rfl (by kernel_rfl) ?_
        intro w8 hR8 hS8 K' hK
        have hZ8 := hZ.but hR8 (by simp)
        have hZ9 := hZ8
        unfold zerC at hZ8
        have z0 := hZ8.cell 0
        have z1 := hZ8.cell 1
        have z2 := hZ8.cell 2
        have z3 := hZ8.cell 3
        have z4 := hZ8.cell 4
        have z5 := hZ8.cell 5
        have z6 := hZ8.cell 6
        have z7 := hZ8.cell 7
        have y0 := hZ8.free 0
        have y1 := hZ8.free 1
        have y2 := hZ8.free 2
        have y3 := hZ8.free 3
        have y4 := hZ8.free 4
        have y5 := hZ8.free 5
        have y6 := hZ8.free 6
        have y7 := hZ8.free 7
        go_simp
        obtain ⟨i1, i2⟩ := AwT.fin hS8 hZ9 hS7.2.2.size (.int .i64 0) (.int .i64 0) (.int .i64 0) (.int .i64 0) (.int .i64 0) (.string ⟨#[]⟩) (.string ⟨#[]⟩) (.bool false)
        refine hK _ _ ⟨i2, ?_⟩
        clear hK K' z0 y0 z1 y1 z2 y2 z3 y3 z4 y4 z5 y5 z6 y6 z7 y7
        refine wpM_take (fun w => But.refl [] w) (fun x y z h k => h.trans k) (i := 13) (v := .string ⟨#[]⟩) rfl (by kernel_rfl) (by kernel_rfl) (by kernel_rfl) (fun _ _ _ h => h) (YieldsR.read (fun w => But.refl [] w) ?_ fun w hS => ?_) ?_
        · go_simp
        · go_simp
        dsimp only [Act.put, List.getElem_toArray, List.getElem_cons_zero, List.getElem_cons_succ, List.setIfInBounds_toArray, List.set_cons_zero, List.set_cons_succ]
        refine wpM_take (fun w => But.refl [] w) (fun x y z h k => h.trans k) (i := 14) (v := .int .i64 23) rfl (by kernel_rfl) (by kernel_rfl) (by kernel_rfl) (fun _ _ _ h => h) (YieldsR.read (fun w => But.refl [] w) ?_ fun w hS => ?_) ?_
        · go_simp
        · go_simp
        dsimp only [Act.put, List.getElem_toArray, List.getElem_cons_zero, List.getElem_cons_succ, List.setIfInBounds_toArray, List.set_cons_zero, List.set_cons_succ]
        refine ⟨by kernel_rfl, fun w9 hR9 hS9 => ?_⟩
        have HS9 := Lib.hid hS9
        clear hR9 hS9 i1 i2 hI hZ8 hZ9 hZ hS8 hR8
        go_simp
        go_wp2
        go_meet
        exact ⟨rfl, HS9⟩
    · intro w7 hR7 hS7 K' hK
      go_simp
      refine hK _ _ ⟨hS7.but ((But.refl [] w7).alloc _), ?_⟩
      clear hK K'
      have hZ : Is (w7.alloc (.cells #[.int .i64 0, .int .i64 0, .int .i64 0, .int .i64 0, .int .i64 0, .string ⟨#[]⟩, .string ⟨#[]⟩, .bool false] 36)) w7.heap.size 36 zerC := Is.fresh _ _ _
      refine wpM_one (i := 5) rfl (by kernel_rfl) ?_
      intro w4 hR4 hS4 K' hK
      go_simp
      refine hK _ _ ⟨hS4.but ((But.refl [] w4).alloc _), ?_⟩
      clear hK K'
      have hI := Is.fresh w4 30 #[.string ⟨#[73, 72, 68, 82]⟩, .string G, .string ⟨#[73, 68, 65, 84]⟩, .string ⟨#[120]⟩, .string ⟨#[116, 69, 88, 116]⟩, .string ⟨#[]⟩, .string ⟨#[73, 68, 65, 84]⟩, .string ⟨#[121]⟩, .string ⟨#[73, 69, 78, 68]⟩, .string ⟨#[]⟩]
      have hZ := (hZ.but hR4 (by simp)).alloc (.cells #[.string ⟨#[73, 72, 68, 82]⟩, .string G, .string ⟨#[73, 68, 65, 84]⟩, .string ⟨#[120]⟩, .string ⟨#[116, 69, 88, 116]⟩, .string ⟨#[]⟩, .string ⟨#[73, 68, 65, 84]⟩, .string ⟨#[121]⟩, .string ⟨#[73, 69, 78, 68]⟩, .string ⟨#[]⟩] 30)
      refine wpM_one (i := 6) rfl (by kernel_rfl) ?_
      intro w5 hR5 hS5 K' hK
      go_simp
      refine (HC.out w5 _ (hI.but hR5 (by simp))).mono ?_
      rintro e w6 ⟨rfl, hB6⟩
      refine hK _ _ ⟨hS5.but hB6, ?_⟩
      clear hK K'
      have hZ := (hZ.but hR5 (by simp)).but hB6 (by simp)
      refine wpM_take (fun w => But.refl [] w) (fun x y z h k => h.trans k) (i := 7) (v := .tuple #[.agg #[.int .i64 0, .int .i64 0, .int .i64 0, .int .i64 0, .int .i64 0, .string ⟨#[]⟩, .string ⟨#[]⟩, .bool false], .string ⟨#[]⟩, .int .i64 23]) rfl (by kernel_rfl) (by kernel_rfl) (by kernel_rfl) (fun _ _ _ h => h) (YieldsR.read (fun w => But.refl [] w) ?_ fun w hS => ?_) ?_
      · go_simp
      · go_simp
      dsimp only [Act.put, List.getElem_toArray, List.getElem_cons_zero, List.getElem_cons_succ, List.setIfInBounds_toArray, List.set_cons_zero, List.set_cons_succ]
      refine wpM_take (fun w => But.refl [] w) (fun x y z h k => h.trans k) (i := 8) (v := .agg #[.int .i64 0, .int .i64 0, .int .i64 0, .int .i64 0, .int .i64 0, .string ⟨#[]⟩, .string ⟨#[]⟩, .bool false]) rfl (by kernel_rfl) (by kernel_rfl) (by kernel_rfl) (fun _ _ _ h => h) (YieldsR.read (fun w => But.refl [] w) ?_ fun w hS => ?_) ?_
      · go_simp
      · go_simp
      dsimp only [Act.put, List.getElem_toArray, List.getElem_cons_zero, List.getElem_cons_succ, List.setIfInBounds_toArray, List.set_cons_zero, List.set_cons_succ]
      refine wpM_take (fun w => But.refl [] w) (fun x y z h k => h.trans k) (i := 9) (v := .string ⟨#[]⟩) rfl (by kernel_rfl) (by kernel_rfl) (by kernel_rfl) (fun _ _ _ h => h) (YieldsR.read (fun w => But.refl [] w) ?_ fun w hS => ?_) ?_
      · go_simp
      · go_simp
      dsimp only [Act.put, List.getElem_toArray, List.getElem_cons_zero, List.getElem_cons_succ, List.setIfInBounds_toArray, List.set_cons_zero, List.set_cons_succ]
      refine wpM_take (fun w => But.refl [] w) (fun x y z h k => h.trans k) (i := 10) (v := .int .i64 23) rfl (by kernel_rfl) (by kernel_rfl) (by kernel_rfl) (fun _ _ _ h => h) (YieldsR.read (fun w => But.refl [] w) ?_ fun w hS => ?_) ?_
      · go_simp
      · go_simp
      dsimp only [Act.put, List.getElem_toArray, List.getElem_cons_zero, List.getElem_cons_succ, List.setIfInBounds_toArray, List.set_cons_zero, List.set_cons_succ]
      refine wpM_one (i := 12) rfl (by kernel_rfl) ?_
      intro w8 hR8 hS8 K' hK
      have hZ8 := hZ.but hR8 (by simp)
      have hZ9 := hZ8
      unfold zerC at hZ8
      have z0 := hZ8.cell 0
      have z1 := hZ8.cell 1
      have z2 := hZ8.cell 2
      have z3 := hZ8.cell 3
      have z4 := hZ8.cell 4
      have z5 := hZ8.cell 5
      have z6 := hZ8.cell 6
      have z7 := hZ8.cell 7
      have y0 := hZ8.free 0
      have y1 := hZ8.free 1
      have y2 := hZ8.free 2
      have y3 := hZ8.free 3
      have y4 := hZ8.free 4
      have y5 := hZ8.free 5
      have y6 := hZ8.free 6
      have y7 := hZ8.free 7
      go_simp
      obtain ⟨i1, i2⟩ := AwT.fin hS8 hZ9 hS7.2.2.size (.int .i64 0) (.int .i64 0) (.int .i64 0) (.int .i64 0) (.int .i64 0) (.string ⟨#[]⟩) (.string ⟨#[]⟩) (.bool false)
      refine hK _ _ ⟨i2, ?_⟩
      clear hK K' z0 y0 z1 y1 z2 y2 z3 y3 z4 y4 z5 y5 z6 y6 z7 y7
      refine wpM_take (fun w => But.refl [] w) (fun x y z h k => h.trans k) (i := 13) (v := .string ⟨#[]⟩) rfl (by kernel_rfl) (by kernel_rfl) (by kernel_rfl) (fun _ _ _ h => h) (YieldsR.read (fun w => But.refl [] w) ?_ fun w hS => ?_) ?_
      · go_simp
      · go_simp
      dsimp only [Act.put, List.getElem_toArray, List.getElem_cons_zero, List.getElem_cons_succ, List.setIfInBounds_toArray, List.set_cons_zero, List.set_cons_succ]
      refine wpM_take (fun w => But.refl [] w) (fun x y z h k => h.trans k) (i := 14) (v := .int .i64 23) rfl (by kernel_rfl) (by kernel_rfl) (by kernel_rfl) (fun _ _ _ h => h) (YieldsR.read (fun w => But.refl [] w) ?_ fun w hS => ?_) ?_
      · go_simp
      · go_simp
      dsimp only [Act.put, List.getElem_toArray, List.getElem_cons_zero, List.getElem_cons_succ, List.setIfInBounds_toArray, List.set_cons_zero, List.set_cons_succ]
      refine ⟨by kernel_rfl, fun w9 hR9 hS9 => ?_⟩
      have HS9 := Lib.hid hS9
      clear hR9 hS9 i1 i2 hI hZ8 hZ9 hZ hS8 hR8
      go_simp
      go_wp2
      go_meet
      exact ⟨rfl, HS9⟩
  case rest =>
  obtain ⟨rfl, HS8⟩ := hcut
  obtain ⟨w8x, hwx⟩ : ∃ x : World, x = wc := ⟨_, rfl⟩
  rw [← hwx] at HS8 ⊢
  have hS := HS8.out
  clear hwx
  go_upto_region 5 with (fail)
  go_cut [11, 12, 13] from 45 to 54 (fun _ _ v wx => v = .int .i64 27 ∧ Hid (AwT w g1 G g2 wx))
  case first =>
    refine wp_region_m (S := AwT w g1 G g2) (R := fun v v' => But [] v v') (fun w => But.refl [] w) (by kernel_rfl) (hS.but ((But.refl [] _).drew)) ?_
    simp only [List.size_toArray, List.length_cons, List.length_nil, Nat.reduceAdd, Array.replicate_succ, Array.replicate_zero, List.push_toArray, List.nil_append, List.cons_append]
    refine wpM_take (fun w => But.refl [] w) (fun x y z h k => h.trans k) (i := 0) (v := .agg #[.string ⟨#[73, 72, 68, 82]⟩, .string G]) rfl (by kernel_rfl) (by kernel_rfl) (by kernel_rfl) (fun _ _ _ h => h) (YieldsR.read (fun w => But.refl [] w) ?_ fun w hS => ?_) ?_
    · go_simp
    · have c0 := hS.1.cell 0; have c1 := hS.1.cell 1; go_simp
    dsimp only [Act.put, List.getElem_toArray, List.getElem_cons_zero, List.getElem_cons_succ, List.setIfInBounds_toArray, List.set_cons_zero, List.set_cons_succ]
    refine wpM_take (fun w => But.refl [] w) (fun x y z h k => h.trans k) (i := 1) (v := .agg #[.string ⟨#[65, 66, 67, 68]⟩, .string ⟨#[]⟩]) rfl (by kernel_rfl) (by kernel_rfl) (by kernel_rfl) (fun _ _ _ h => h) (YieldsR.read (fun w => But.refl [] w) ?_ fun w hS => ?_) ?_
    · go_simp
    · go_simp
    dsimp only [Act.put, List.getElem_toArray, List.getElem_cons_zero, List.getElem_cons_succ, List.setIfInBounds_toArray, List.set_cons_zero, List.set_cons_succ]
    refine wpM_take (fun w => But.refl [] w) (fun x y z h k => h.trans k) (i := 2) (v := .agg #[.string ⟨#[73, 68, 65, 84]⟩, .string ⟨#[120]⟩]) rfl (by kernel_rfl) (by kernel_rfl) (by kernel_rfl) (fun _ _ _ h => h) (.inl ⟨?_, fun w hS => .inr ⟨_, _, ?_, (HDT.out w ⟨#[120]⟩).mono ?_⟩⟩) ?_
    · go_simp
    · go_simp
    · rintro e wy ⟨rfl, hB⟩; exact ⟨rfl, hS.but hB, hB⟩
    dsimp only [Act.put, List.getElem_toArray, List.getElem_cons_zero, List.getElem_cons_succ, List.setIfInBounds_toArray, List.set_cons_zero, List.set_cons_succ]
    refine wpM_take (fun w => But.refl [] w) (fun x y z h k => h.trans k) (i := 3) (v := .agg #[.string ⟨#[73, 69, 78, 68]⟩, .string ⟨#[]⟩]) rfl (by kernel_rfl) (by kernel_rfl) (by kernel_rfl) (fun _ _ _ h => h) (.inl ⟨?_, fun w hS => .inr ⟨_, _, ?_, (HEN.out w).mono ?_⟩⟩) ?_
    · go_simp
    · go_simp
    · rintro e wy ⟨rfl, hB⟩; exact ⟨rfl, hS.but hB, hB⟩
    dsimp only [Act.put, List.getElem_toArray, List.getElem_cons_zero, List.getElem_cons_succ, List.setIfInBounds_toArray, List.set_cons_zero, List.set_cons_succ]
    refine wpM_two (i := 4) (j := 10) rfl rfl (by kernel_rfl) ?_ ?_
    · intro w4 hR4 hS4 K' hK
      go_simp
      refine hK _ _ ⟨hS4.but ((But.refl [] w4).alloc _), ?_⟩
      clear hK K'
      have hI := Is.fresh w4 30 #[.string ⟨#[73, 72, 68, 82]⟩, .string G, .string ⟨#[65, 66, 67, 68]⟩, .string ⟨#[]⟩, .string ⟨#[73, 68, 65, 84]⟩, .string ⟨#[120]⟩, .string ⟨#[73, 69, 78, 68]⟩, .string ⟨#[]⟩]
      refine wpM_two (i := 5) (j := 10) rfl rfl (by kernel_rfl) ?_ ?_
      · intro w5 hR5 hS5 K' hK
        go_simp
        refine (HD.out w5 _ (hI.but hR5 (by simp))).mono ?_
        rintro e w6 ⟨rfl, hB6⟩
        refine hK _ _ ⟨hS5.but hB6, ?_⟩
        clear hK K'
        refine wpM_take (fun w => But.refl [] w) (fun x y z h k => h.trans k) (i := 6) (v := .tuple #[.agg #[.int .i64 0, .int .i64 0, .int .i64 0, .int .i64 0, .int .i64 0, .string ⟨#[]⟩, .string ⟨#[]⟩, .bool false], .string ⟨#[]⟩, .int .i64 27]) rfl (by kernel_rfl) (by kernel_rfl) (by kernel_rfl) (fun _ _ _ h => h) (YieldsR.read (fun w => But.refl [] w) ?_ fun w hS => ?_) ?_
        · go_simp
        · go_simp
        dsimp only [Act.put, List.getElem_toArray, List.getElem_cons_zero, List.getElem_cons_succ, List.setIfInBounds_toArray, List.set_cons_zero, List.set_cons_succ]
        refine wpM_take (fun w => But.refl [] w) (fun x y z h k => h.trans k) (i := 7) (v := .agg #[.int .i64 0, .int .i64 0, .int .i64 0, .int .i64 0, .int .i64 0, .string ⟨#[]⟩, .string ⟨#[]⟩, .bool false]) rfl (by kernel_rfl) (by kernel_rfl) (by kernel_rfl) (fun _ _ _ h => h) (YieldsR.read (fun w => But.refl [] w) ?_ fun w hS => ?_) ?_
        · go_simp
        · go_simp
        dsimp only [Act.put, List.getElem_toArray, List.getElem_cons_zero, List.getElem_cons_succ, List.setIfInBounds_toArray, List.set_cons_zero, List.set_cons_succ]
        refine wpM_take (fun w => But.refl [] w) (fun x y z h k => h.trans k) (i := 8) (v := .string ⟨#[]⟩) rfl (by kernel_rfl) (by kernel_rfl) (by kernel_rfl) (fun _ _ _ h => h) (YieldsR.read (fun w => But.refl [] w) ?_ fun w hS => ?_) ?_
        · go_simp
        · go_simp
        dsimp only [Act.put, List.getElem_toArray, List.getElem_cons_zero, List.getElem_cons_succ, List.setIfInBounds_toArray, List.set_cons_zero, List.set_cons_succ]
        refine wpM_take (fun w => But.refl [] w) (fun x y z h k => h.trans k) (i := 9) (v := .int .i64 27) rfl (by kernel_rfl) (by kernel_rfl) (by kernel_rfl) (fun _ _ _ h => h) (YieldsR.read (fun w => But.refl [] w) ?_ fun w hS => ?_) ?_
        · go_simp
        · go_simp
        dsimp only [Act.put, List.getElem_toArray, List.getElem_cons_zero, List.getElem_cons_succ, List.setIfInBounds_toArray, List.set_cons_zero, List.set_cons_succ]
        refine wpM_one (i := 10) rfl (by kernel_rfl) ?_
        intro w7 hR7 hS7 K' hK
        go_simp
        refine hK _ _ ⟨hS7.but ((But.refl [] w7).alloc _), ?_⟩
        clear hK K'
        have hZ : Is (w7.alloc (.cells #[.int .i64 0, .int .i64 0, .int .i64 0, .int .i64 0, .int .i64 0, .string ⟨#[]⟩, .string ⟨#[]⟩, .bool false] 36)) w7.heap.size 36 zerC := Is.fresh _ _ _
        refine wpM_one (i := 11) rfl (by kernel_rfl) ?_
        intro w8 hR8 hS8 K' hK
        have hZ8 := hZ.but hR8 (by simp)
        have hZ9 := hZ8
        unfold zerC at hZ8
        have z0 := hZ8.cell 0
        have z1 := hZ8.cell 1
        have z2 := hZ8.cell 2
        have z3 := hZ8.cell 3
        have z4 := hZ8.cell 4
        have z5 := hZ8.cell 5
        have z6 := hZ8.cell 6
        have z7 := hZ8.cell 7
        have y0 := hZ8.free 0
        have y1 := hZ8.free 1
        have y2 := hZ8.free 2
        have y3 := hZ8.free 3
        have y4 := hZ8.free 4
        have y5 := hZ8.free 5
        have y6 := hZ8.free 6
        have y7 := hZ8.free 7
        go_simp
        obtain ⟨i1, i2⟩ := AwT.fin hS8 hZ9 hS7.2.2.size (.int .i64 0) (.int .i64 0) (.int .i64 0) (.int .i64 0) (.int .i64 0) (.string ⟨#[]⟩) (.string ⟨#[]⟩) (.bool false)
        refine hK _ _ ⟨i2, ?_⟩
        clear hK K' z0 y0 z1 y1 z2 y2 z3 y3 z4 y4 z5 y5 z6 y6 z7 y7
        refine wpM_take (fun w => But.refl [] w) (fun x y z h k => h.trans k) (i := 12) (v := .string ⟨#[]⟩) rfl (by kernel_rfl) (by kernel_rfl) (by kernel_rfl) (fun _ _ _ h => h) (YieldsR.read (fun w => But.refl [] w) ?_ fun w hS => ?_) ?_
        · go_simp
        · go_simp
        dsimp only [Act.put, List.getElem_toArray, List.getElem_cons_zero, List.getElem_cons_succ, List.setIfInBounds_toArray, List.set_cons_zero, List.set_cons_succ]
        refine wpM_take (fun w => But.refl [] w) (fun x y z h k => h.trans k) (i := 13) (v := .int .i64 27) rfl (by kernel_rfl) (by kernel_rfl) (by kernel_rfl) (fun _ _ _ h => h) (YieldsR.read (fun w => But.refl [] w) ?_ fun w hS => ?_) ?_
        · go_simp
        · go_simp
        dsimp only [Act.put, List.getElem_toArray, List.getElem_cons_zero, List.getElem_cons_succ, List.setIfInBounds_toArray, List.set_cons_zero, List.set_cons_succ]
        refine ⟨by kernel_rfl, fun w9 hR9 hS9 => ?_⟩
        have HS9 := Lib.hid hS9
        clear hR9 hS9 i1 i2 hI hZ8 hZ9 hZ hS8 hR8
        go_simp
        go_wp2
        go_meet
        exact ⟨rfl, HS9⟩
      · intro w7 hR7 hS7 K' hK
        go_simp
        refine hK _ _ ⟨hS7.but ((But.refl [] w7).alloc _), ?_⟩
        clear hK K'
        have hZ : Is (w7.alloc (.cells #[.int .i64 0, .int .i64 0, .int .i64 0, .int .i64 0, .int .i64 0, .string ⟨#[]⟩, .string ⟨#[]⟩, .bool false] 36)) w7.heap.size 36 zerC := Is.fresh _ _ _
        have hI := (hI.but hR7 (by simp)).alloc (.cells #[.int .i64 0, .int .i64 0, .int .i64 0, .int .i64 0, .int .i64 0, .string ⟨#[]⟩, .string ⟨#[]⟩, .bool false] 36)
        refine wpM_one (i := 5) rfl (by kernel_rfl) ?_
        intro w5 hR5 hS5 K' hK
        go_simp
        refine (HD.out w5 _ (hI.but hR5 (by simp))).mono ?_
        rintro e w6 ⟨rfl, hB6⟩
        refine hK _ _ ⟨hS5.but hB6, ?_⟩
        clear hK K'
        have hZ := (hZ.but hR5 (by simp)).but hB6 (by simp)
        refine wpM_take (fun w => But.refl [] w) (fun x y z h k => h.trans k) (i := 6) (v := .tuple #[.agg #[.int .i64 0, .int .i64 0, .int .i64 0, .int .i64 0, .int .i64 0, .string ⟨#[]⟩, .string ⟨#[]⟩, .bool false], .string ⟨#[]⟩, .int .i64 27]) rfl (by kernel_rfl) (by kernel_rfl) (by kernel_rfl) (fun _ _ _ h => h) (YieldsR.read (fun w => But.refl [] w) ?_ fun w hS => ?_) ?_
        · go_simp
        · go_simp
        dsimp only [Act.put, List.getElem_toArray, List.getElem_cons_zero, List.getElem_cons_succ, List.setIfInBounds_toArray, List.set_cons_zero, List.set_cons_succ]
        refine wpM_take (fun w => But.refl [] w) (fun x y z h k => h.trans k) (i := 7) (v := .agg #[.int .i64 0, .int .i64 0, .int .i64 0, .int .i64 0, .int .i64 0, .string ⟨#[]⟩, .string ⟨#[]⟩, .bool false]) rfl (by kernel_rfl) (by kernel_rfl) (by kernel_rfl) (fun _ _ _ h => h) (YieldsR.read (fun w => But.refl [] w) ?_ fun w hS => ?_) ?_
        · go_simp
        · go_simp
        dsimp only [Act.put, List.getElem_toArray, List.getElem_cons_zero, List.getElem_cons_succ, List.setIfInBounds_toArray, List.set_cons_zero, List.set_cons_succ]
        refine wpM_take (fun w => But.refl [] w) (fun x y z h k => h.trans k) (i := 8) (v := .string ⟨#[]⟩) rfl (by kernel_rfl) (by kernel_rfl) (by kernel_rfl) (fun _ _ _ h => h) (YieldsR.read (fun w => But.refl [] w) ?_ fun w hS => ?_) ?_
        · go_simp
        · go_simp
        dsimp only [Act.put, List.getElem_toArray, List.getElem_cons_zero, List.getElem_cons_succ, List.setIfInBounds_toArray, List.set_cons_zero, List.set_cons_succ]
        refine wpM_take (fun w => But.refl [] w) (fun x y z h k => h.trans k) (i := 9) (v := .int .i64 27) rfl (by kernel_rfl) (by kernel_rfl) (by kernel_rfl) (fun _ _ _ h => h) (YieldsR.read (fun w => But.refl [] w) ?_ fun w hS => ?_) ?_
        · go_simp
        · go_simp
        dsimp only [Act.put, List.getElem_toArray, List.getElem_cons_zero, List.getElem_cons_succ, List.setIfInBounds_toArray, List.set_cons_zero, List.set_cons_succ]
        refine wpM_one (i := 11) rfl (by kernel_rfl) ?_
        intro w8 hR8 hS8 K' hK
        have hZ8 := hZ.but hR8 (by simp)
        have hZ9 := hZ8
        unfold zerC at hZ8
        have z0 := hZ8.cell 0
        have z1 := hZ8.cell 1
        have z2 := hZ8.cell 2
        have z3 := hZ8.cell 3
        have z4 := hZ8.cell 4
        have z5 := hZ8.cell 5
        have z6 := hZ8.cell 6
        have z7 := hZ8.cell 7
        have y0 := hZ8.free 0
        have y1 := hZ8.free 1
        have y2 := hZ8.free 2
        have y3 := hZ8.free 3
        have y4 := hZ8.free 4
        have y5 := hZ8.free 5
        have y6 := hZ8.free 6
        have y7 := hZ8.free 7
        go_simp
        obtain ⟨i1, i2⟩ := AwT.fin hS8 hZ9 hS7.2.2.size (.int .i64 0) (.int .i64 0) (.int .i64 0) (.int .i64 0) (.int .i64 0) (.string ⟨#[]⟩) (.string ⟨#[]⟩) (.bool false)
        refine hK _ _ ⟨i2, ?_⟩
        clear hK K' z0 y0 z1 y1 z2 y2 z3 y3 z4 y4 z5 y5 z6 y6 z7 y7
        refine wpM_take (fun w => But.refl [] w) (fun x y z h k => h.trans k) (i := 12) (v := .string ⟨#[]⟩) rfl (by kernel_rfl) (by kernel_rfl) (by kernel_rfl) (fun _ _ _ h => h) (YieldsR.read (fun w => But.refl [] w) ?_ fun w hS => ?_) ?_
        · go_simp
        · go_simp
        dsimp only [Act.put, List.getElem_toArray, List.getElem_cons_zero, List.getElem_cons_succ, List.setIfInBounds_toArray, List.set_cons_zero, List.set_cons_succ]
        refine wpM_take (fun w => But.refl [] w) (fun x y z h k => h.trans k) (i := 13) (v := .int .i64 27) rfl (by kernel_rfl) (by kernel_rfl) (by kernel_rfl) (fun _ _ _ h => h) (YieldsR.read (fun w => But.refl [] w) ?_ fun w hS => ?_) ?_
        · go_simp
        · go_simp
        dsimp only [Act.put, List.getElem_toArray, List.getElem_cons_zero, List.getElem_cons_succ, List.setIfInBounds_toArray, List.set_cons_zero, List.set_cons_succ]
        refine ⟨by kernel_rfl, fun w9 hR9 hS9 => ?_⟩
        have HS9 := Lib.hid hS9
        clear hR9 hS9 i1 i2 hI hZ8 hZ9 hZ hS8 hR8
        go_simp
        go_wp2
        go_meet
        exact ⟨rfl, HS9⟩
    · intro w7 hR7 hS7 K' hK
      go_simp
      refine hK _ _ ⟨hS7.but ((But.refl [] w7).alloc _), ?_⟩
      clear hK K'
      have hZ : Is (w7.alloc (.cells #[.int .i64 0, .int .i64 0, .int .i64 0, .int .i64 0, .int .i64 0, .string ⟨#[]⟩, .string ⟨#[]⟩, .bool false] 36)) w7.heap.size 36 zerC := Is.fresh _ _ _
      refine wpM_one (i := 4) rfl (by kernel_rfl) ?_
      intro w4 hR4 hS4 K' hK
      go_simp
      refine hK _ _ ⟨hS4.but ((But.refl [] w4).alloc _), ?_⟩
      clear hK K'
      have hI := Is.fresh w4 30 #[.string ⟨#[73, 72, 68, 82]⟩, .string G, .string ⟨#[65, 66, 67, 68]⟩, .string ⟨#[]⟩, .string ⟨#[73, 68, 65, 84]⟩, .string ⟨#[120]⟩, .string ⟨#[73, 69, 78, 68]⟩, .string ⟨#[]⟩]
      have hZ := (hZ.but hR4 (by simp)).alloc (.cells #[.string ⟨#[73, 72, 68, 82]⟩, .string G, .string ⟨#[65, 66, 67, 68]⟩, .string ⟨#[]⟩, .string ⟨#[73, 68, 65, 84]⟩, .string ⟨#[120]⟩, .string ⟨#[73, 69, 78, 68]⟩, .string ⟨#[]⟩] 30)
      refine wpM_one (i := 5) rfl (by kernel_rfl) ?_
      intro w5 hR5 hS5 K' hK
      go_simp
      refine (HD.out w5 _ (hI.but hR5 (by simp))).mono ?_
      rintro e w6 ⟨rfl, hB6⟩
      refine hK _ _ ⟨hS5.but hB6, ?_⟩
      clear hK K'
      have hZ := (hZ.but hR5 (by simp)).but hB6 (by simp)
      refine wpM_take (fun w => But.refl [] w) (fun x y z h k => h.trans k) (i := 6) (v := .tuple #[.agg #[.int .i64 0, .int .i64 0, .int .i64 0, .int .i64 0, .int .i64 0, .string ⟨#[]⟩, .string ⟨#[]⟩, .bool false], .string ⟨#[]⟩, .int .i64 27]) rfl (by kernel_rfl) (by kernel_rfl) (by kernel_rfl) (fun _ _ _ h => h) (YieldsR.read (fun w => But.refl [] w) ?_ fun w hS => ?_) ?_
      · go_simp
      · go_simp
      dsimp only [Act.put, List.getElem_toArray, List.getElem_cons_zero, List.getElem_cons_succ, List.setIfInBounds_toArray, List.set_cons_zero, List.set_cons_succ]
      refine wpM_take (fun w => But.refl [] w) (fun x y z h k => h.trans k) (i := 7) (v := .agg #[.int .i64 0, .int .i64 0, .int .i64 0, .int .i64 0, .int .i64 0, .string ⟨#[]⟩, .string ⟨#[]⟩, .bool false]) rfl (by kernel_rfl) (by kernel_rfl) (by kernel_rfl) (fun _ _ _ h => h) (YieldsR.read (fun w => But.refl [] w) ?_ fun w hS => ?_) ?_
      · go_simp
      · go_simp
      dsimp only [Act.put, List.getElem_toArray, List.getElem_cons_zero, List.getElem_cons_succ, List.setIfInBounds_toArray, List.set_cons_zero, List.set_cons_succ]
      refine wpM_take (fun w => But.refl [] w) (fun x y z h k => h.trans k) (i := 8) (v := .string ⟨#[]⟩) rfl (by kernel_rfl) (by kernel_rfl) (by kernel_rfl) (fun _ _ _ h => h) (YieldsR.read (fun w => But.refl [] w) ?_ fun w hS => ?_) ?_
      · go_simp
      · go_simp
      dsimp only [Act.put, List.getElem_toArray, List.getElem_cons_zero, List.getElem_cons_succ, List.setIfInBounds_toArray, List.set_cons_zero, List.set_cons_succ]
      refine wpM_take (fun w => But.refl [] w) (fun x y z h k => h.trans k) (i := 9) (v := .int .i64 27) rfl (by kernel_rfl) (by kernel_rfl) (by kernel_rfl) (fun _ _ _ h => h) (YieldsR.read (fun w => But.refl [] w) ?_ fun w hS => ?_) ?_
      · go_simp
      · go_simp
      dsimp only [Act.put, List.getElem_toArray, List.getElem_cons_zero, List.getElem_cons_succ, List.setIfInBounds_toArray, List.set_cons_zero, List.set_cons_succ]
      refine wpM_one (i := 11) rfl (by kernel_rfl) ?_
      intro w8 hR8 hS8 K' hK
      have hZ8 := hZ.but hR8 (by simp)
      have hZ9 := hZ8
      unfold zerC at hZ8
      have z0 := hZ8.cell 0
      have z1 := hZ8.cell 1
      have z2 := hZ8.cell 2
      have z3 := hZ8.cell 3
      have z4 := hZ8.cell 4
      have z5 := hZ8.cell 5
      have z6 := hZ8.cell 6
      have z7 := hZ8.cell 7
      have y0 := hZ8.free 0
      have y1 := hZ8.free 1
      have y2 := hZ8.free 2
      have y3 := hZ8.free 3
      have y4 := hZ8.free 4
      have y5 := hZ8.free 5
      have y6 := hZ8.free 6
      have y7 := hZ8.free 7
      go_simp
      obtain ⟨i1, i2⟩ := AwT.fin hS8 hZ9 hS7.2.2.size (.int .i64 0) (.int .i64 0) (.int .i64 0) (.int .i64 0) (.int .i64 0) (.string ⟨#[]⟩) (.string ⟨#[]⟩) (.bool false)
      refine hK _ _ ⟨i2, ?_⟩
      clear hK K' z0 y0 z1 y1 z2 y2 z3 y3 z4 y4 z5 y5 z6 y6 z7 y7
      refine wpM_take (fun w => But.refl [] w) (fun x y z h k => h.trans k) (i := 12) (v := .string ⟨#[]⟩) rfl (by kernel_rfl) (by kernel_rfl) (by kernel_rfl) (fun _ _ _ h => h) (YieldsR.read (fun w => But.refl [] w) ?_ fun w hS => ?_) ?_
      · go_simp
      · go_simp
      dsimp only [Act.put, List.getElem_toArray, List.getElem_cons_zero, List.getElem_cons_succ, List.setIfInBounds_toArray, List.set_cons_zero, List.set_cons_succ]
      refine wpM_take (fun w => But.refl [] w) (fun x y z h k => h.trans k) (i := 13) (v := .int .i64 27) rfl (by kernel_rfl) (by kernel_rfl) (by kernel_rfl) (fun _ _ _ h => h) (YieldsR.read (fun w => But.refl [] w) ?_ fun w hS => ?_) ?_
      · go_simp
      · go_simp
      dsimp only [Act.put, List.getElem_toArray, List.getElem_cons_zero, List.getElem_cons_succ, List.setIfInBounds_toArray, List.set_cons_zero, List.set_cons_succ]
      refine ⟨by kernel_rfl, fun w9 hR9 hS9 => ?_⟩
      have HS9 := Lib.hid hS9
      clear hR9 hS9 i1 i2 hI hZ8 hZ9 hZ hS8 hR8
      go_simp
      go_wp2
      go_meet
      exact ⟨rfl, HS9⟩
  case rest =>
  obtain ⟨rfl, HS11⟩ := hcut
  obtain ⟨w11x, hwx⟩ : ∃ x : World, x = wc := ⟨_, rfl⟩
  rw [← hwx] at HS11 ⊢
  have hS := HS11.out
  clear hwx
  go_upto_region 6 with (fail)
  refine wp_region_m (S := AwT w g1 G g2) (R := fun v v' => But [] v v') (fun w => But.refl [] w) (by kernel_rfl) (hS.but ((But.refl [] _).drew)) ?_
  simp only [List.size_toArray, List.length_cons, List.length_nil, Nat.reduceAdd, Array.replicate_succ, Array.replicate_zero, List.push_toArray, List.nil_append, List.cons_append]
  refine wpM_take (fun w => But.refl [] w) (fun x y z h k => h.trans k) (i := 0) (v := .int .i64 0) rfl (by kernel_rfl) (by kernel_rfl) (by kernel_rfl) (fun _ _ _ h => h) (YieldsR.read (fun w => But.refl [] w) ?_ fun w hS => ?_) ?_
  · go_simp
  · go_simp
  dsimp only [Act.put, List.getElem_toArray, List.getElem_cons_zero, List.getElem_cons_succ, List.setIfInBounds_toArray, List.set_cons_zero, List.set_cons_succ]
  refine wpM_take (fun w => But.refl [] w) (fun x y z h k => h.trans k) (i := 1) (v := .bool true) rfl (by kernel_rfl) (by kernel_rfl) (by kernel_rfl) (fun _ _ _ h => h) (YieldsR.read (fun w => But.refl [] w) ?_ fun w hS => ?_) ?_
  · go_simp
  · go_simp
  dsimp only [Act.put, List.getElem_toArray, List.getElem_cons_zero, List.getElem_cons_succ, List.setIfInBounds_toArray, List.set_cons_zero, List.set_cons_succ]
  refine wpM_take (fun w => But.refl [] w) (fun x y z h k => h.trans k) (i := 2) (v := .bool true) rfl (by kernel_rfl) (by kernel_rfl) (by kernel_rfl) (fun _ _ _ h => h) (YieldsR.read (fun w => But.refl [] w) ?_ fun w hS => ?_) ?_
  · go_simp
  · go_simp
  dsimp only [Act.put, List.getElem_toArray, List.getElem_cons_zero, List.getElem_cons_succ, List.setIfInBounds_toArray, List.set_cons_zero, List.set_cons_succ]
  refine wpM_take (fun w => But.refl [] w) (fun x y z h k => h.trans k) (i := 3) (v := .agg #[.int .i64 1, .int .i64 1, .int .i64 8, .int .i64 0, .int .i64 0, .string ⟨#[]⟩, .string ⟨#[]⟩, .bool false]) rfl (by kernel_rfl) (by kernel_rfl) (by kernel_rfl) (fun _ _ _ h => h) (YieldsR.read (fun w => But.refl [] w) ?_ fun w hS => ?_) ?_
  · go_simp
  · have hz := hS.2.1; unfold shpG at hz; have z0 := hz.cell 0; have z1 := hz.cell 1; have z2 := hz.cell 2; have z3 := hz.cell 3; have z4 := hz.cell 4; have z5 := hz.cell 5; have z6 := hz.cell 6; have z7 := hz.cell 7; go_simp
  dsimp only [Act.put, List.getElem_toArray, List.getElem_cons_zero, List.getElem_cons_succ, List.setIfInBounds_toArray, List.set_cons_zero, List.set_cons_succ]
  refine wpM_take (fun w => But.refl [] w) (fun x y z h k => h.trans k) (i := 4) (v := .agg #[.int .i64 1, .int .i64 1, .int .i64 8, .int .i64 0, .int .i64 0]) rfl (by kernel_rfl) (by kernel_rfl) (by kernel_rfl) (fun _ _ _ h => h) (.inl ⟨?_, fun w hS => .inr ⟨_, _, ?_, (HGR.out w).mono ?_⟩⟩) ?_
  · go_simp
  · go_simp
  · rintro e wy ⟨rfl, hB⟩; exact ⟨rfl, hS.but hB, hB⟩
  dsimp only [Act.put, List.getElem_toArray, List.getElem_cons_zero, List.getElem_cons_succ, List.setIfInBounds_toArray, List.set_cons_zero, List.set_cons_succ]
  refine wpM_take (fun w => But.refl [] w) (fun x y z h k => h.trans k) (i := 5) (v := .agg #[.int .i64 1, .int .i64 1, .int .i64 8, .int .i64 0, .int .i64 0, .string ⟨#[]⟩, .string ⟨#[]⟩, .bool false]) rfl (by kernel_rfl) (by kernel_rfl) (by kernel_rfl) (fun _ _ _ h => h) (YieldsR.read (fun w => But.refl [] w) ?_ fun w hS => ?_) ?_
  · go_simp
  · go_simp
  dsimp only [Act.put, List.getElem_toArray, List.getElem_cons_zero, List.getElem_cons_succ, List.setIfInBounds_toArray, List.set_cons_zero, List.set_cons_succ]
  refine wpM_take (fun w => But.refl [] w) (fun x y z h k => h.trans k) (i := 6) (v := .bool true) rfl (by kernel_rfl) (by kernel_rfl) (by kernel_rfl) (fun _ _ _ h => h) (YieldsR.read (fun w => But.refl [] w) ?_ fun w hS => ?_) ?_
  · go_simp
  · go_simp
  dsimp only [Act.put, List.getElem_toArray, List.getElem_cons_zero, List.getElem_cons_succ, List.setIfInBounds_toArray, List.set_cons_zero, List.set_cons_succ]
  refine wpM_take (fun w => But.refl [] w) (fun x y z h k => h.trans k) (i := 7) (v := .bool true) rfl (by kernel_rfl) (by kernel_rfl) (by kernel_rfl) (fun _ _ _ h => h) (YieldsR.read (fun w => But.refl [] w) ?_ fun w hS => ?_) ?_
  · go_simp
  · go_simp
  dsimp only [Act.put, List.getElem_toArray, List.getElem_cons_zero, List.getElem_cons_succ, List.setIfInBounds_toArray, List.set_cons_zero, List.set_cons_succ]
  refine wpM_take (fun w => But.refl [] w) (fun x y z h k => h.trans k) (i := 8) (v := .bool true) rfl (by kernel_rfl) (by kernel_rfl) (by kernel_rfl) (fun _ _ _ h => h) (YieldsR.read (fun w => But.refl [] w) ?_ fun w hS => ?_) ?_
  · go_simp
  · go_simp
  dsimp only [Act.put, List.getElem_toArray, List.getElem_cons_zero, List.getElem_cons_succ, List.setIfInBounds_toArray, List.set_cons_zero, List.set_cons_succ]
  refine wpM_take (fun w => But.refl [] w) (fun x y z h k => h.trans k) (i := 9) (v := .string ⟨#[120, 121]⟩) rfl (by kernel_rfl) (by kernel_rfl) (by kernel_rfl) (fun _ _ _ h => h) (YieldsR.read (fun w => But.refl [] w) ?_ fun w hS => ?_) ?_
  · go_simp
  · go_simp
  dsimp only [Act.put, List.getElem_toArray, List.getElem_cons_zero, List.getElem_cons_succ, List.setIfInBounds_toArray, List.set_cons_zero, List.set_cons_succ]
  refine wpM_take (fun w => But.refl [] w) (fun x y z h k => h.trans k) (i := 10) (v := .bool true) rfl (by kernel_rfl) (by kernel_rfl) (by kernel_rfl) (fun _ _ _ h => h) (YieldsR.read (fun w => But.refl [] w) ?_ fun w hS => ?_) ?_
  · go_simp
  · go_simp
  dsimp only [Act.put, List.getElem_toArray, List.getElem_cons_zero, List.getElem_cons_succ, List.setIfInBounds_toArray, List.set_cons_zero, List.set_cons_succ]
  refine wpM_take (fun w => But.refl [] w) (fun x y z h k => h.trans k) (i := 11) (v := .bool true) rfl (by kernel_rfl) (by kernel_rfl) (by kernel_rfl) (fun _ _ _ h => h) (YieldsR.read (fun w => But.refl [] w) ?_ fun w hS => ?_) ?_
  · go_simp
  · go_simp
  dsimp only [Act.put, List.getElem_toArray, List.getElem_cons_zero, List.getElem_cons_succ, List.setIfInBounds_toArray, List.set_cons_zero, List.set_cons_succ]
  refine wpM_take (fun w => But.refl [] w) (fun x y z h k => h.trans k) (i := 12) (v := .bool true) rfl (by kernel_rfl) (by kernel_rfl) (by kernel_rfl) (fun _ _ _ h => h) (YieldsR.read (fun w => But.refl [] w) ?_ fun w hS => ?_) ?_
  · go_simp
  · go_simp
  dsimp only [Act.put, List.getElem_toArray, List.getElem_cons_zero, List.getElem_cons_succ, List.setIfInBounds_toArray, List.set_cons_zero, List.set_cons_succ]
  refine wpM_take (fun w => But.refl [] w) (fun x y z h k => h.trans k) (i := 13) (v := .int .i64 23) rfl (by kernel_rfl) (by kernel_rfl) (by kernel_rfl) (fun _ _ _ h => h) (YieldsR.read (fun w => But.refl [] w) ?_ fun w hS => ?_) ?_
  · go_simp
  · go_simp
  dsimp only [Act.put, List.getElem_toArray, List.getElem_cons_zero, List.getElem_cons_succ, List.setIfInBounds_toArray, List.set_cons_zero, List.set_cons_succ]
  refine wpM_take (fun w => But.refl [] w) (fun x y z h k => h.trans k) (i := 14) (v := .bool true) rfl (by kernel_rfl) (by kernel_rfl) (by kernel_rfl) (fun _ _ _ h => h) (YieldsR.read (fun w => But.refl [] w) ?_ fun w hS => ?_) ?_
  · go_simp
  · go_simp
  dsimp only [Act.put, List.getElem_toArray, List.getElem_cons_zero, List.getElem_cons_succ, List.setIfInBounds_toArray, List.set_cons_zero, List.set_cons_succ]
  refine wpM_take (fun w => But.refl [] w) (fun x y z h k => h.trans k) (i := 15) (v := .bool true) rfl (by kernel_rfl) (by kernel_rfl) (by kernel_rfl) (fun _ _ _ h => h) (YieldsR.read (fun w => But.refl [] w) ?_ fun w hS => ?_) ?_
  · go_simp
  · go_simp
  dsimp only [Act.put, List.getElem_toArray, List.getElem_cons_zero, List.getElem_cons_succ, List.setIfInBounds_toArray, List.set_cons_zero, List.set_cons_succ]
  refine wpM_take (fun w => But.refl [] w) (fun x y z h k => h.trans k) (i := 16) (v := .bool true) rfl (by kernel_rfl) (by kernel_rfl) (by kernel_rfl) (fun _ _ _ h => h) (YieldsR.read (fun w => But.refl [] w) ?_ fun w hS => ?_) ?_
  · go_simp
  · go_simp
  dsimp only [Act.put, List.getElem_toArray, List.getElem_cons_zero, List.getElem_cons_succ, List.setIfInBounds_toArray, List.set_cons_zero, List.set_cons_succ]
  refine wpM_take (fun w => But.refl [] w) (fun x y z h k => h.trans k) (i := 17) (v := .int .i64 23) rfl (by kernel_rfl) (by kernel_rfl) (by kernel_rfl) (fun _ _ _ h => h) (YieldsR.read (fun w => But.refl [] w) ?_ fun w hS => ?_) ?_
  · go_simp
  · go_simp
  dsimp only [Act.put, List.getElem_toArray, List.getElem_cons_zero, List.getElem_cons_succ, List.setIfInBounds_toArray, List.set_cons_zero, List.set_cons_succ]
  refine wpM_take (fun w => But.refl [] w) (fun x y z h k => h.trans k) (i := 18) (v := .bool true) rfl (by kernel_rfl) (by kernel_rfl) (by kernel_rfl) (fun _ _ _ h => h) (YieldsR.read (fun w => But.refl [] w) ?_ fun w hS => ?_) ?_
  · go_simp
  · go_simp
  dsimp only [Act.put, List.getElem_toArray, List.getElem_cons_zero, List.getElem_cons_succ, List.setIfInBounds_toArray, List.set_cons_zero, List.set_cons_succ]
  refine wpM_take (fun w => But.refl [] w) (fun x y z h k => h.trans k) (i := 19) (v := .bool true) rfl (by kernel_rfl) (by kernel_rfl) (by kernel_rfl) (fun _ _ _ h => h) (YieldsR.read (fun w => But.refl [] w) ?_ fun w hS => ?_) ?_
  · go_simp
  · go_simp
  dsimp only [Act.put, List.getElem_toArray, List.getElem_cons_zero, List.getElem_cons_succ, List.setIfInBounds_toArray, List.set_cons_zero, List.set_cons_succ]
  refine wpM_take (fun w => But.refl [] w) (fun x y z h k => h.trans k) (i := 20) (v := .bool true) rfl (by kernel_rfl) (by kernel_rfl) (by kernel_rfl) (fun _ _ _ h => h) (YieldsR.read (fun w => But.refl [] w) ?_ fun w hS => ?_) ?_
  · go_simp
  · go_simp
  dsimp only [Act.put, List.getElem_toArray, List.getElem_cons_zero, List.getElem_cons_succ, List.setIfInBounds_toArray, List.set_cons_zero, List.set_cons_succ]
  refine wpM_take (fun w => But.refl [] w) (fun x y z h k => h.trans k) (i := 21) (v := .int .i64 27) rfl (by kernel_rfl) (by kernel_rfl) (by kernel_rfl) (fun _ _ _ h => h) (YieldsR.read (fun w => But.refl [] w) ?_ fun w hS => ?_) ?_
  · go_simp
  · go_simp
  dsimp only [Act.put, List.getElem_toArray, List.getElem_cons_zero, List.getElem_cons_succ, List.setIfInBounds_toArray, List.set_cons_zero, List.set_cons_succ]
  refine wpM_take (fun w => But.refl [] w) (fun x y z h k => h.trans k) (i := 22) (v := .bool true) rfl (by kernel_rfl) (by kernel_rfl) (by kernel_rfl) (fun _ _ _ h => h) (YieldsR.read (fun w => But.refl [] w) ?_ fun w hS => ?_) ?_
  · go_simp
  · go_simp
  dsimp only [Act.put, List.getElem_toArray, List.getElem_cons_zero, List.getElem_cons_succ, List.setIfInBounds_toArray, List.set_cons_zero, List.set_cons_succ]
  refine wpM_take (fun w => But.refl [] w) (fun x y z h k => h.trans k) (i := 23) (v := .bool true) rfl (by kernel_rfl) (by kernel_rfl) (by kernel_rfl) (fun _ _ _ h => h) (YieldsR.read (fun w => But.refl [] w) ?_ fun w hS => ?_) ?_
  · go_simp
  · go_simp
  dsimp only [Act.put, List.getElem_toArray, List.getElem_cons_zero, List.getElem_cons_succ, List.setIfInBounds_toArray, List.set_cons_zero, List.set_cons_succ]
  refine wpM_take (fun w => But.refl [] w) (fun x y z h k => h.trans k) (i := 24) (v := .bool true) rfl (by kernel_rfl) (by kernel_rfl) (by kernel_rfl) (fun _ _ _ h => h) (YieldsR.read (fun w => But.refl [] w) ?_ fun w hS => ?_) ?_
  · go_simp
  · go_simp
  dsimp only [Act.put, List.getElem_toArray, List.getElem_cons_zero, List.getElem_cons_succ, List.setIfInBounds_toArray, List.set_cons_zero, List.set_cons_succ]
  refine wpM_take (fun w => But.refl [] w) (fun x y z h k => h.trans k) (i := 25) (v := .agg #[.int .i64 1, .int .i64 1, .int .i64 8, .int .i64 1, .int .i64 0]) rfl (by kernel_rfl) (by kernel_rfl) (by kernel_rfl) (fun _ _ _ h => h) (YieldsR.read (fun w => But.refl [] w) ?_ fun w hS => ?_) ?_
  · go_simp
  · go_simp
  dsimp only [Act.put, List.getElem_toArray, List.getElem_cons_zero, List.getElem_cons_succ, List.setIfInBounds_toArray, List.set_cons_zero, List.set_cons_succ]
  refine wpM_take (fun w => But.refl [] w) (fun x y z h k => h.trans k) (i := 26) (v := .int .i64 24) rfl (by kernel_rfl) (by kernel_rfl) (by kernel_rfl) (fun _ _ _ h => h) (.inl ⟨?_, fun w hS => .inr ⟨_, _, ?_, (HRI.out w).mono ?_⟩⟩) ?_
  · go_simp
  · go_simp
  · rintro e wy ⟨rfl, hB⟩; exact ⟨rfl, hS.but hB, hB⟩
  dsimp only [Act.put, List.getElem_toArray, List.getElem_cons_zero, List.getElem_cons_succ, List.setIfInBounds_toArray, List.set_cons_zero, List.set_cons_succ]
  refine wpM_take (fun w => But.refl [] w) (fun x y z h k => h.trans k) (i := 27) (v := .bool true) rfl (by kernel_rfl) (by kernel_rfl) (by kernel_rfl) (fun _ _ _ h => h) (YieldsR.read (fun w => But.refl [] w) ?_ fun w hS => ?_) ?_
  · go_simp
  · go_simp
  dsimp only [Act.put, List.getElem_toArray, List.getElem_cons_zero, List.getElem_cons_succ, List.setIfInBounds_toArray, List.set_cons_zero, List.set_cons_succ]
  refine wpM_take (fun w => But.refl [] w) (fun x y z h k => h.trans k) (i := 28) (v := .bool true) rfl (by kernel_rfl) (by kernel_rfl) (by kernel_rfl) (fun _ _ _ h => h) (YieldsR.read (fun w => But.refl [] w) ?_ fun w hS => ?_) ?_
  · go_simp
  · go_simp
  dsimp only [Act.put, List.getElem_toArray, List.getElem_cons_zero, List.getElem_cons_succ, List.setIfInBounds_toArray, List.set_cons_zero, List.set_cons_succ]
  refine wpM_take (fun w => But.refl [] w) (fun x y z h k => h.trans k) (i := 29) (v := .bool true) rfl (by kernel_rfl) (by kernel_rfl) (by kernel_rfl) (fun _ _ _ h => h) (YieldsR.read (fun w => But.refl [] w) ?_ fun w hS => ?_) ?_
  · go_simp
  · go_simp
  dsimp only [Act.put, List.getElem_toArray, List.getElem_cons_zero, List.getElem_cons_succ, List.setIfInBounds_toArray, List.set_cons_zero, List.set_cons_succ]
  refine wpM_take (fun w => But.refl [] w) (fun x y z h k => h.trans k) (i := 30) (v := .agg #[.int .i64 1025, .int .i64 1, .int .i64 8, .int .i64 0, .int .i64 0]) rfl (by kernel_rfl) (by kernel_rfl) (by kernel_rfl) (fun _ _ _ h => h) (YieldsR.read (fun w => But.refl [] w) ?_ fun w hS => ?_) ?_
  · go_simp
  · go_simp
  dsimp only [Act.put, List.getElem_toArray, List.getElem_cons_zero, List.getElem_cons_succ, List.setIfInBounds_toArray, List.set_cons_zero, List.set_cons_succ]
  refine wpM_take (fun w => But.refl [] w) (fun x y z h k => h.trans k) (i := 31) (v := .int .i64 5) rfl (by kernel_rfl) (by kernel_rfl) (by kernel_rfl) (fun _ _ _ h => h) (.inl ⟨?_, fun w hS => .inr ⟨_, _, ?_, (HRJ.out w).mono ?_⟩⟩) ?_
  · go_simp
  · go_simp
  · rintro e wy ⟨rfl, hB⟩; exact ⟨rfl, hS.but hB, hB⟩
  dsimp only [Act.put, List.getElem_toArray, List.getElem_cons_zero, List.getElem_cons_succ, List.setIfInBounds_toArray, List.set_cons_zero, List.set_cons_succ]
  refine wpM_take (fun w => But.refl [] w) (fun x y z h k => h.trans k) (i := 32) (v := .bool true) rfl (by kernel_rfl) (by kernel_rfl) (by kernel_rfl) (fun _ _ _ h => h) (YieldsR.read (fun w => But.refl [] w) ?_ fun w hS => ?_) ?_
  · go_simp
  · go_simp
  dsimp only [Act.put, List.getElem_toArray, List.getElem_cons_zero, List.getElem_cons_succ, List.setIfInBounds_toArray, List.set_cons_zero, List.set_cons_succ]
  refine wpM_take (fun w => But.refl [] w) (fun x y z h k => h.trans k) (i := 33) (v := .bool true) rfl (by kernel_rfl) (by kernel_rfl) (by kernel_rfl) (fun _ _ _ h => h) (YieldsR.read (fun w => But.refl [] w) ?_ fun w hS => ?_) ?_
  · go_simp
  · go_simp
  dsimp only [Act.put, List.getElem_toArray, List.getElem_cons_zero, List.getElem_cons_succ, List.setIfInBounds_toArray, List.set_cons_zero, List.set_cons_succ]
  refine wpM_take (fun w => But.refl [] w) (fun x y z h k => h.trans k) (i := 34) (v := .bool true) rfl (by kernel_rfl) (by kernel_rfl) (by kernel_rfl) (fun _ _ _ h => h) (YieldsR.read (fun w => But.refl [] w) ?_ fun w hS => ?_) ?_
  · go_simp
  · go_simp
  dsimp only [Act.put, List.getElem_toArray, List.getElem_cons_zero, List.getElem_cons_succ, List.setIfInBounds_toArray, List.set_cons_zero, List.set_cons_succ]
  refine ⟨by kernel_rfl, fun w9 hR9 hS9 => ?_⟩
  clear hR9
  have HS9 := Lib.hid hS9.2.2
  clear hS9 hS
  go_simp
  go_wp2
  go_ret
  exact ⟨rfl, HS9.out⟩
end Go.Proofs.Ytedffeimcccobaa
