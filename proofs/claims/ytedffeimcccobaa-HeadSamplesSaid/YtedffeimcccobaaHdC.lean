/- What stands in memory while the document's Read goes on. -/
import Derived.Test.YtedffeimcccobaaHdA
import Derived.Test.YtedffeimcccobaaCkD
import Derived.Test.YtedffeimcccobaaRegM
import Derived.BigRegion
import Derived.Deep.RegionWith
import Derived.Lib.Builder
set_option maxRecDepth 100000
set_option linter.unusedVariables false
namespace Go.Proofs.Ytedffeimcccobaa
set_option maxRecDepth 100000
open Go Go.RowKit
def zerC : Array Value := #[.int .i64 0, .int .i64 0, .int .i64 0, .int .i64 0, .int .i64 0, .string ⟨#[]⟩, .string ⟨#[]⟩, .bool false]
def shpC (a b d c l : Int) (P T : List UInt8) (tr : Bool) : Array Value := #[.int .i64 a, .int .i64 b, .int .i64 d, .int .i64 c, .int .i64 l, .string (strL P), .string (strL T), .bool tr]
/-- A shape as a value. -/
def shapeV (n : List Int) (s : HS) : Value := .agg #[.int .i64 (n.getD 0 0), .int .i64 (n.getD 1 0), .int .i64 (n.getD 2 0), .int .i64 (n.getD 3 0), .int .i64 (n.getD 4 0), .string (strL s.P), .string (strL s.T), .bool s.trans]
/-- What Read tells. -/
def GotH (w : World) (r : List Int × HS × Int) (e : Ending) (w' : World) : Prop := e = .returned (.tuple #[shapeV r.1 r.2.1, .string (strL r.2.1.D), .int .i64 r.2.2]) ∧ But [] w w'
/-- The three shapes in memory: the answer's, the empty one, the one that is read. -/
def RdS (w : World) (b0 b1 b2 : Nat) (cs : Array Value) (v : World) : Prop := Is v b0 36 zerC ∧ Is v b1 36 zerC ∧ Is v b2 36 cs ∧ But [] w v
section
variable {w v v' : World} {b0 b1 b2 : Nat} {cs : Array Value}
theorem RdS.but (h : RdS w b0 b1 b2 cs v) (k : But [] v v') : RdS w b0 b1 b2 cs v' := ⟨h.1.but k (by simp), h.2.1.but k (by simp), h.2.2.1.but k (by simp), h.2.2.2.trans k⟩
theorem RdS.alloc (h : RdS w b0 b1 b2 cs v) (o : Obj) : RdS w b0 b1 b2 cs (v.alloc o) := h.but ((But.refl [] v).alloc o)
theorem RdS.drew (h : RdS w b0 b1 b2 cs v) : RdS w b0 b1 b2 cs v.drew := h.but ((But.refl [] v).drew)
theorem RdS.put (h : RdS w b0 b1 b2 cs v) (hb : w.heap.size ≤ b2) (h0 : b0 ≠ b2) (h1 : b1 ≠ b2) (i : Nat) (u : Value) : RdS w b0 b1 b2 (cs.setIfInBounds i u) (v.setCell ⟨b2, i, none⟩ u) :=
  ⟨h.1.far (p := ⟨b2, i, none⟩) h0 u, h.2.1.far (p := ⟨b2, i, none⟩) h1 u, h.2.2.1.put i u, h.2.2.2.setCell (p := ⟨b2, i, none⟩) (.inr hb) u⟩
theorem own_notShape {base n size : Nat} {u : Value} {xs : List Value} {b : Nat} {c : Array Value} (h : v.ownsRow base 5 size u n xs) (k : Is v b 36 c) : some b ≠ u.ownBlock := by
  rcases h.2 with ⟨rfl, _⟩ | ⟨g, cap, cur, rfl, _, hg, _⟩
  · simp [Value.ownBlock]
  · intro e
    have e' : b = g := by simpa [Value.ownBlock] using e
    subst e'
    have := (Obj.cells.inj (Option.some.inj (k.symm.trans hg))).2.1
    exact absurd this (by decide)
theorem RdS.grown {D : List UInt8} {u : Value} (h : RdS w b0 b1 b2 cs v) (hO : OwnY v w.heap.size u D) (hg : v.grownBy v' u.ownBlock) : RdS w b0 b1 b2 cs v' :=
  ⟨h.1.grown hg (own_notShape hO h.1), h.2.1.grown hg (own_notShape hO h.2.1), h.2.2.1.grown hg (own_notShape hO h.2.2.1), h.2.2.2.grown hg (fun g e => .inr (World.ownsRow.lt hO g e).1)⟩
theorem OwnY.keepS {D : List UInt8} {u x : Value} {i : Nat} (hO : OwnY v w.heap.size u D) (k : Is v b2 36 cs) : OwnY (v.setCell ⟨b2, i, none⟩ x) w.heap.size u D :=
  ownsRow_but (S := [b2]) hO ((But.refl [b2] v).setCell (p := ⟨b2, i, none⟩) (.inl (by simp)) x) (fun g e hm => own_notShape hO k (by rw [List.mem_singleton.1 hm] at e; exact e.symm))
end
theorem strL_nilH : strL [] = ⟨#[]⟩ := rfl
theorem own_textL {w : World} {base : Nat} {v : Value} {L : List UInt8} (h : OwnY w base v L) : (convert 48 9 v).run Try.prog w = .ok (.string (strL L)) w := own_text h
/-- A way out with an error: the empty shape is laid into the answer. -/
theorem read_ret {w W : World} {b0 : Nat} {tmps : Array Value} {er : Int} {r : List Int × HS × Int} (hI : Is W b0 36 zerC) (hB : But [] w W)
    (h2 : tmps[2]? = some (.pointer (some ⟨b0, 0, none⟩))) (h3 : tmps[3]? = some (.string ⟨#[]⟩)) (h4 : tmps[4]? = some (.int .i64 er)) (hr : r = ([], hs0, er)) :
    bodyPost Try.prog Try.f18 (GotH w r) Exit.ret { tmps := tmps, defers := [] } W := by
  have e0 := hI.cell 0
  have e1 := hI.cell 1
  have e2 := hI.cell 2
  have e3 := hI.cell 3
  have e4 := hI.cell 4
  have e5 := hI.cell 5
  have e6 := hI.cell 6
  have e7 := hI.cell 7
  unfold zerC at e0 e1 e2 e3 e4 e5 e6 e7
  refine bodyPost_ret (v := .tuple #[.agg #[.int .i64 0, .int .i64 0, .int .i64 0, .int .i64 0, .int .i64 0, .string ⟨#[]⟩, .string ⟨#[]⟩, .bool false], .string ⟨#[]⟩, .int .i64 er]) ?_ rfl ?_
  · simp [results, Try.results18, go_sem, e0, e1, e2, e3, e4, e5, e6, e7, h2, h3, h4]
  · rw [hr]; exact ⟨rfl, hB⟩
/-- Its world. -/
theorem zero_put {w W : World} {b0 : Nat} (hI : Is W b0 36 zerC) (hB : But [] w W) (hb : w.heap.size ≤ b0) :
    Is ((((((((W.setCell ⟨b0, 0, none⟩ (.int .i64 0)).setCell ⟨b0, 1, none⟩ (.int .i64 0)).setCell ⟨b0, 2, none⟩ (.int .i64 0)).setCell ⟨b0, 3, none⟩ (.int .i64 0)).setCell ⟨b0, 4, none⟩ (.int .i64 0)).setCell ⟨b0, 5, none⟩ (.string ⟨#[]⟩)).setCell ⟨b0, 6, none⟩ (.string ⟨#[]⟩)).setCell ⟨b0, 7, none⟩ (.bool false)) b0 36 zerC ∧
    But [] w ((((((((W.setCell ⟨b0, 0, none⟩ (.int .i64 0)).setCell ⟨b0, 1, none⟩ (.int .i64 0)).setCell ⟨b0, 2, none⟩ (.int .i64 0)).setCell ⟨b0, 3, none⟩ (.int .i64 0)).setCell ⟨b0, 4, none⟩ (.int .i64 0)).setCell ⟨b0, 5, none⟩ (.string ⟨#[]⟩)).setCell ⟨b0, 6, none⟩ (.string ⟨#[]⟩)).setCell ⟨b0, 7, none⟩ (.bool false)) :=
  ⟨(((((((hI.put 0 _).put 1 _).put 2 _).put 3 _).put 4 _).put 5 _).put 6 _).put 7 _,
   (((((((hB.setCell (p := ⟨b0, 0, none⟩) (.inr hb) _).setCell (p := ⟨b0, 1, none⟩) (.inr hb) _).setCell (p := ⟨b0, 2, none⟩) (.inr hb) _).setCell (p := ⟨b0, 3, none⟩) (.inr hb) _).setCell (p := ⟨b0, 4, none⟩) (.inr hb) _).setCell (p := ⟨b0, 5, none⟩) (.inr hb) _).setCell (p := ⟨b0, 6, none⟩) (.inr hb) _).setCell (p := ⟨b0, 7, none⟩) (.inr hb) _⟩
/-- A shape is laid where an empty one lay. -/
theorem shp_put {w W : World} {b0 b1 b2 : Nat} (hI : Is W b2 36 zerC) (h0 : Is W b0 36 zerC) (h1 : Is W b1 36 zerC) (hB : But [] w W) (hb : w.heap.size ≤ b2) (n0 : b0 ≠ b2) (n1 : b1 ≠ b2) (v0 v1 v2 v3 v4 v5 v6 v7 : Value) :
    RdS w b0 b1 b2 #[v0, v1, v2, v3, v4, v5, v6, v7] ((((((((W.setCell ⟨b2, 0, none⟩ v0).setCell ⟨b2, 1, none⟩ v1).setCell ⟨b2, 2, none⟩ v2).setCell ⟨b2, 3, none⟩ v3).setCell ⟨b2, 4, none⟩ v4).setCell ⟨b2, 5, none⟩ v5).setCell ⟨b2, 6, none⟩ v6).setCell ⟨b2, 7, none⟩ v7) := by
  have h : RdS w b0 b1 b2 zerC W := ⟨h0, h1, hI, hB⟩
  have a0 := h.put hb n0 n1 0 v0
  have a1 := a0.put hb n0 n1 1 v1
  have a2 := a1.put hb n0 n1 2 v2
  have a3 := a2.put hb n0 n1 3 v3
  have a4 := a3.put hb n0 n1 4 v4
  have a5 := a4.put hb n0 n1 5 v5
  have a6 := a5.put hb n0 n1 6 v6
  have a7 := a6.put hb n0 n1 7 v7
  have e : (((((((zerC.setIfInBounds 0 v0).setIfInBounds 1 v1).setIfInBounds 2 v2).setIfInBounds 3 v3).setIfInBounds 4 v4).setIfInBounds 5 v5).setIfInBounds 6 v6).setIfInBounds 7 v7 = #[v0, v1, v2, v3, v4, v5, v6, v7] := by
    unfold zerC
    simp
  rw [e] at a7
  exact a7
/-- Bytes behind bytes of the call's own; which row was written. -/
theorem wpList_append_yk {w0 : World} (w : World) {ops : Array Oper} {rest : List Oper} {o : Oper} {a : Act} {Q : Exit → Act → World → Prop} (hgd : o.guard = none) (sl x : Operand)
    (ho : o.op = .call { callee := .builtin .append, args := #[sl, x], argTypes := #[48, 9] })
    {i : TypeInfo} (hi : Try.prog.info? 5 = some i) (hz : i.zero = some (.int .u8 0)) (hsize : i.size = 1) (hby : i.bytes = 1) (v : Value) (L : List UInt8) (hs : a.eval sl = v) (hO : OwnY w w0.heap.size v L) (hB : But [] w0 w) (X : List UInt8) (hx : a.eval x = .string (strL X))
    (hbound : L.length + X.length ≤ 140737488355328)
    (h : ∀ v' w', OwnY w' w0.heap.size v' (L ++ X) → w.grownBy w' v.ownBlock → wpList Try.prog ops Q rest (a.put o.dst v') w') : wpList Try.prog ops Q (o :: rest) a w := by
  refine wpList_plain hgd fun K hK => ?_
  obtain ⟨v', w', hr, h2, h3, _⟩ := run_append_str (P := Try.prog) w w0.heap.size 48 9 o.type 5 i Try.underlying48 Try.underlying9 hi hz hsize hby v L.length (cellsOf L) hO (strL X) (by rw [strL_size]; exact hbound) hB.size
  have h4 := OwnY.strd hB hO h2 h3
  rw [strL_list] at h4
  unfold Oper.wp execOp
  simp only [ho, resolve, invoke, builtin, Sem.run_bind, Sem.run_pure, Result.andThen_ok, List.map_toArray, List.map_cons, List.map_nil, hs, hx, hr]
  exact hK _ _ (h v' w' h4.1 h3)
end Go.Proofs.Ytedffeimcccobaa
