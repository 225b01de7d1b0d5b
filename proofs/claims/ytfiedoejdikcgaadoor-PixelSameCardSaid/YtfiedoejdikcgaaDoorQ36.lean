/- Several texts in one: FiM, LaM, SaM, PiM, Mem, PxM, PxT, RegT (what PixelSame reach of them). -/
import Derived.Test.YtfiedoejdikcgaaDoorQ01
import Derived.Test.YtfiedoejdikcgaaDoorQ02
import Derived.Test.YtfiedoejdikcgaaDoorQ06
import Derived.Test.YtfiedoejdikcgaaDoorQ17
import Derived.Test.YtfiedoejdikcgaaDoorQ23
import Derived.Test.YtfiedoejdikcgaaDoorQ26
import Derived.Test.YtfiedoejdikcgaaDoorQ27
import Derived.Below
import Derived.BigQuiet
import Derived.BigRegion
import Derived.Deep.AppendLies
import Derived.Deep.CutBlock
import Derived.Deep.CutRange
import Derived.Deep.DeepCutAuto
import Derived.Deep.Draws
import Derived.Deep.QuietTactic
import Derived.Deep.RegionLaw
import Derived.Deep.RegionWith
import Derived.Handy
import Derived.Laws.BitsAllLaws
import Derived.Laws.BitsLemmas
import Derived.Laws.BytesArg
import Derived.Laws.IdiomStrings
import Derived.Laws.MakeOwn
import Derived.Laws.OwnMore
import Derived.Laws.Rows
import Derived.Laws.StructEq
import Derived.Lib.AppendStr
import Derived.Lib.BufferWrite
import Derived.Lib.Hide
import Derived.LoopIn
import Derived.LoopNIn
import Derived.Maps.AppendAt
import Derived.OrdersHeld
import Derived.OrdersIn
import Derived.Outline
import Derived.OwnWalk
import Derived.OwnWalkIn
import Derived.RangeFuncBound
import Derived.RangeFuncCalls
import Derived.RangeFuncLeaves
import Derived.RangeFuncNested
import Derived.RegionTactic
import Derived.Shelf.Abstract
import Derived.Shelf.RegionOpen
import Derived.Sort.CutIn
import Derived.TacticsInMore
import Derived.Test.YtfiedoejdikcgaaDoorChecked
import Derived.WalkKit
set_option maxRecDepth 100000
set_option linter.unusedVariables false
set_option linter.unusedVariables false
namespace Go.Proofs.YtfiedoejdikcgaaDoor
set_option maxRecDepth 100000
open Go
theorem sub_add_u8 (x y : UInt8) : x - y + y = x := by
  apply UInt8.toNat_inj.1
  rw [UInt8.toNat_add, UInt8.toNat_sub]
  have := x.toNat_lt; have := y.toNat_lt
  omega
/-- Undoing what was done is the line. -/
theorem undo_do {kind : Int} {bpp : Nat} (hb : 1 ≤ bpp) (line above : List UInt8) : undoF kind bpp (doF kind bpp line above) above = line := by
  have hl : (undoF kind bpp (doF kind bpp line above) above).length = line.length := by rw [undoF_length, doF_length]
  have key : ∀ n i, i < n → i < line.length → (undoF kind bpp (doF kind bpp line above) above).getD i 0 = line.getD i 0 := by
    intro n
    induction n with
    | zero => intro i h; exact absurd h (by omega)
    | succ n ih =>
      intro i h hi
      rw [undoF_at hb above _ i (by rw [doF_length]; exact hi), doF_at _ _ _ _ hi,
        foreF_eq hb (s := undoF kind bpp (doF kind bpp line above) above) (t := line) (fun j hj => ih j (by omega) (by omega)), sub_add_u8]
  exact ext_getD hl fun i hi => key (i + 1) i (by omega) (by omega)
end Go.Proofs.YtfiedoejdikcgaaDoor
set_option linter.unusedVariables false
namespace Go.Proofs.YtfiedoejdikcgaaDoor
set_option maxRecDepth 100000
open Go
/-- The places of a pass, row by row. -/
def visP (w h : Nat) (p : PassL) : List (Nat × Nat) := (List.range (manyL h p.y p.dy)).flatMap fun j => (List.range (manyL w p.x p.dx)).map fun i => (p.x + i * p.dx, p.y + j * p.dy)
def visL (w h : Nat) (l : List PassL) : List (Nat × Nat) := l.flatMap (visP w h)
theorem mem_visP {w h : Nat} {p : PassL} (hp : OkP p) (a b : Nat) : (a, b) ∈ visP w h p ↔ a < w ∧ b < h ∧ a % p.dx = p.x ∧ b % p.dy = p.y := by
  obtain ⟨hx, hy⟩ := hp
  unfold visP
  simp only [List.mem_flatMap, List.mem_map, List.mem_range, Prod.mk.injEq]
  constructor
  · rintro ⟨j, hj, i, hi, e1, e2⟩
    have hj' := (manyL_lt (by omega) j).1 hj
    have hi' := (manyL_lt (by omega) i).1 hi
    subst e1 e2
    exact ⟨hi', hj', by rw [Nat.add_mul_mod_self_right, Nat.mod_eq_of_lt hx], by rw [Nat.add_mul_mod_self_right, Nat.mod_eq_of_lt hy]⟩
  · rintro ⟨ha, hb, e1, e2⟩
    have ea : p.x + a / p.dx * p.dx = a := by rw [← e1, Nat.mul_comm]; exact Nat.mod_add_div a p.dx
    have eb : p.y + b / p.dy * p.dy = b := by rw [← e2, Nat.mul_comm]; exact Nat.mod_add_div b p.dy
    exact ⟨b / p.dy, (manyL_lt (by omega) _).2 (by rw [eb]; exact hb), a / p.dx, (manyL_lt (by omega) _).2 (by rw [ea]; exact ha), ea, eb⟩
theorem nodup_visP {w h : Nat} {p : PassL} (hp : OkP p) : (visP w h p).Nodup := by
  obtain ⟨hx, hy⟩ := hp
  unfold visP List.Nodup
  rw [List.pairwise_flatMap]
  constructor
  · intro j _
    rw [List.pairwise_map]
    refine List.Pairwise.imp ?_ (List.nodup_range (n := manyL w p.x p.dx))
    intro a b hab e
    have := (Prod.mk.inj e).1
    exact hab (Nat.eq_of_mul_eq_mul_right (show 0 < p.dx by omega) (by omega))
  · refine List.Pairwise.imp ?_ (List.nodup_range (n := manyL h p.y p.dy))
    intro a b hab u hu v hv e
    subst e
    obtain ⟨_, _, rfl⟩ := List.mem_map.1 hu
    obtain ⟨_, _, e2⟩ := List.mem_map.1 hv
    have := (Prod.mk.inj e2).2
    exact hab (Nat.eq_of_mul_eq_mul_right (show 0 < p.dy by omega) (by omega))
theorem nodup_visL {w h : Nat} {l : List PassL} (hl : Whole l) : (visL w h l).Nodup := by
  unfold visL List.Nodup
  rw [List.pairwise_flatMap]
  refine ⟨fun p hp => nodup_visP (hl.1 p hp), ?_⟩
  refine List.Pairwise.imp_of_mem ?_ hl.2.2
  intro p q hp hq hpq u hu v hv e
  subst e
  obtain ⟨a, b⟩ := u
  obtain ⟨_, _, h1, h2⟩ := (mem_visP (hl.1 p hp) a b).1 hu
  obtain ⟨_, _, h3, h4⟩ := (mem_visP (hl.1 q hq) a b).1 hv
  exact hpq a b ⟨⟨h1, h2⟩, h3, h4⟩
theorem mem_visL {w h : Nat} {l : List PassL} (hl : Whole l) (a b : Nat) : (a, b) ∈ visL w h l ↔ a < w ∧ b < h := by
  unfold visL
  rw [List.mem_flatMap]
  constructor
  · rintro ⟨p, hp, hm⟩
    obtain ⟨h1, h2, _⟩ := (mem_visP (hl.1 p hp) a b).1 hm
    exact ⟨h1, h2⟩
  · rintro ⟨h1, h2⟩
    obtain ⟨p, hp, h3, h4⟩ := hl.2.1 a b
    exact ⟨p, hp, (mem_visP (hl.1 p hp) a b).2 ⟨h1, h2, h3, h4⟩⟩
end Go.Proofs.YtfiedoejdikcgaaDoor
set_option linter.unusedVariables false
namespace Go.Proofs.YtfiedoejdikcgaaDoor
set_option maxRecDepth 100000
open Go
/-- The bits of a number of bits are these. -/
theorem bitN_val {f : Nat → Nat} : ∀ {n : Nat}, (∀ b, b < n → f b < 2) → ∀ b, b < n → bitN (valN f n) (n - 1 - b) = f b := by
  intro n
  induction n with
  | zero => intro _ b hb; exact absurd hb (Nat.not_lt_zero _)
  | succ n ih =>
    intro h b hb
    by_cases hn : b = n
    · subst hn
      have := h b (by omega)
      unfold bitN
      show (2 * valN f b + f b) / 2 ^ (b + 1 - 1 - b) % 2 = f b
      rw [show b + 1 - 1 - b = 0 by omega, Nat.pow_zero, Nat.div_one]; omega
    · have hl := h n (by omega)
      have hi := ih (fun b hb => h b (by omega)) b (by omega)
      unfold bitN at hi ⊢
      show (2 * valN f n + f n) / 2 ^ (n + 1 - 1 - b) % 2 = f b
      rw [show n + 1 - 1 - b = (n - 1 - b) + 1 by omega, Nat.pow_succ, Nat.mul_comm (2 ^ (n - 1 - b)) 2, ← Nat.div_div_eq_div_mul,
        show (2 * valN f n + f n) / 2 = valN f n by omega, hi]
/-- The bits of a row of samples are those of the samples. -/
theorem rowBit_pack (depth : Nat) (l : List Nat) {k : Nat} (hk : k / 8 < (l.length * depth + 7) / 8) : rowBit (packT depth l) k = packBit depth l k := by
  unfold rowBit
  rw [packT_at _ _ hk]
  have h := bitN_val (f := fun b => packBit depth l (8 * (k / 8) + b)) (n := 8) (fun b _ => packBit_lt _ _ _) (k % 8) (Nat.mod_lt _ (by decide))
  rw [show 7 - k % 8 = 8 - 1 - k % 8 from rfl, h]
  show packBit depth l (8 * (k / 8) + k % 8) = _
  rw [Nat.div_add_mod]
theorem sample_pack {depth : Nat} (hd : 1 ≤ depth) (l : List Nat) {i : Nat} (hi : i < l.length) : sampleN (packT depth l) depth i = l.getD i 0 % 2 ^ depth := by
  unfold sampleN
  rw [← valN_bits]
  refine valN_congr fun b hb => ?_
  have hlt : i * depth + b < l.length * depth := by
    have : (i + 1) * depth ≤ l.length * depth := Nat.mul_le_mul_right _ hi
    rw [Nat.succ_mul] at this
    omega
  rw [rowBit_pack _ _ (by omega)]
  unfold packBit
  rw [if_pos hlt]
  have e1 : (i * depth + b) / depth = i := by rw [Nat.mul_comm, Nat.mul_add_div (by omega), Nat.div_eq_of_lt hb, Nat.add_zero]
  have e2 : (i * depth + b) % depth = b := by rw [Nat.mul_comm, Nat.mul_add_mod, Nat.mod_eq_of_lt hb]
  rw [e1, e2]
end Go.Proofs.YtfiedoejdikcgaaDoor
set_option linter.unusedVariables false
namespace Go.Proofs.YtfiedoejdikcgaaDoor
set_option maxRecDepth 100000
open Go
theorem posJ_rowsP (w h : Nat) (p : PassL) : (rowsP w h p).flatMap posJ = visP w h p := by
  unfold rowsP visP
  by_cases h0 : manyL w p.x p.dx = 0
  · rw [if_pos h0, h0]
    simp
  · rw [if_neg h0, List.flatMap_map]
    rfl
theorem posJ_jobsL (w h : Nat) (l : List PassL) : (jobsL w h l).flatMap posJ = visL w h l := by
  unfold jobsL visL
  rw [List.flatMap_assoc]
  congr 1
  funext p
  exact posJ_rowsP w h p
theorem setN_at {pix : List UInt8} {k : Nat} {q : List UInt8} (h : k + q.length ≤ pix.length) (i : Nat) : (setN pix k q).getD i 0 = if k ≤ i ∧ i < k + q.length then q.getD (i - k) 0 else pix.getD i 0 := by
  unfold setN
  have ht : (pix.take k).length = k := by rw [List.length_take]; omega
  simp only [List.getD_eq_getElem?_getD]
  by_cases h1 : i < k
  · rw [if_neg (by omega), List.getElem?_append_left (by omega), List.getElem?_take_of_lt h1]
  · rw [List.getElem?_append_right (by omega), ht]
    by_cases h2 : i < k + q.length
    · rw [if_pos (by omega), List.getElem?_append_left (by omega)]
    · rw [if_neg (by omega), List.getElem?_append_right (by omega), List.getElem?_drop]
      congr 2
      omega
theorem bppN_pos (S : ShP) : 1 ≤ bppN S := Nat.le_max_left _ _
theorem kindP_le {S : ShP} {kind : Nat → Int} (h : ∀ k, kind k ≤ 4) (k : Nat) (line above : List UInt8) : kindP S kind k line above ≤ 4 := by
  unfold kindP
  split
  · exact pickF_le _ _ _
  · have := h k; omega
theorem sampsL_pack {S : ShP} (hd : 1 ≤ S.d) {v : List Nat} (hv : ∀ k, v.getD k 0 < 2 ^ S.d) (j : RowJ) {x : Nat} (hx : x < j.n) : sampsL S (packT S.d (rowV S v j)) x = valsV S v (j.x + x * j.dx) j.y := by
  unfold sampsL valsV
  refine List.map_congr_left fun i hi => ?_
  have hi' : i < samplesN S.c := List.mem_range.1 hi
  have hl := rowV_length S v j
  have hlt : samplesN S.c * x + i < (rowV S v j).length := by
    rw [hl]
    have : samplesN S.c * (x + 1) ≤ samplesN S.c * j.n := Nat.mul_le_mul_left _ hx
    rw [Nat.mul_add, Nat.mul_one] at this
    omega
  rw [sample_pack hd _ hlt, rowV_at S v j hx hi', Nat.mod_eq_of_lt (hv _)]
/-- The pixels of places, put into an image. -/
def placeP (S : ShP) (v : List Nat) : List (Nat × Nat) → List UInt8 → List UInt8 × Int
  | [], pix => (pix, 0)
  | p :: ps, pix => if (pixS S (valsV S v p.1 p.2)).2 ≠ 0 then ([], (pixS S (valsV S v p.1 p.2)).2) else placeP S v ps (setN pix (8 * (p.2 * S.w + p.1)) (pixS S (valsV S v p.1 p.2)).1)
theorem placeP_cons (S : ShP) (v : List Nat) (p : Nat × Nat) (ps : List (Nat × Nat)) (pix : List UInt8) : placeP S v (p :: ps) pix = if (pixS S (valsV S v p.1 p.2)).2 ≠ 0 then ([], (pixS S (valsV S v p.1 p.2)).2) else placeP S v ps (setN pix (8 * (p.2 * S.w + p.1)) (pixS S (valsV S v p.1 p.2)).1) := rfl
theorem placeP_append (S : ShP) (v : List Nat) : ∀ (a b : List (Nat × Nat)) (pix : List UInt8), placeP S v (a ++ b) pix = if (placeP S v a pix).2 ≠ 0 then ([], (placeP S v a pix).2) else placeP S v b (placeP S v a pix).1 := by
  intro a
  induction a with
  | nil => intro b pix; show _ = if (0 : Int) ≠ 0 then _ else _; rw [if_neg (by decide)]; rfl
  | cons p a ih =>
    intro b pix
    rw [List.cons_append, placeP_cons, placeP_cons]
    by_cases h : (pixS S (valsV S v p.1 p.2)).2 ≠ 0
    · rw [if_pos h, if_pos h, if_pos h]
    · rw [if_neg h, if_neg h, ih]
theorem pixGo_place {S : ShP} {v : List Nat} {line : List UInt8} {j : RowJ} (h : ∀ x, x < j.n → sampsL S line x = valsV S v (j.x + x * j.dx) j.y) :
    ∀ (m x : Nat) (pix : List UInt8), x + m = j.n → pixGo S line j m x pix = placeP S v ((List.range' x m).map fun i => (j.x + i * j.dx, j.y)) pix := by
  intro m
  induction m with
  | zero => intro x pix _; rfl
  | succ m ih =>
    intro x pix hx
    rw [List.range'_succ, List.map_cons]
    unfold pixGo placeP
    rw [h x (by omega)]
    dsimp only
    rw [ih (x + 1) _ (by omega)]
theorem pixGo_all {S : ShP} {v : List Nat} {line : List UInt8} {j : RowJ} (h : ∀ x, x < j.n → sampsL S line x = valsV S v (j.x + x * j.dx) j.y) (pix : List UInt8) : pixGo S line j j.n 0 pix = placeP S v (posJ j) pix := by
  rw [pixGo_place h _ _ _ (by omega)]
  unfold posJ
  rw [List.range_eq_range']
/-- Rows of samples that are packed, with whatever kinds of filters, say these samples. -/
theorem runI_pack {S : ShP} (hd : 1 ≤ S.d) {v : List Nat} (hv : ∀ k, v.getD k 0 < 2 ^ S.d) {kind : Nat → Int} (hk : ∀ k, kind k ≤ 4) :
    ∀ (js : List RowJ) (k : Nat) (above rest pix : List UInt8), runI S js (packI S v kind js k above ++ rest) above pix = placeP S v (js.flatMap posJ) pix := by
  intro js
  induction js with
  | nil => intro k above rest pix; rfl
  | cons j js ih =>
    intro k above rest pix
    unfold packI runI
    generalize hL : packT S.d (rowV S v j) = line
    generalize hA : (if j.first = true then ([] : List UInt8) else above) = ab
    have hkd := kindP_le (S := S) hk k line ab
    generalize kindP S kind k line ab = kd at hkd
    have hk8 : (UInt8.ofNat kd).toNat = kd := by rw [UInt8.toNat_ofNat']; omega
    have hll : line.length = rowLen S j.n := by
      rw [← hL, packT_length, rowV_length]
      unfold rowLen
      rw [Nat.mul_comm, ← Nat.mul_assoc, Nat.mul_comm S.d]
    have hdl : (doF (kd : Nat) (bppN S) line ab).length = rowLen S j.n := by rw [doF_length, hll]
    have e0 : ((UInt8.ofNat kd :: (doF (kd : Nat) (bppN S) line ab ++ packI S v kind js (k + 1) line)) ++ rest).getD 0 0 = UInt8.ofNat kd := rfl
    have e1 : ((UInt8.ofNat kd :: (doF (kd : Nat) (bppN S) line ab ++ packI S v kind js (k + 1) line)) ++ rest).drop 1 = doF (kd : Nat) (bppN S) line ab ++ (packI S v kind js (k + 1) line ++ rest) := by
      rw [List.cons_append, List.drop_succ_cons, List.drop_zero, List.append_assoc]
    have e2 : ((UInt8.ofNat kd :: (doF (kd : Nat) (bppN S) line ab ++ packI S v kind js (k + 1) line)) ++ rest).drop (1 + rowLen S j.n) = packI S v kind js (k + 1) line ++ rest := by
      rw [← List.drop_drop, e1, ← hdl, List.drop_left]
    rw [e0, hk8, e1, e2]
    have e3 : (doF (kd : Nat) (bppN S) line ab ++ (packI S v kind js (k + 1) line ++ rest)).take (rowLen S j.n) = doF (kd : Nat) (bppN S) line ab := by rw [← hdl, List.take_left]
    rw [e3, undo_do (bppN_pos S), if_neg (by omega), pixGo_all (v := v) (fun x hx => by rw [← hL]; exact sampsL_pack hd hv j hx), List.flatMap_cons, placeP_append]
    by_cases h : (placeP S v (posJ j) pix).2 ≠ 0
    · rw [if_pos h, if_pos h]
    · rw [if_neg h, if_neg h, ih]
theorem placeP_err (S : ShP) (v : List Nat) : ∀ (ps : List (Nat × Nat)) (pix : List UInt8), (placeP S v ps pix).2 = 0 ∧ (∀ p, p ∈ ps → (pixS S (valsV S v p.1 p.2)).2 = 0) ∨ placeP S v ps pix = ([], 29) ∧ ∃ p, p ∈ ps ∧ pixS S (valsV S v p.1 p.2) = ([], 29) := by
  intro ps
  induction ps with
  | nil => intro pix; left; exact ⟨rfl, fun p hp => absurd hp (by simp)⟩
  | cons p ps ih =>
    intro pix
    rw [placeP_cons]
    rcases pixS_cases S (valsV S v p.1 p.2) with ⟨h0, _⟩ | h29
    · rw [if_neg (by rw [h0]; decide)]
      rcases ih (setN pix (8 * (p.2 * S.w + p.1)) (pixS S (valsV S v p.1 p.2)).1) with ⟨a, b⟩ | ⟨a, q, b, c⟩
      · left
        refine ⟨a, fun q hq => ?_⟩
        rcases List.mem_cons.1 hq with rfl | hq
        · exact h0
        · exact b q hq
      · right; exact ⟨a, q, List.mem_cons_of_mem _ b, c⟩
    · right
      rw [if_pos (by rw [h29]; decide), h29]
      exact ⟨rfl, p, List.mem_cons_self .., h29⟩
theorem place_apart {w a b a' b' : Nat} (ha : a < w) (ha' : a' < w) (h : b * w + a = b' * w + a') : a = a' ∧ b = b' := by
  have h1 : (b * w + a) % w = (b' * w + a') % w := by rw [h]
  rw [Nat.mul_comm b, Nat.mul_comm b', Nat.mul_add_mod, Nat.mul_add_mod, Nat.mod_eq_of_lt ha, Nat.mod_eq_of_lt ha'] at h1
  subst h1
  have h2 : b * w = b' * w := by omega
  exact ⟨rfl, Nat.eq_of_mul_eq_mul_right (by omega) h2⟩
theorem placeP_is {S : ShP} {v : List Nat} : ∀ (ps : List (Nat × Nat)) (pix : List UInt8), pix.length = 8 * (S.w * S.h) → ps.Nodup → (∀ p, p ∈ ps → p.1 < S.w ∧ p.2 < S.h) → (placeP S v ps pix).2 = 0 →
    (placeP S v ps pix).1.length = 8 * (S.w * S.h) ∧ (∀ p, p ∈ ps → ∀ t, t < 8 → (placeP S v ps pix).1.getD (8 * (p.2 * S.w + p.1) + t) 0 = (pixS S (valsV S v p.1 p.2)).1.getD t 0) ∧
    ∀ a b, a < S.w → b < S.h → (a, b) ∉ ps → ∀ t, t < 8 → (placeP S v ps pix).1.getD (8 * (b * S.w + a) + t) 0 = pix.getD (8 * (b * S.w + a) + t) 0 := by
  intro ps
  induction ps with
  | nil => intro pix hl _ _ _; exact ⟨hl, fun p hp => absurd hp (by simp), fun _ _ _ _ _ _ _ => rfl⟩
  | cons p ps ih =>
    intro pix hl hn hb h0
    obtain ⟨hpn, hn'⟩ := List.nodup_cons.1 hn
    rw [placeP_cons] at h0 ⊢
    rcases pixS_cases S (valsV S v p.1 p.2) with ⟨k0, k8⟩ | h29
    · rw [if_neg (by rw [k0]; decide)] at h0 ⊢
      obtain ⟨hp1, hp2⟩ := hb p (List.mem_cons_self ..)
      have hroom : 8 * (p.2 * S.w + p.1) + (pixS S (valsV S v p.1 p.2)).1.length ≤ pix.length := by
        rw [k8, hl]
        have : (p.2 + 1) * S.w ≤ S.h * S.w := Nat.mul_le_mul_right _ hp2
        rw [Nat.add_mul, Nat.one_mul] at this
        rw [Nat.mul_comm S.w]
        omega
      obtain ⟨a1, a2, a3⟩ := ih (setN pix (8 * (p.2 * S.w + p.1)) (pixS S (valsV S v p.1 p.2)).1) (by rw [setN_length hroom, hl]) hn' (fun q hq => hb q (List.mem_cons_of_mem _ hq)) h0
      refine ⟨a1, fun q hq t ht => ?_, fun a b ha hb' hm t ht => ?_⟩
      · rcases List.mem_cons.1 hq with rfl | hq
        · rw [a3 q.1 q.2 hp1 hp2 hpn t ht, setN_at hroom, if_pos (by rw [k8]; omega)]
          congr 1
          omega
        · exact a2 q hq t ht
      · rw [a3 a b ha hb' (fun h => hm (List.mem_cons_of_mem _ h)) t ht, setN_at hroom, if_neg]
        rintro ⟨c1, c2⟩
        rw [k8] at c2
        obtain ⟨e1, e2⟩ := place_apart ha hp1 (show b * S.w + a = p.2 * S.w + p.1 by omega)
        exact hm (by rw [e1, e2]; exact List.mem_cons_self ..)
    · rw [if_pos (by rw [h29]; decide), h29] at h0
      exact absurd h0 (by decide)
/-- All the pixels of an image, row by row. -/
theorem placeP_same {S : ShP} {v : List Nat} {l m : List PassL} (hl : Whole l) (hm : Whole m) (pix : List UInt8) (hp : pix.length = 8 * (S.w * S.h)) :
    placeP S v (visL S.w S.h l) pix = placeP S v (visL S.w S.h m) pix := by
  have mem : ∀ p : Nat × Nat, p ∈ visL S.w S.h l ↔ p ∈ visL S.w S.h m := fun p => by
    obtain ⟨a, b⟩ := p
    rw [mem_visL hl, mem_visL hm]
  rcases placeP_err S v (visL S.w S.h l) pix with ⟨a0, a1⟩ | ⟨a0, p, a1, a2⟩
  · rcases placeP_err S v (visL S.w S.h m) pix with ⟨b0, b1⟩ | ⟨b0, p, b1, b2⟩
    · obtain ⟨x1, x2, _⟩ := placeP_is _ pix hp (nodup_visL hl) (fun p h => (mem_visL hl p.1 p.2).1 h) a0
      obtain ⟨y1, y2, _⟩ := placeP_is _ pix hp (nodup_visL hm) (fun p h => (mem_visL hm p.1 p.2).1 h) b0
      have e : (placeP S v (visL S.w S.h l) pix).1 = (placeP S v (visL S.w S.h m) pix).1 := by
        refine ext_getD (by rw [x1, y1]) fun i hi => ?_
        rw [x1] at hi
        have hw : 0 < S.w := by
          rcases Nat.eq_zero_or_pos S.w with h | h
          · rw [h] at hi; omega
          · exact h
        have hdm := Nat.div_add_mod (i / 8) S.w
        have hmod := Nat.mod_lt (i / 8) hw
        have hin : (i / 8 % S.w, i / 8 / S.w) ∈ visL S.w S.h l := by
          rw [mem_visL hl]
          refine ⟨hmod, ?_⟩
          rw [Nat.div_lt_iff_lt_mul hw, Nat.mul_comm]
          omega
        have hi8 : i = 8 * (i / 8 / S.w * S.w + i / 8 % S.w) + i % 8 := by
          rw [Nat.mul_comm (i / 8 / S.w), hdm]
          omega
        have z1 := x2 _ hin (i % 8) (by omega)
        have z2 := y2 _ ((mem _).1 hin) (i % 8) (by omega)
        dsimp only at z1 z2
        rw [← hi8] at z1 z2
        rw [z1, z2]
      exact Prod.ext e (by rw [a0, b0])
    · have := a1 p ((mem p).2 b1)
      rw [b2] at this; exact absurd this (by decide)
  · rcases placeP_err S v (visL S.w S.h m) pix with ⟨b0, b1⟩ | ⟨b0, q, b1, b2⟩
    · have := b1 p ((mem p).1 a1)
      rw [a2] at this; exact absurd this (by decide)
    · rw [a0, b0]
/-- The same samples with any kinds of filters, laced or not, are the same raster. -/
theorem imgT_same {S : ShP} (hd : 1 ≤ S.d) {v : List Nat} (hv : ∀ k, v.getD k 0 < 2 ^ S.d) {k1 k2 : Nat → Int} (h1 : ∀ k, k1 k ≤ 4) (h2 : ∀ k, k2 k ≤ 4) {l m : List PassL} (hl : Whole l) (hm : Whole m) :
    imgT S l (packI S v k1 (jobsL S.w S.h l) 0 []) = imgT S m (packI S v k2 (jobsL S.w S.h m) 0 []) ∧ imgT S l (packI S v k1 (jobsL S.w S.h l) 0 []) = placeP S v (visL S.w S.h l) (List.replicate (8 * (S.w * S.h)) 0) := by
  have gen : ∀ (l : List PassL) (k1 : Nat → Int), (∀ k, k1 k ≤ 4) → imgT S l (packI S v k1 (jobsL S.w S.h l) 0 []) = placeP S v (visL S.w S.h l) (List.replicate (8 * (S.w * S.h)) 0) := by
    intro l k1 h1
    unfold imgT
    rw [packI_length, if_neg (Nat.lt_irrefl _), if_neg (Nat.lt_irrefl _)]
    have e := runI_pack hd hv h1 (jobsL S.w S.h l) 0 [] [] (List.replicate (8 * (S.w * S.h)) 0)
    rw [List.append_nil, posJ_jobsL] at e
    exact e
  refine ⟨?_, gen l k1 h1⟩
  rw [gen l k1 h1, gen m k2 h2]
  exact placeP_same hl hm _ (by rw [List.length_replicate])
end Go.Proofs.YtfiedoejdikcgaaDoor
namespace Go.Proofs.YtfiedoejdikcgaaDoor
set_option maxRecDepth 100000
open Go Go.RowKit
section
variable {w w' w'' : World} {b : Nat} {t : TypeId} {cs : Array Value} {S T : List Nat}
theorem Is.ne (h : Is w b t cs) {b' : Nat} {t' : TypeId} {cs' : Array Value} (h' : Is w b' t' cs') (hne : t ≠ t') : b ≠ b' := by
  rintro rfl
  exact hne (Obj.cells.inj (Option.some.inj (h.symm.trans h'))).2.1

variable {A : Option Addr} {n : Nat} {l : List UInt8}
end
end Go.Proofs.YtfiedoejdikcgaaDoor
set_option linter.unusedVariables false
namespace Go.Proofs.YtfiedoejdikcgaaDoor
set_option maxRecDepth 100000
open Go
theorem rowsP_none {w h : Nat} {p : PassL} (hn : someP w h p = false) : rowsP w h p = [] := by
  unfold rowsP
  by_cases h0 : manyL w p.x p.dx = 0
  · rw [if_pos h0]
  · rw [if_neg h0]
    have : manyL h p.y p.dy = 0 := by
      have h2 := of_decide_eq_false hn
      omega
    rw [this]
    rfl
theorem jobsL_some (w h : Nat) (l : List PassL) : jobsL w h (l.filter (someP w h)) = jobsL w h l := by
  unfold jobsL
  induction l with
  | nil => rfl
  | cons p l ih =>
    by_cases hp : someP w h p = true
    · rw [List.filter_cons_of_pos hp, List.flatMap_cons, List.flatMap_cons, ih]
    · rw [List.filter_cons_of_neg hp, List.flatMap_cons, ih, rowsP_none (by simpa using hp)]
      rfl
end Go.Proofs.YtfiedoejdikcgaaDoor
set_option maxRecDepth 100000
set_option linter.unusedVariables false
namespace Go.Proofs.YtfiedoejdikcgaaDoor
set_option maxRecDepth 100000
open Go
theorem whole_base (l : Int) : Whole (baseL l) := by unfold baseL; exact whole_of (decide (l = 1))
theorem imgT_some (S : ShP) (l : List PassL) (raw : List UInt8) : imgT S (l.filter (someP S.w S.h)) raw = imgT S l raw := by
  unfold imgT
  rw [jobsL_some]
theorem right_laced {a b d c : Int} (h : rightH a b d c 0 = 0) : rightH a b d c 1 = 0 := by
  have e : rightH a b d c 1 = rightH a b d c 0 := by unfold rightH; simp
  rw [e]; exact h
theorem RightP.laced {a b d c : Int} {W H D C : Nat} (R : RightP a b d c 0 W H D C) : RightP a b d c 1 W H D C :=
  ⟨R.wa, R.hb, R.dd, R.cc, R.w1, R.w2, R.h1, R.h2, R.area, .inr rfl, R.dep, R.d1, R.d16, R.col, R.sam, R.s1, R.s4⟩
/-- What is packed. -/
def rawK (W H D C : Nat) (l : Int) (pal tr : ByteArray) (has : Bool) (V : List Nat) (K : List Int) : ByteArray :=
  strL (packI ⟨W, H, D, C, pal.data.toList, tr.data.toList, has⟩ V (kindsK K) (jobsL W H ((baseL l).filter (someP W H))) 0 [])
theorem rawK_size {W H D C : Nat} {l : Int} {pal tr : ByteArray} {has : Bool} {V : List Nat} {K : List Int} (h0 : rightH (W : Int) H D C l = 0) (R : RightP (W : Int) H D C l W H D C) : (rawK W H D C l pal tr has V K).size ≤ 140737488351232 := by
  unfold rawK
  rw [strL_size]
  have := pack_total (V := V) (kd := kindsK K) pal.data.toList tr.data.toList has h0 R
  omega
theorem kindsK_le {K : List Int} (h : ∀ z, z ∈ K → z ≤ 4) (k : Nat) : kindsK K k ≤ 4 := by
  unfold kindsK
  rw [List.getD_eq_getElem?_getD]
  cases hk : K[k % K.length]? with
  | none => decide
  | some z => exact h z (List.mem_of_getElem? hk)
theorem img_place {W H D C : Nat} {l : Int} {pal tr : ByteArray} {has : Bool} {V : List Nat} {K : List Int} (h0 : rightH (W : Int) H D C l = 0) (R : RightP (W : Int) H D C l W H D C) (hv : ∀ k, V.getD k 0 < 2 ^ D) (hK : ∀ z, z ∈ K → z ≤ 4) :
    imgA W H D C l pal tr has (rawK W H D C l pal tr has V K) = placeP ⟨W, H, D, C, pal.data.toList, tr.data.toList, has⟩ V (visL W H (baseL l)) (List.replicate (8 * (W * H)) 0) := by
  rw [imgA_T h0 R]
  unfold rawK
  rw [strL_list, imgT_some ⟨W, H, D, C, pal.data.toList, tr.data.toList, has⟩, jobsL_some]
  exact (imgT_same (S := ⟨W, H, D, C, pal.data.toList, tr.data.toList, has⟩) R.d1 hv (kindsK_le hK) (kindsK_le hK) (whole_base l) (whole_base l)).2
/-- Whatever kinds of filters, laced or not. -/
theorem image_same {W H D C : Nat} {l1 l2 : Int} {pal tr : ByteArray} {has : Bool} {V : List Nat} {K1 K2 : List Int} (h1 : rightH (W : Int) H D C l1 = 0) (R1 : RightP (W : Int) H D C l1 W H D C) (h2 : rightH (W : Int) H D C l2 = 0) (R2 : RightP (W : Int) H D C l2 W H D C) (hv : ∀ k, V.getD k 0 < 2 ^ D) (hK1 : ∀ z, z ∈ K1 → z ≤ 4) (hK2 : ∀ z, z ∈ K2 → z ≤ 4) :
    imageA W H D C l1 pal tr has (rawK W H D C l1 pal tr has V K1) = imageA W H D C l2 pal tr has (rawK W H D C l2 pal tr has V K2) := by
  have e1 := img_place (pal := pal) (tr := tr) (has := has) h1 R1 hv hK1
  have e2 := img_place (pal := pal) (tr := tr) (has := has) h2 R2 hv hK2
  have e3 := placeP_same (S := ⟨W, H, D, C, pal.data.toList, tr.data.toList, has⟩) (v := V) (whole_base l1) (whole_base l2) (List.replicate (8 * (W * H)) 0) (by rw [List.length_replicate])
  unfold imageA
  rw [e1, e2, e3]
theorem pixS_no {S : ShP} {l : List Nat} (hc : S.c = 0 ∨ S.c = 2 ∨ S.c = 4 ∨ S.c = 6) : (pixS S l).2 ≠ 29 := by
  intro h
  have z : ¬ ((0 : Int) = 29) := by decide
  unfold pixS at h
  by_cases c0 : S.c = 0
  · rw [if_pos c0] at h; exact z h
  · rw [if_neg c0] at h
    by_cases c2 : S.c = 2
    · rw [if_pos c2] at h; exact z h
    · rw [if_neg c2] at h
      by_cases c4 : S.c = 4
      · rw [if_pos c4] at h; exact z h
      · rw [if_neg c4] at h
        by_cases c6 : S.c = 6
        · rw [if_pos c6] at h; exact z h
        · omega
/-- What may be wrong with samples that are packed: a place of a palette. -/
theorem image_wrong {W H D C : Nat} {l : Int} {pal tr : ByteArray} {has : Bool} {V : List Nat} {K : List Int} (h0 : rightH (W : Int) H D C l = 0) (R : RightP (W : Int) H D C l W H D C) (hv : ∀ k, V.getD k 0 < 2 ^ D) (hK : ∀ z, z ∈ K → z ≤ 4) (he : (imageA W H D C l pal tr has (rawK W H D C l pal tr has V K)).2 ≠ 0) :
    (imageA W H D C l pal tr has (rawK W H D C l pal tr has V K)).2 = 29 ∧ C = 3 := by
  have e1 := img_place (pal := pal) (tr := tr) (has := has) h0 R hv hK
  rcases placeP_err ⟨W, H, D, C, pal.data.toList, tr.data.toList, has⟩ V (visL W H (baseL l)) (List.replicate (8 * (W * H)) 0) with ⟨h, _⟩ | ⟨h, p, _, hp⟩
  · have : (imageA W H D C l pal tr has (rawK W H D C l pal tr has V K)).2 = 0 := by
      unfold imageA
      rw [e1, if_neg (by rw [h]; decide)]
    exact absurd this he
  · refine ⟨?_, ?_⟩
    · unfold imageA
      rw [e1, h, if_pos (by decide)]
    · have hp2 : (pixS ⟨W, H, D, C, pal.data.toList, tr.data.toList, has⟩ (valsV ⟨W, H, D, C, pal.data.toList, tr.data.toList, has⟩ V p.1 p.2)).2 = 29 := by rw [hp]
      rcases R.col with hC | hC | hC | hC | hC
      · exact absurd hp2 (pixS_no (.inl hC))
      · exact absurd hp2 (pixS_no (.inr (.inl hC)))
      · exact hC
      · exact absurd hp2 (pixS_no (.inr (.inr (.inl hC))))
      · exact absurd hp2 (pixS_no (.inr (.inr (.inr hC))))
/-- The samples that are gone through over and over. -/
def allS (n len D : Nat) (l : List Int) : List Nat := (List.range n).map fun i => ((l.getD (i % len) 0) % 2 ^ D).toNat
theorem allS_length (n len D : Nat) (l : List Int) : (allS n len D l).length = n := by unfold allS; rw [List.length_map, List.length_range]
theorem pow_natInt (D : Nat) : (2 : Int) ^ D = ((2 ^ D : Nat) : Int) := by simp
theorem allS_lt (n len D : Nat) (l : List Int) (k : Nat) : (allS n len D l).getD k 0 < 2 ^ D := by
  unfold allS
  rw [List.getD_eq_getElem?_getD, List.getElem?_map]
  have hp : 0 < 2 ^ D := Nat.two_pow_pos D
  cases (List.range n)[k]? with
  | none => exact hp
  | some i =>
    show ((l.getD (i % len) 0) % 2 ^ D).toNat < 2 ^ D
    rw [pow_natInt]
    have h1 := Int.emod_lt_of_pos (l.getD (i % len) 0) (show (0 : Int) < ((2 ^ D : Nat) : Int) by omega)
    have h2 := Int.emod_nonneg (l.getD (i % len) 0) (show ((2 ^ D : Nat) : Int) ≠ 0 by omega)
    omega
theorem allS_next {n len D i : Nat} {l : List Int} (h : i < n) : (allS n len D l).take (i + 1) = (allS n len D l).take i ++ [((l.getD (i % len) 0) % 2 ^ D).toNat] := by
  have e : (allS n len D l)[i]? = some (((l.getD (i % len) 0) % 2 ^ D).toNat) := by
    unfold allS
    rw [List.getElem?_map, List.getElem?_range h]
    rfl
  rw [List.take_add_one, e]
  rfl
end Go.Proofs.YtfiedoejdikcgaaDoor
set_option linter.unusedVariables false
namespace Go.Proofs.YtfiedoejdikcgaaDoor
set_option maxRecDepth 100000
open Go
section
variable {P : Program} {ops : Array Oper} {Q : Exit → Act → World → Prop} {md : Region.Mode} {S T : World → Prop} {R : World → World → Prop}
/-- What holds now, and stays whatever is made anew, may be told of all worlds from here on. -/
theorem wpM_more (hTR : ∀ x y, T x → R x y → T y) : ∀ {f : Nat} {listed : Array Bool} {a : Act} {w : World}, T w → wpM P md ops Q (fun v => S v ∧ T v) R f listed a w → wpM P md ops Q S R f listed a w
  | 0, _, _, _, hT, h => ⟨h.1, fun w1 h1 h2 => h.2 w1 h1 ⟨h2, hTR _ _ hT h1⟩⟩
  | _ + 1, _, _, _, hT, h => fun w1 h1 h2 => by
    obtain ⟨h0, hi⟩ := h w1 h1 ⟨h2, hTR _ _ hT h1⟩
    refine ⟨h0, fun i hm => ?_⟩
    exact wpOp_mono (fun a' w' hk => ⟨hk.1.1, wpM_more hTR hk.1.2 hk.2⟩) (hi i hm)
end
end Go.Proofs.YtfiedoejdikcgaaDoor
