/- Several texts in one: FiM, LaM, SaM, PiM, PiN, Four (what PixelBack reach of them). -/
import Derived.Test.YtfiedoejdikcgaaDoorK01
import Derived.Test.YtfiedoejdikcgaaDoorK02
import Derived.Laws.BitsAllLaws
set_option maxRecDepth 100000
set_option linter.unusedVariables false
set_option linter.unusedVariables false
namespace Go.Proofs.YtfiedoejdikcgaaDoor
set_option maxRecDepth 100000
open Go
theorem sub_add_u8 (x y : UInt8) : x - y + y = x := by
  apply UInt8.toNat_inj.1
  rw [UInt8.toNat_add, UInt8.toNat_sub]
  have := x.toNat_lt; have := y.toNat_lt
  omega
/-- Undoing what was done is the line. -/
theorem undo_do {kind : Int} {bpp : Nat} (hb : 1 ≤ bpp) (line above : List UInt8) : undoF kind bpp (doF kind bpp line above) above = line := by
  have hl : (undoF kind bpp (doF kind bpp line above) above).length = line.length := by rw [undoF_length, doF_length]
  have key : ∀ n i, i < n → i < line.length → (undoF kind bpp (doF kind bpp line above) above).getD i 0 = line.getD i 0 := by
    intro n
    induction n with
    | zero => intro i h; exact absurd h (by omega)
    | succ n ih =>
      intro i h hi
      rw [undoF_at hb above _ i (by rw [doF_length]; exact hi), doF_at _ _ _ _ hi,
        foreF_eq hb (s := undoF kind bpp (doF kind bpp line above) above) (t := line) (fun j hj => ih j (by omega) (by omega)), sub_add_u8]
  exact ext_getD hl fun i hi => key (i + 1) i (by omega) (by omega)
end Go.Proofs.YtfiedoejdikcgaaDoor
set_option linter.unusedVariables false
namespace Go.Proofs.YtfiedoejdikcgaaDoor
set_option maxRecDepth 100000
open Go
/-- The places of a pass, row by row. -/
def visP (w h : Nat) (p : PassL) : List (Nat × Nat) := (List.range (manyL h p.y p.dy)).flatMap fun j => (List.range (manyL w p.x p.dx)).map fun i => (p.x + i * p.dx, p.y + j * p.dy)
def visL (w h : Nat) (l : List PassL) : List (Nat × Nat) := l.flatMap (visP w h)
theorem mem_visP {w h : Nat} {p : PassL} (hp : OkP p) (a b : Nat) : (a, b) ∈ visP w h p ↔ a < w ∧ b < h ∧ a % p.dx = p.x ∧ b % p.dy = p.y := by
  obtain ⟨hx, hy⟩ := hp
  unfold visP
  simp only [List.mem_flatMap, List.mem_map, List.mem_range, Prod.mk.injEq]
  constructor
  · rintro ⟨j, hj, i, hi, e1, e2⟩
    have hj' := (manyL_lt (by omega) j).1 hj
    have hi' := (manyL_lt (by omega) i).1 hi
    subst e1 e2
    exact ⟨hi', hj', by rw [Nat.add_mul_mod_self_right, Nat.mod_eq_of_lt hx], by rw [Nat.add_mul_mod_self_right, Nat.mod_eq_of_lt hy]⟩
  · rintro ⟨ha, hb, e1, e2⟩
    have ea : p.x + a / p.dx * p.dx = a := by rw [← e1, Nat.mul_comm]; exact Nat.mod_add_div a p.dx
    have eb : p.y + b / p.dy * p.dy = b := by rw [← e2, Nat.mul_comm]; exact Nat.mod_add_div b p.dy
    exact ⟨b / p.dy, (manyL_lt (by omega) _).2 (by rw [eb]; exact hb), a / p.dx, (manyL_lt (by omega) _).2 (by rw [ea]; exact ha), ea, eb⟩
theorem nodup_visP {w h : Nat} {p : PassL} (hp : OkP p) : (visP w h p).Nodup := by
  obtain ⟨hx, hy⟩ := hp
  unfold visP List.Nodup
  rw [List.pairwise_flatMap]
  constructor
  · intro j _
    rw [List.pairwise_map]
    refine List.Pairwise.imp ?_ (List.nodup_range (n := manyL w p.x p.dx))
    intro a b hab e
    have := (Prod.mk.inj e).1
    exact hab (Nat.eq_of_mul_eq_mul_right (show 0 < p.dx by omega) (by omega))
  · refine List.Pairwise.imp ?_ (List.nodup_range (n := manyL h p.y p.dy))
    intro a b hab u hu v hv e
    subst e
    obtain ⟨_, _, rfl⟩ := List.mem_map.1 hu
    obtain ⟨_, _, e2⟩ := List.mem_map.1 hv
    have := (Prod.mk.inj e2).2
    exact hab (Nat.eq_of_mul_eq_mul_right (show 0 < p.dy by omega) (by omega))
theorem nodup_visL {w h : Nat} {l : List PassL} (hl : Whole l) : (visL w h l).Nodup := by
  unfold visL List.Nodup
  rw [List.pairwise_flatMap]
  refine ⟨fun p hp => nodup_visP (hl.1 p hp), ?_⟩
  refine List.Pairwise.imp_of_mem ?_ hl.2.2
  intro p q hp hq hpq u hu v hv e
  subst e
  obtain ⟨a, b⟩ := u
  obtain ⟨_, _, h1, h2⟩ := (mem_visP (hl.1 p hp) a b).1 hu
  obtain ⟨_, _, h3, h4⟩ := (mem_visP (hl.1 q hq) a b).1 hv
  exact hpq a b ⟨⟨h1, h2⟩, h3, h4⟩
theorem mem_visL {w h : Nat} {l : List PassL} (hl : Whole l) (a b : Nat) : (a, b) ∈ visL w h l ↔ a < w ∧ b < h := by
  unfold visL
  rw [List.mem_flatMap]
  constructor
  · rintro ⟨p, hp, hm⟩
    obtain ⟨h1, h2, _⟩ := (mem_visP (hl.1 p hp) a b).1 hm
    exact ⟨h1, h2⟩
  · rintro ⟨h1, h2⟩
    obtain ⟨p, hp, h3, h4⟩ := hl.2.1 a b
    exact ⟨p, hp, (mem_visP (hl.1 p hp) a b).2 ⟨h1, h2, h3, h4⟩⟩
end Go.Proofs.YtfiedoejdikcgaaDoor
set_option linter.unusedVariables false
namespace Go.Proofs.YtfiedoejdikcgaaDoor
set_option maxRecDepth 100000
open Go
/-- The bits of a number of bits are these. -/
theorem bitN_val {f : Nat → Nat} : ∀ {n : Nat}, (∀ b, b < n → f b < 2) → ∀ b, b < n → bitN (valN f n) (n - 1 - b) = f b := by
  intro n
  induction n with
  | zero => intro _ b hb; exact absurd hb (Nat.not_lt_zero _)
  | succ n ih =>
    intro h b hb
    by_cases hn : b = n
    · subst hn
      have := h b (by omega)
      unfold bitN
      show (2 * valN f b + f b) / 2 ^ (b + 1 - 1 - b) % 2 = f b
      rw [show b + 1 - 1 - b = 0 by omega, Nat.pow_zero, Nat.div_one]; omega
    · have hl := h n (by omega)
      have hi := ih (fun b hb => h b (by omega)) b (by omega)
      unfold bitN at hi ⊢
      show (2 * valN f n + f n) / 2 ^ (n + 1 - 1 - b) % 2 = f b
      rw [show n + 1 - 1 - b = (n - 1 - b) + 1 by omega, Nat.pow_succ, Nat.mul_comm (2 ^ (n - 1 - b)) 2, ← Nat.div_div_eq_div_mul,
        show (2 * valN f n + f n) / 2 = valN f n by omega, hi]
/-- The bits of a row of samples are those of the samples. -/
theorem rowBit_pack (depth : Nat) (l : List Nat) {k : Nat} (hk : k / 8 < (l.length * depth + 7) / 8) : rowBit (packT depth l) k = packBit depth l k := by
  unfold rowBit
  rw [packT_at _ _ hk]
  have h := bitN_val (f := fun b => packBit depth l (8 * (k / 8) + b)) (n := 8) (fun b _ => packBit_lt _ _ _) (k % 8) (Nat.mod_lt _ (by decide))
  rw [show 7 - k % 8 = 8 - 1 - k % 8 from rfl, h]
  show packBit depth l (8 * (k / 8) + k % 8) = _
  rw [Nat.div_add_mod]
theorem sample_pack {depth : Nat} (hd : 1 ≤ depth) (l : List Nat) {i : Nat} (hi : i < l.length) : sampleN (packT depth l) depth i = l.getD i 0 % 2 ^ depth := by
  unfold sampleN
  rw [← valN_bits]
  refine valN_congr fun b hb => ?_
  have hlt : i * depth + b < l.length * depth := by
    have : (i + 1) * depth ≤ l.length * depth := Nat.mul_le_mul_right _ hi
    rw [Nat.succ_mul] at this
    omega
  rw [rowBit_pack _ _ (by omega)]
  unfold packBit
  rw [if_pos hlt]
  have e1 : (i * depth + b) / depth = i := by rw [Nat.mul_comm, Nat.mul_add_div (by omega), Nat.div_eq_of_lt hb, Nat.add_zero]
  have e2 : (i * depth + b) % depth = b := by rw [Nat.mul_comm, Nat.mul_add_mod, Nat.mod_eq_of_lt hb]
  rw [e1, e2]
end Go.Proofs.YtfiedoejdikcgaaDoor
set_option linter.unusedVariables false
namespace Go.Proofs.YtfiedoejdikcgaaDoor
set_option maxRecDepth 100000
open Go
theorem posJ_rowsP (w h : Nat) (p : PassL) : (rowsP w h p).flatMap posJ = visP w h p := by
  unfold rowsP visP
  by_cases h0 : manyL w p.x p.dx = 0
  · rw [if_pos h0, h0]
    simp
  · rw [if_neg h0, List.flatMap_map]
    rfl
theorem posJ_jobsL (w h : Nat) (l : List PassL) : (jobsL w h l).flatMap posJ = visL w h l := by
  unfold jobsL visL
  rw [List.flatMap_assoc]
  congr 1
  funext p
  exact posJ_rowsP w h p
theorem setN_at {pix : List UInt8} {k : Nat} {q : List UInt8} (h : k + q.length ≤ pix.length) (i : Nat) : (setN pix k q).getD i 0 = if k ≤ i ∧ i < k + q.length then q.getD (i - k) 0 else pix.getD i 0 := by
  unfold setN
  have ht : (pix.take k).length = k := by rw [List.length_take]; omega
  simp only [List.getD_eq_getElem?_getD]
  by_cases h1 : i < k
  · rw [if_neg (by omega), List.getElem?_append_left (by omega), List.getElem?_take_of_lt h1]
  · rw [List.getElem?_append_right (by omega), ht]
    by_cases h2 : i < k + q.length
    · rw [if_pos (by omega), List.getElem?_append_left (by omega)]
    · rw [if_neg (by omega), List.getElem?_append_right (by omega), List.getElem?_drop]
      congr 2
      omega
theorem bppN_pos (S : ShP) : 1 ≤ bppN S := Nat.le_max_left _ _
theorem kindP_le {S : ShP} {kind : Nat → Int} (h : ∀ k, kind k ≤ 4) (k : Nat) (line above : List UInt8) : kindP S kind k line above ≤ 4 := by
  unfold kindP
  split
  · exact pickF_le _ _ _
  · have := h k; omega
theorem sampsL_pack {S : ShP} (hd : 1 ≤ S.d) {v : List Nat} (hv : ∀ k, v.getD k 0 < 2 ^ S.d) (j : RowJ) {x : Nat} (hx : x < j.n) : sampsL S (packT S.d (rowV S v j)) x = valsV S v (j.x + x * j.dx) j.y := by
  unfold sampsL valsV
  refine List.map_congr_left fun i hi => ?_
  have hi' : i < samplesN S.c := List.mem_range.1 hi
  have hl := rowV_length S v j
  have hlt : samplesN S.c * x + i < (rowV S v j).length := by
    rw [hl]
    have : samplesN S.c * (x + 1) ≤ samplesN S.c * j.n := Nat.mul_le_mul_left _ hx
    rw [Nat.mul_add, Nat.mul_one] at this
    omega
  rw [sample_pack hd _ hlt, rowV_at S v j hx hi', Nat.mod_eq_of_lt (hv _)]
/-- The pixels of places, put into an image. -/
def placeP (S : ShP) (v : List Nat) : List (Nat × Nat) → List UInt8 → List UInt8 × Int
  | [], pix => (pix, 0)
  | p :: ps, pix => if (pixS S (valsV S v p.1 p.2)).2 ≠ 0 then ([], (pixS S (valsV S v p.1 p.2)).2) else placeP S v ps (setN pix (8 * (p.2 * S.w + p.1)) (pixS S (valsV S v p.1 p.2)).1)
theorem placeP_cons (S : ShP) (v : List Nat) (p : Nat × Nat) (ps : List (Nat × Nat)) (pix : List UInt8) : placeP S v (p :: ps) pix = if (pixS S (valsV S v p.1 p.2)).2 ≠ 0 then ([], (pixS S (valsV S v p.1 p.2)).2) else placeP S v ps (setN pix (8 * (p.2 * S.w + p.1)) (pixS S (valsV S v p.1 p.2)).1) := rfl
theorem placeP_append (S : ShP) (v : List Nat) : ∀ (a b : List (Nat × Nat)) (pix : List UInt8), placeP S v (a ++ b) pix = if (placeP S v a pix).2 ≠ 0 then ([], (placeP S v a pix).2) else placeP S v b (placeP S v a pix).1 := by
  intro a
  induction a with
  | nil => intro b pix; show _ = if (0 : Int) ≠ 0 then _ else _; rw [if_neg (by decide)]; rfl
  | cons p a ih =>
    intro b pix
    rw [List.cons_append, placeP_cons, placeP_cons]
    by_cases h : (pixS S (valsV S v p.1 p.2)).2 ≠ 0
    · rw [if_pos h, if_pos h, if_pos h]
    · rw [if_neg h, if_neg h, ih]
theorem pixGo_place {S : ShP} {v : List Nat} {line : List UInt8} {j : RowJ} (h : ∀ x, x < j.n → sampsL S line x = valsV S v (j.x + x * j.dx) j.y) :
    ∀ (m x : Nat) (pix : List UInt8), x + m = j.n → pixGo S line j m x pix = placeP S v ((List.range' x m).map fun i => (j.x + i * j.dx, j.y)) pix := by
  intro m
  induction m with
  | zero => intro x pix _; rfl
  | succ m ih =>
    intro x pix hx
    rw [List.range'_succ, List.map_cons]
    unfold pixGo placeP
    rw [h x (by omega)]
    dsimp only
    rw [ih (x + 1) _ (by omega)]
theorem pixGo_all {S : ShP} {v : List Nat} {line : List UInt8} {j : RowJ} (h : ∀ x, x < j.n → sampsL S line x = valsV S v (j.x + x * j.dx) j.y) (pix : List UInt8) : pixGo S line j j.n 0 pix = placeP S v (posJ j) pix := by
  rw [pixGo_place h _ _ _ (by omega)]
  unfold posJ
  rw [List.range_eq_range']
/-- Rows of samples that are packed, with whatever kinds of filters, say these samples. -/
theorem runI_pack {S : ShP} (hd : 1 ≤ S.d) {v : List Nat} (hv : ∀ k, v.getD k 0 < 2 ^ S.d) {kind : Nat → Int} (hk : ∀ k, kind k ≤ 4) :
    ∀ (js : List RowJ) (k : Nat) (above rest pix : List UInt8), runI S js (packI S v kind js k above ++ rest) above pix = placeP S v (js.flatMap posJ) pix := by
  intro js
  induction js with
  | nil => intro k above rest pix; rfl
  | cons j js ih =>
    intro k above rest pix
    unfold packI runI
    generalize hL : packT S.d (rowV S v j) = line
    generalize hA : (if j.first = true then ([] : List UInt8) else above) = ab
    have hkd := kindP_le (S := S) hk k line ab
    generalize kindP S kind k line ab = kd at hkd
    have hk8 : (UInt8.ofNat kd).toNat = kd := by rw [UInt8.toNat_ofNat']; omega
    have hll : line.length = rowLen S j.n := by
      rw [← hL, packT_length, rowV_length]
      unfold rowLen
      rw [Nat.mul_comm, ← Nat.mul_assoc, Nat.mul_comm S.d]
    have hdl : (doF (kd : Nat) (bppN S) line ab).length = rowLen S j.n := by rw [doF_length, hll]
    have e0 : ((UInt8.ofNat kd :: (doF (kd : Nat) (bppN S) line ab ++ packI S v kind js (k + 1) line)) ++ rest).getD 0 0 = UInt8.ofNat kd := rfl
    have e1 : ((UInt8.ofNat kd :: (doF (kd : Nat) (bppN S) line ab ++ packI S v kind js (k + 1) line)) ++ rest).drop 1 = doF (kd : Nat) (bppN S) line ab ++ (packI S v kind js (k + 1) line ++ rest) := by
      rw [List.cons_append, List.drop_succ_cons, List.drop_zero, List.append_assoc]
    have e2 : ((UInt8.ofNat kd :: (doF (kd : Nat) (bppN S) line ab ++ packI S v kind js (k + 1) line)) ++ rest).drop (1 + rowLen S j.n) = packI S v kind js (k + 1) line ++ rest := by
      rw [← List.drop_drop, e1, ← hdl, List.drop_left]
    rw [e0, hk8, e1, e2]
    have e3 : (doF (kd : Nat) (bppN S) line ab ++ (packI S v kind js (k + 1) line ++ rest)).take (rowLen S j.n) = doF (kd : Nat) (bppN S) line ab := by rw [← hdl, List.take_left]
    rw [e3, undo_do (bppN_pos S), if_neg (by omega), pixGo_all (v := v) (fun x hx => by rw [← hL]; exact sampsL_pack hd hv j hx), List.flatMap_cons, placeP_append]
    by_cases h : (placeP S v (posJ j) pix).2 ≠ 0
    · rw [if_pos h, if_pos h]
    · rw [if_neg h, if_neg h, ih]
theorem packI_length {S : ShP} {v : List Nat} {kind : Nat → Int} : ∀ (js : List RowJ) (k : Nat) (above : List UInt8), (packI S v kind js k above).length = sizeJ S js := by
  intro js
  induction js with
  | nil => intro k above; rfl
  | cons j js ih =>
    intro k above
    unfold packI sizeJ
    rw [List.length_cons, List.length_append, doF_length, packT_length, rowV_length, ih, List.map_cons, List.sum_cons]
    have : (samplesN S.c * j.n * S.d + 7) / 8 = rowLen S j.n := by unfold rowLen; rw [Nat.mul_comm, ← Nat.mul_assoc]
    rw [this]
    unfold sizeJ
    omega

theorem placeP_err (S : ShP) (v : List Nat) : ∀ (ps : List (Nat × Nat)) (pix : List UInt8), (placeP S v ps pix).2 = 0 ∧ (∀ p, p ∈ ps → (pixS S (valsV S v p.1 p.2)).2 = 0) ∨ placeP S v ps pix = ([], 29) ∧ ∃ p, p ∈ ps ∧ pixS S (valsV S v p.1 p.2) = ([], 29) := by
  intro ps
  induction ps with
  | nil => intro pix; left; exact ⟨rfl, fun p hp => absurd hp (by simp)⟩
  | cons p ps ih =>
    intro pix
    rw [placeP_cons]
    rcases pixS_cases S (valsV S v p.1 p.2) with ⟨h0, _⟩ | h29
    · rw [if_neg (by rw [h0]; decide)]
      rcases ih (setN pix (8 * (p.2 * S.w + p.1)) (pixS S (valsV S v p.1 p.2)).1) with ⟨a, b⟩ | ⟨a, q, b, c⟩
      · left
        refine ⟨a, fun q hq => ?_⟩
        rcases List.mem_cons.1 hq with rfl | hq
        · exact h0
        · exact b q hq
      · right; exact ⟨a, q, List.mem_cons_of_mem _ b, c⟩
    · right
      rw [if_pos (by rw [h29]; decide), h29]
      exact ⟨rfl, p, List.mem_cons_self .., h29⟩
theorem place_apart {w a b a' b' : Nat} (ha : a < w) (ha' : a' < w) (h : b * w + a = b' * w + a') : a = a' ∧ b = b' := by
  have h1 : (b * w + a) % w = (b' * w + a') % w := by rw [h]
  rw [Nat.mul_comm b, Nat.mul_comm b', Nat.mul_add_mod, Nat.mul_add_mod, Nat.mod_eq_of_lt ha, Nat.mod_eq_of_lt ha'] at h1
  subst h1
  have h2 : b * w = b' * w := by omega
  exact ⟨rfl, Nat.eq_of_mul_eq_mul_right (by omega) h2⟩
theorem placeP_is {S : ShP} {v : List Nat} : ∀ (ps : List (Nat × Nat)) (pix : List UInt8), pix.length = 8 * (S.w * S.h) → ps.Nodup → (∀ p, p ∈ ps → p.1 < S.w ∧ p.2 < S.h) → (placeP S v ps pix).2 = 0 →
    (placeP S v ps pix).1.length = 8 * (S.w * S.h) ∧ (∀ p, p ∈ ps → ∀ t, t < 8 → (placeP S v ps pix).1.getD (8 * (p.2 * S.w + p.1) + t) 0 = (pixS S (valsV S v p.1 p.2)).1.getD t 0) ∧
    ∀ a b, a < S.w → b < S.h → (a, b) ∉ ps → ∀ t, t < 8 → (placeP S v ps pix).1.getD (8 * (b * S.w + a) + t) 0 = pix.getD (8 * (b * S.w + a) + t) 0 := by
  intro ps
  induction ps with
  | nil => intro pix hl _ _ _; exact ⟨hl, fun p hp => absurd hp (by simp), fun _ _ _ _ _ _ _ => rfl⟩
  | cons p ps ih =>
    intro pix hl hn hb h0
    obtain ⟨hpn, hn'⟩ := List.nodup_cons.1 hn
    rw [placeP_cons] at h0 ⊢
    rcases pixS_cases S (valsV S v p.1 p.2) with ⟨k0, k8⟩ | h29
    · rw [if_neg (by rw [k0]; decide)] at h0 ⊢
      obtain ⟨hp1, hp2⟩ := hb p (List.mem_cons_self ..)
      have hroom : 8 * (p.2 * S.w + p.1) + (pixS S (valsV S v p.1 p.2)).1.length ≤ pix.length := by
        rw [k8, hl]
        have : (p.2 + 1) * S.w ≤ S.h * S.w := Nat.mul_le_mul_right _ hp2
        rw [Nat.add_mul, Nat.one_mul] at this
        rw [Nat.mul_comm S.w]
        omega
      obtain ⟨a1, a2, a3⟩ := ih (setN pix (8 * (p.2 * S.w + p.1)) (pixS S (valsV S v p.1 p.2)).1) (by rw [setN_length hroom, hl]) hn' (fun q hq => hb q (List.mem_cons_of_mem _ hq)) h0
      refine ⟨a1, fun q hq t ht => ?_, fun a b ha hb' hm t ht => ?_⟩
      · rcases List.mem_cons.1 hq with rfl | hq
        · rw [a3 q.1 q.2 hp1 hp2 hpn t ht, setN_at hroom, if_pos (by rw [k8]; omega)]
          congr 1
          omega
        · exact a2 q hq t ht
      · rw [a3 a b ha hb' (fun h => hm (List.mem_cons_of_mem _ h)) t ht, setN_at hroom, if_neg]
        rintro ⟨c1, c2⟩
        rw [k8] at c2
        obtain ⟨e1, e2⟩ := place_apart ha hp1 (show b * S.w + a = p.2 * S.w + p.1 by omega)
        exact hm (by rw [e1, e2]; exact List.mem_cons_self ..)
    · rw [if_pos (by rw [h29]; decide), h29] at h0
      exact absurd h0 (by decide)
/-- All the pixels of an image, row by row. -/
theorem placeP_same {S : ShP} {v : List Nat} {l m : List PassL} (hl : Whole l) (hm : Whole m) (pix : List UInt8) (hp : pix.length = 8 * (S.w * S.h)) :
    placeP S v (visL S.w S.h l) pix = placeP S v (visL S.w S.h m) pix := by
  have mem : ∀ p : Nat × Nat, p ∈ visL S.w S.h l ↔ p ∈ visL S.w S.h m := fun p => by
    obtain ⟨a, b⟩ := p
    rw [mem_visL hl, mem_visL hm]
  rcases placeP_err S v (visL S.w S.h l) pix with ⟨a0, a1⟩ | ⟨a0, p, a1, a2⟩
  · rcases placeP_err S v (visL S.w S.h m) pix with ⟨b0, b1⟩ | ⟨b0, p, b1, b2⟩
    · obtain ⟨x1, x2, _⟩ := placeP_is _ pix hp (nodup_visL hl) (fun p h => (mem_visL hl p.1 p.2).1 h) a0
      obtain ⟨y1, y2, _⟩ := placeP_is _ pix hp (nodup_visL hm) (fun p h => (mem_visL hm p.1 p.2).1 h) b0
      have e : (placeP S v (visL S.w S.h l) pix).1 = (placeP S v (visL S.w S.h m) pix).1 := by
        refine ext_getD (by rw [x1, y1]) fun i hi => ?_
        rw [x1] at hi
        have hw : 0 < S.w := by
          rcases Nat.eq_zero_or_pos S.w with h | h
          · rw [h] at hi; omega
          · exact h
        have hdm := Nat.div_add_mod (i / 8) S.w
        have hmod := Nat.mod_lt (i / 8) hw
        have hin : (i / 8 % S.w, i / 8 / S.w) ∈ visL S.w S.h l := by
          rw [mem_visL hl]
          refine ⟨hmod, ?_⟩
          rw [Nat.div_lt_iff_lt_mul hw, Nat.mul_comm]
          omega
        have hi8 : i = 8 * (i / 8 / S.w * S.w + i / 8 % S.w) + i % 8 := by
          rw [Nat.mul_comm (i / 8 / S.w), hdm]
          omega
        have z1 := x2 _ hin (i % 8) (by omega)
        have z2 := y2 _ ((mem _).1 hin) (i % 8) (by omega)
        dsimp only at z1 z2
        rw [← hi8] at z1 z2
        rw [z1, z2]
      exact Prod.ext e (by rw [a0, b0])
    · have := a1 p ((mem p).2 b1)
      rw [b2] at this; exact absurd this (by decide)
  · rcases placeP_err S v (visL S.w S.h m) pix with ⟨b0, b1⟩ | ⟨b0, q, b1, b2⟩
    · have := b1 p ((mem p).1 a1)
      rw [a2] at this; exact absurd this (by decide)
    · rw [a0, b0]
/-- The same samples with any kinds of filters, laced or not, are the same raster. -/
theorem imgT_same {S : ShP} (hd : 1 ≤ S.d) {v : List Nat} (hv : ∀ k, v.getD k 0 < 2 ^ S.d) {k1 k2 : Nat → Int} (h1 : ∀ k, k1 k ≤ 4) (h2 : ∀ k, k2 k ≤ 4) {l m : List PassL} (hl : Whole l) (hm : Whole m) :
    imgT S l (packI S v k1 (jobsL S.w S.h l) 0 []) = imgT S m (packI S v k2 (jobsL S.w S.h m) 0 []) ∧ imgT S l (packI S v k1 (jobsL S.w S.h l) 0 []) = placeP S v (visL S.w S.h l) (List.replicate (8 * (S.w * S.h)) 0) := by
  have gen : ∀ (l : List PassL) (k1 : Nat → Int), (∀ k, k1 k ≤ 4) → imgT S l (packI S v k1 (jobsL S.w S.h l) 0 []) = placeP S v (visL S.w S.h l) (List.replicate (8 * (S.w * S.h)) 0) := by
    intro l k1 h1
    unfold imgT
    rw [packI_length, if_neg (Nat.lt_irrefl _), if_neg (Nat.lt_irrefl _)]
    have e := runI_pack hd hv h1 (jobsL S.w S.h l) 0 [] [] (List.replicate (8 * (S.w * S.h)) 0)
    rw [List.append_nil, posJ_jobsL] at e
    exact e
  refine ⟨?_, gen l k1 h1⟩
  rw [gen l k1 h1, gen m k2 h2]
  exact placeP_same hl hm _ (by rw [List.length_replicate])
end Go.Proofs.YtfiedoejdikcgaaDoor
set_option linter.unusedVariables false
namespace Go.Proofs.YtfiedoejdikcgaaDoor
set_option maxRecDepth 100000
open Go
theorem wordsV_lt (pix : List UInt8) (k : Nat) : (wordsV pix).getD k 0 < 2 ^ 16 := by
  by_cases h : k < pix.length / 2
  · rw [wordsV_at pix h]
    have a := (pix.getD (2 * k) 0).toNat_lt
    have b := (pix.getD (2 * k + 1) 0).toNat_lt
    omega
  · rw [List.getD_eq_getElem?_getD, List.getElem?_eq_none (by unfold wordsV; rw [List.length_map, List.length_range]; omega)]
    decide
theorem wide16 (v : Nat) : wideN v 16 = v := by
  unfold wideN
  rw [show (2 : Nat) ^ 16 - 1 = 65535 from rfl, Nat.mul_div_cancel _ (by decide)]
theorem twoL_word (a b : UInt8) : twoL (256 * a.toNat + b.toNat) = [a, b] := by
  have ha := a.toNat_lt
  have hb := b.toNat_lt
  unfold twoL
  rw [show (256 * a.toNat + b.toNat) / 256 = a.toNat by omega]
  have e : UInt8.ofNat (256 * a.toNat + b.toNat) = b := by
    apply UInt8.toNat_inj.1
    rw [UInt8.toNat_ofNat']
    omega
  rw [e, UInt8.ofNat_toNat]
theorem pixS_rgba (w h : Nat) (l : List Nat) : pixS (rgbaS w h) l = (twoL (l.getD 0 0) ++ twoL (l.getD 1 0) ++ twoL (l.getD 2 0) ++ twoL (l.getD 3 0), 0) := by
  unfold pixS
  rw [if_neg (by show ¬ (6 : Nat) = 0; decide), if_neg (by show ¬ (6 : Nat) = 2; decide), if_neg (by show ¬ (6 : Nat) = 4; decide), if_pos (show (rgbaS w h).c = 6 from rfl)]
  unfold wideS
  show (twoL (wideN _ 16) ++ twoL (wideN _ 16) ++ twoL (wideN _ 16) ++ twoL (wideN _ 16), (0 : Int)) = _
  rw [wide16, wide16, wide16, wide16]
theorem valsV_at (w h : Nat) (v : List Nat) (a b : Nat) {i : Nat} (hi : i < 4) : (valsV (rgbaS w h) v a b).getD i 0 = v.getD (4 * (b * w + a) + i) 0 := by
  unfold valsV
  show ((List.range 4).map _).getD i 0 = _
  simp only [List.getD_eq_getElem?_getD, List.getElem?_map]
  rw [List.getElem?_range hi]
  rfl
theorem pixS_words {w h : Nat} {pix : List UInt8} (hp : pix.length = 8 * (w * h)) {a b : Nat} (ha : a < w) (hb : b < h) {t : Nat} (ht : t < 8) :
    (pixS (rgbaS w h) (valsV (rgbaS w h) (wordsV pix) a b)).1.getD t 0 = pix.getD (8 * (b * w + a) + t) 0 := by
  have hin : b * w + a < w * h := by
    have : (b + 1) * w ≤ h * w := Nat.mul_le_mul_right _ hb
    rw [Nat.add_mul, Nat.one_mul, Nat.mul_comm h] at this
    omega
  have hw : ∀ i, i < 4 → twoL ((valsV (rgbaS w h) (wordsV pix) a b).getD i 0) = [pix.getD (8 * (b * w + a) + 2 * i) 0, pix.getD (8 * (b * w + a) + 2 * i + 1) 0] := fun i hi => by
    rw [valsV_at w h _ a b hi, wordsV_at pix (by omega), twoL_word]
    congr 2
    · omega
    · congr 2; omega
  rw [pixS_rgba, hw 0 (by decide), hw 1 (by decide), hw 2 (by decide), hw 3 (by decide)]
  match t, ht with
  | 0, _ => rfl
  | 1, _ => rfl
  | 2, _ => rfl
  | 3, _ => rfl
  | 4, _ => rfl
  | 5, _ => rfl
  | 6, _ => rfl
  | 7, _ => rfl
/-- Each pixel put at its place is the raster. -/
theorem place_words {w h : Nat} {pix : List UInt8} (hp : pix.length = 8 * (w * h)) : placeP (rgbaS w h) (wordsV pix) (visL w h plainL) (List.replicate (8 * (w * h)) 0) = (pix, 0) := by
  have h0 : (placeP (rgbaS w h) (wordsV pix) (visL w h plainL) (List.replicate (8 * (w * h)) 0)).2 = 0 := by
    rcases placeP_err (rgbaS w h) (wordsV pix) (visL w h plainL) (List.replicate (8 * (w * h)) 0) with ⟨a, _⟩ | ⟨_, p, _, e⟩
    · exact a
    · rw [pixS_rgba] at e; injection e with _ e2; exact absurd e2 (by decide)
  obtain ⟨x1, x2, _⟩ := placeP_is (S := rgbaS w h) (v := wordsV pix) (visL w h plainL) (List.replicate (8 * (w * h)) 0) (by rw [List.length_replicate]; rfl) (nodup_visL whole_plain) (fun p h => (mem_visL whole_plain p.1 p.2).1 h) h0
  refine Prod.ext (ext_getD (by rw [x1, hp]; rfl) fun i hi => ?_) h0
  rw [x1] at hi
  have hi' : i < 8 * (w * h) := hi
  have hw : 0 < w := by
    rcases Nat.eq_zero_or_pos w with h | h
    · rw [h] at hi'; omega
    · exact h
  have hdm := Nat.div_add_mod (i / 8) w
  have hmod := Nat.mod_lt (i / 8) hw
  have hdiv : i / 8 / w < h := by rw [Nat.div_lt_iff_lt_mul hw, Nat.mul_comm]; omega
  have hin : (i / 8 % w, i / 8 / w) ∈ visL w h plainL := by
    rw [mem_visL whole_plain]
    exact ⟨hmod, hdiv⟩
  have hi8 : i = 8 * (i / 8 / w * w + i / 8 % w) + i % 8 := by
    rw [Nat.mul_comm (i / 8 / w), hdm]
    omega
  have z1 := x2 _ hin (i % 8) (by omega)
  have z2 := pixS_words hp hmod hdiv (show i % 8 < 8 by omega)
  dsimp only at z1
  have z3 : (placeP (rgbaS w h) (wordsV pix) (visL w h plainL) (List.replicate (8 * (w * h)) 0)).1.getD (8 * (i / 8 / w * w + i / 8 % w) + i % 8) 0 = pix.getD (8 * (i / 8 / w * w + i / 8 % w) + i % 8) 0 := z1.trans z2
  rw [← hi8] at z3
  exact z3
/-- The raster of a raster's packed bytes is that raster. -/
theorem img_rows {w h : Nat} {pix : List UInt8} (hp : pix.length = 8 * (w * h)) : imgT (rgbaS w h) plainL (rowsT w h pix) = (pix, 0) := by
  have e := (imgT_same (S := rgbaS w h) (v := wordsV pix) (k1 := fun _ => -1) (k2 := fun _ => -1) (l := plainL) (m := plainL) (by show 1 ≤ 16; decide) (wordsV_lt pix) (fun _ => by decide) (fun _ => by decide) whole_plain whole_plain).2
  unfold rowsT
  exact e.trans (place_words hp)
end Go.Proofs.YtfiedoejdikcgaaDoor
set_option linter.unusedVariables false
namespace Go.Proofs.YtfiedoejdikcgaaDoor
set_option maxRecDepth 100000
open Go
theorem strL_of (s : ByteArray) : strL s.data.toList = s := by unfold strL; apply ByteArray.ext; simp
end Go.Proofs.YtfiedoejdikcgaaDoor
