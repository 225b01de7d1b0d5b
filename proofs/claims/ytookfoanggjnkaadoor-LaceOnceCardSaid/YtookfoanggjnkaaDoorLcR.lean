/- The walk of the stage's theorem: each pixel stands in just one pass, at one place of it. -/
import Derived.Test.YtookfoanggjnkaaDoorLcQ
import Derived.Test.YtookfoanggjnkaaDoorLcE
set_option maxRecDepth 100000
set_option linter.unusedVariables false
namespace Go.Proofs.YtookfoanggjnkaaDoor
set_option maxRecDepth 100000
open Go Go.RowKit Go.Maps
/-- What stands while the passes are gone through. -/
def OnS (w : World) (g1 gm : Nat) (a b d c l : Int) (A : Option Addr) (N : Nat) (L : List P6) (M : List (Nat × Nat)) (v : World) : Prop :=
  Is v g1 23 #[.int .i64 a, .int .i64 b, .int .i64 d, .int .i64 c, .int .i64 l] ∧ Pss v A N L ∧ SetL v gm M ∧ But [] w v ∧ g1 ≠ gm ∧ (∀ g o, A = some ⟨g, o, none⟩ → g ≠ gm) ∧ w.heap.size ≤ gm
section
variable {w v v' : World} {g1 gm : Nat} {a b d c l : Int} {A : Option Addr} {N : Nat} {L : List P6} {M M' : List (Nat × Nat)}
theorem OnS.but (h : OnS w g1 gm a b d c l A N L M v) (k : But [] v v') : OnS w g1 gm a b d c l A N L M v' :=
  ⟨h.1.but k (by simp), h.2.1.but k, h.2.2.1.but k, h.2.2.2.1.trans k, h.2.2.2.2⟩
theorem OnS.put (h : OnS w g1 gm a b d c l A N L M v) (hg : v.grownBy v' (some gm)) (hS : SetL v' gm M') : OnS w g1 gm a b d c l A N L M' v' := by
  obtain ⟨h1, h2, h3, h4, h5, h6, h7⟩ := h
  refine ⟨h1.grown hg (by simpa using h5), ⟨h2.1, fun hn => ?_⟩, hS, h4.grown hg (fun g e => .inr (by have h9 : gm = g := (by simpa using e); omega)), h5, h6, h7⟩
  obtain ⟨g, o, e, hlt, hc⟩ := h2.2 hn
  refine ⟨g, o, e, Nat.lt_of_lt_of_le hlt hg.size, fun i k hi hk => ?_⟩
  rw [← hc i k hi hk]
  have hb := hg.block g hlt (by have := h6 g o e; simpa using this)
  simp [World.cell?, hb]
end
set_option maxHeartbeats 2000000 in
theorem laceOnce_walk (haw : Awk10) {a b d c l : Int} {w : World} (hG : GP w) :
    Calls Tryd.prog 5 #[.agg #[.int .i64 a, .int .i64 b, .int .i64 d, .int .i64 c, .int .i64 l]] w fun e w' => e = .returned (.bool true) ∧ Below w.heap.size w w' := by
  have HG := Lib.hid hG
  have HA : Hid (∀ v, But [] w v → Calls Tryd.prog 13 #[] v fun e w' => e = .returned (.bool true) ∧ But [] v w') := Lib.hid fun v hv => haw v (HG.out.but hv)
  clear haw hG
  obtain ⟨L, hL⟩ : ∃ L, L = passA a b d c l := ⟨_, rfl⟩
  obtain ⟨N, hN⟩ : ∃ N, N = L.length := ⟨_, rfl⟩
  have hN7 : N ≤ 7 := by rw [hN, hL]; exact passA_len a b d c l
  have HP : Hid (∀ v, But [] w v → Calls Tryd.prog 11 #[.agg #[.int .i64 a, .int .i64 b, .int .i64 d, .int .i64 c, .int .i64 l]] v fun e w' => ∃ A cap, e = .returned (.slice A N cap) ∧ Pss w' A N L ∧ N ≤ cap ∧ But [] v w') := Lib.hid fun v hv => by rw [hN, hL]; exact lpasses_any v (HG.out.but hv) a b d c l
  have HS : Hid (HlS w w.heap.size a b d c l (w.alloc (.cells #[.int .i64 a, .int .i64 b, .int .i64 d, .int .i64 c, .int .i64 l] 23))) := Lib.hid ⟨Is.fresh _ _ _, (But.refl [] w).alloc _⟩
  have c0 := HS.out.1.cell 0
  have c1 := HS.out.1.cell 1
  have c2 := HS.out.1.cell 2
  have c3 := HS.out.1.cell 3
  have c4 := HS.out.1.cell 4
  by_cases hN0 : N = 0
  · subst hN0
    have hz : sizeA a b d c l = 0 := by
      unfold sizeA
      rw [← hL, List.eq_nil_of_length_eq_zero hN.symm]
      rfl
    have HZ : Hid (∀ v, But [] w v → Calls Tryd.prog 16 #[.agg #[.int .i64 a, .int .i64 b, .int .i64 d, .int .i64 c, .int .i64 l]] v fun e w' => e = .returned (.int .i64 0) ∧ But [] v w') := Lib.hid fun v hv => by
      have h := lsize_any v (HG.out.but hv) a b d c l
      rw [hz] at h
      exact h
    clear hL hN hz
    go_enter Tryd.func5, Tryd.ntmps5
    go_wp2_with fail
    refine (HP.out _ HS.out.2).mono ?_
    rintro e w1 ⟨A, cap, rfl, hPs, hcap, hB⟩
    have HS := Lib.hid (HS.out.but hB)
    clear hPs hB
    have c0 := HS.out.1.cell 0
    have c1 := HS.out.1.cell 1
    have c2 := HS.out.1.cell 2
    have c3 := HS.out.1.cell 3
    have c4 := HS.out.1.cell 4
    go_wp2_with fail
    refine (HZ.out _ HS.out.2).mono ?_
    rintro e w1 ⟨rfl, hB⟩
    have HS := Lib.hid (HS.out.but hB)
    clear hB
    go_wp2_with fail
    refine (HA.out _ HS.out.2).mono ?_
    rintro e w1 ⟨rfl, hB⟩
    have HS := Lib.hid (HS.out.but hB)
    clear hB
    go_wp2
    go_ret
    exact ⟨rfl, HS.out.2.belowL⟩
  have hne : passA a b d c l ≠ [] := by rw [← hL]; intro e; rw [e] at hN; exact hN0 hN
  have h0 := passA_none hne
  obtain ⟨⟨a1, a2⟩, ⟨b1, b2⟩, hab, _⟩ := rightH_ok h0
  obtain ⟨W, rfl⟩ : ∃ n : Nat, a = (n : Int) := ⟨a.toNat, by omega⟩
  obtain ⟨H, rfl⟩ : ∃ n : Nat, b = (n : Int) := ⟨b.toNat, by omega⟩
  rw [passA_ok h0] at hL
  obtain ⟨ps, hps⟩ : ∃ ps, ps = passL W H (decide (l = 1)) := ⟨_, rfl⟩
  rw [← hps] at hL
  have hnd : (visL W H ps).Nodup := by rw [hps]; exact passL_nodup W H _
  have hln : (visL W H ps).length = W * H := by rw [hps]; exact passL_length W H _
  have hok : ∀ p, p ∈ ps → OkP p ∧ 0 < manyL W p.x p.dx ∧ 0 < manyL H p.y p.dy := fun p hp => passL_ok (by rw [← hps]; exact hp)
  have hbs : ∀ p, p ∈ ps → (p.x ≤ 7 ∧ p.y ≤ 7) ∧ (1 ≤ p.dx ∧ p.dx ≤ 8) ∧ 1 ≤ p.dy ∧ p.dy ≤ 8 := fun p hp => base_small (l := l) (List.mem_filter.1 (by rw [hps] at hp; exact hp)).1
  have hNl : N = ps.length := by rw [hN, hL, List.length_map]
  obtain ⟨t, ht⟩ : ∃ t, t = W * H := ⟨_, rfl⟩
  have ht2 : t ≤ 4096 := by rw [ht]; have h := hab; rw [← Int.natCast_mul] at h; omega
  have e3 : (W : Int) * (H : Int) = (t : Int) := by rw [ht, Int.natCast_mul]
  have HND := Lib.hid hnd
  have HLN := Lib.hid (hln.trans ht.symm)
  have HOK := Lib.hid hok
  have HBS := Lib.hid hbs
  have HNL := Lib.hid hNl
  have HL := Lib.hid hL
  have HT := Lib.hid ht
  have dN : ((N : Int) == 0) = false := by simp; exact hN0
  clear hL hN hne h0 hps hnd hln hok hbs hNl ht hab
  go_enter Tryd.func5, Tryd.ntmps5
  go_wp2_with fail
  refine (HP.out _ HS.out.2).mono ?_
  rintro e w1 ⟨A, cap, rfl, hPs, hcap, hB⟩
  have HS := Lib.hid (HS.out.but hB)
  have HPs := Lib.hid hPs
  clear hPs hB c0 c1 c2 c3 c4
  have hmm := @run_makeMap Tryd.prog
  go_upto_region 5 with (fail)
  obtain ⟨w2, hw2⟩ : ∃ x, x = w1.alloc (.map #[] 0) := ⟨_, rfl⟩
  obtain ⟨gm, hgm⟩ : ∃ g, g = w1.heap.size := ⟨_, rfl⟩
  have HO : Hid (OnS w w.heap.size gm W H d c l A N L (visL W H (ps.take 0)) w2) := Lib.hid (by
    have hb : But [] w1 w2 := by rw [hw2]; exact (But.refl [] w1).alloc _
    refine ⟨HS.out.1.but hb (by simp), HPs.out.but hb, by rw [hw2, hgm]; exact SetL.made w1, HS.out.2.trans hb, by have := HS.out.1.lt; omega, fun g o e => ?_, by rw [hgm]; exact HS.out.2.size⟩
    obtain ⟨g', o', e', hlt, _⟩ := HPs.out.2 (by omega)
    rw [e] at e'
    injection e' with e'
    injection e' with e1 e2
    omega)
  rw [← hw2, ← hgm]
  clear hw2 hgm HS HPs HP hmm
  go_wp2_with fail
  go_loopw [5] (fun iv wr => ∃ i : Nat, i ≤ N ∧ iv = .int .i64 i ∧ Hid (OnS w w.heap.size gm W H d c l A N L (visL W H (ps.take i)) wr)) (fun iv _ => N - (intOf iv).toNat)
  case atStart => exact ⟨0, Nat.zero_le _, rfl, HO⟩
  case round =>
    clear HO
    obtain ⟨i, hi, rfl, HO⟩ := hrel
    by_cases hlt : i < N
    · obtain ⟨g, o, q, rfl, hg, hq, k0, k1, k2, k3, k4, k5⟩ := HO.out.2.1.at hlt
      rw [HL.out, List.getElem?_map] at hq
      obtain ⟨p, hp, hqp⟩ := Option.map_eq_some_iff.1 hq
      subst hqp
      have hpm := List.mem_of_getElem? hp
      obtain ⟨ok1, ok2, ok3⟩ := HOK.out p hpm
      obtain ⟨⟨s1, s2⟩, ⟨s3, s4⟩, s5, s6⟩ := HBS.out p hpm
      obtain ⟨x, hx⟩ : ∃ x, x = p.x := ⟨_, rfl⟩
      obtain ⟨y, hy⟩ : ∃ x, x = p.y := ⟨_, rfl⟩
      obtain ⟨dx, hdx⟩ : ∃ x, x = p.dx := ⟨_, rfl⟩
      obtain ⟨dy, hdy⟩ : ∃ x, x = p.dy := ⟨_, rfl⟩
      obtain ⟨pw, hpw⟩ : ∃ x, x = manyL W p.x p.dx := ⟨_, rfl⟩
      obtain ⟨ph, hph⟩ : ∃ x, x = manyL H p.y p.dy := ⟨_, rfl⟩
      have har := area_le (w := W) (h := H) ok1
      have HPL : Hid (∀ j n, j < ph → n < pw → x + n * dx < W ∧ y + j * dy < H) := Lib.hid fun j n hj hn => by
        rw [hx, hy, hdx, hdy]
        exact place_lt ok1 (by rw [← hph]; exact hj) (by rw [← hpw]; exact hn)
      have HGN : Hid (∀ j n, j < ph → n < pw → (x + n * dx, y + j * dy) ∉ goneL W H ps i p j n) := Lib.hid fun j n hj hn => by
        rw [hx, hy, hdx, hdy]
        exact gone_new HND.out hp (by rw [← hph]; exact hj) (by rw [← hpw]; exact hn)
      have HGL : Hid (∀ j n, j < ph → n ≤ pw → (goneL W H ps i p j n).length < 1000000) := Lib.hid fun j n hj hn => by
        have h := gone_length (w := W) (h := H) hp (j := j) (n := n) (by rw [← hph]; exact hj) (by rw [← hpw]; exact hn)
        have := HLN.out
        omega
      have HGX : Hid (∀ j n, goneL W H ps i p j (n + 1) = goneL W H ps i p j n ++ [(x + n * dx, y + j * dy)]) := Lib.hid fun j n => by rw [hx, hy, hdx, hdy]; exact goneL_next W H ps i p j n
      have HGR : Hid (∀ j, goneL W H ps i p j pw = goneL W H ps i p (j + 1) 0) := Lib.hid fun j => by rw [hpw]; exact goneL_row W H ps i p j
      have HGP : Hid (goneL W H ps i p ph 0 = visL W H (ps.take (i + 1))) := Lib.hid (by rw [hph]; exact goneL_pass W H ps hp)
      have HGS : Hid (visL W H (ps.take i) = goneL W H ps i p 0 0) := Lib.hid (goneL_start W H ps i p).symm
      rw [← hpw, ← hph] at har
      obtain ⟨m, hm⟩ : ∃ m, m = pw * ph := ⟨_, rfl⟩
      rw [← hm] at har
      have e4 : (pw : Int) * (ph : Int) = (m : Int) := by rw [hm, Int.natCast_mul]
      have hm2 : m ≤ 4096 := by have := HT.out; omega
      have hpw1 : 1 ≤ pw := by rw [hpw]; exact ok2
      have hph1 : 1 ≤ ph := by rw [hph]; exact ok3
      have hpw2 : pw ≤ 1024 := by rw [hpw]; exact Nat.le_trans (manyL_le _ _ _ s3) (by omega)
      have hph2 : ph ≤ 1024 := by rw [hph]; exact Nat.le_trans (manyL_le _ _ _ s5) (by omega)
      unfold p6 at k0 k1 k2 k3 k4 k5
      dsimp only at k0 k1 k2 k3 k4 k5
      rw [← hx] at k0 s1
      rw [← hy] at k1 s2
      rw [← hdx] at k2 s3 s4
      rw [← hdy] at k3 s5 s6
      rw [← hpw] at k4
      rw [← hph] at k5
      have i0 : (0 : Int) ≤ (i : Int) := by omega
      have i1 : (i : Int) < (N : Int) := by omega
      have q1 : decide ((pw : Int) < 1) = false := decide_eq_false (by omega)
      have q2 : decide ((ph : Int) < 1) = false := decide_eq_false (by omega)
      have q3 : decide ((x : Int) < 0) = false := decide_eq_false (by omega)
      have q4 : decide ((y : Int) < 0) = false := decide_eq_false (by omega)
      have q5 : decide ((dx : Int) < 1) = false := decide_eq_false (by omega)
      have q6 : decide ((dy : Int) < 1) = false := decide_eq_false (by omega)
      have q7 : decide ((4096 : Int) < (m : Int)) = false := decide_eq_false (by omega)
      clear hq hp hpm ok1 ok2 ok3 hx hy hdx hdy hpw hph har hm
      go_upto_region 9 with (fail)
      obtain ⟨w3, hw3⟩ : ∃ z, z = wr.alloc (.cells #[.int .i64 x, .int .i64 y, .int .i64 dx, .int .i64 dy, .int .i64 pw, .int .i64 ph] 34) := ⟨_, rfl⟩
      obtain ⟨gp, hgp⟩ : ∃ g, g = wr.heap.size := ⟨_, rfl⟩
      have HI : Hid (Is w3 gp 34 #[.int .i64 x, .int .i64 y, .int .i64 dx, .int .i64 dy, .int .i64 pw, .int .i64 ph]) := Lib.hid (by rw [hw3, hgp]; exact Is.fresh _ _ _)
      have hgpm : gp ≠ gm := by have := HO.out.2.2.1.lt; omega
      have HO3 : Hid (OnS w w.heap.size gm W H d c l (some ⟨g, o, none⟩) N L (goneL W H ps i p 0 0) w3) := Lib.hid (by rw [← HGS.out, hw3]; exact HO.out.but ((But.refl [] wr).alloc _))
      rw [← hw3, ← hgp]
      have HGM := Lib.hid hgpm
      clear hw3 hgp hgpm HO k0 k1 k2 k3 k4 k5 hg
      have j0 := HI.out.cell 0
      have j1 := HI.out.cell 1
      have j2 := HI.out.cell 2
      have j3 := HI.out.cell 3
      have j4 := HI.out.cell 4
      have j5 := HI.out.cell 5
      go_wp2_with fail
      clear j0 j1 j2 j3 j4 j5
      go_loopw [7] (fun jv wy => ∃ j : Nat, j ≤ ph ∧ jv = .int .i64 j ∧ Hid (OnS w w.heap.size gm W H d c l (some ⟨g, o, none⟩) N L (goneL W H ps i p j 0) wy) ∧ Hid (Is wy gp 34 #[.int .i64 x, .int .i64 y, .int .i64 dx, .int .i64 dy, .int .i64 pw, .int .i64 ph])) (fun jv _ => ph - (intOf jv).toNat)
      case atStart => exact ⟨0, Nat.zero_le _, rfl, HO3, HI⟩
      case round =>
        clear HO3 HI
        obtain ⟨j, hj, rfl, HO, HI⟩ := hrel
        have j5 := HI.out.cell 5
        by_cases hjl : j < ph
        · go_wp2_with fail
          clear j5
          go_loopw [8] (fun nv wz => ∃ n : Nat, n ≤ pw ∧ nv = .int .i64 n ∧ Hid (OnS w w.heap.size gm W H d c l (some ⟨g, o, none⟩) N L (goneL W H ps i p j n) wz) ∧ Hid (Is wz gp 34 #[.int .i64 x, .int .i64 y, .int .i64 dx, .int .i64 dy, .int .i64 pw, .int .i64 ph])) (fun nv _ => pw - (intOf nv).toNat)
          case atStart => exact ⟨0, Nat.zero_le _, rfl, HO, HI⟩
          case round =>
            clear HO HI
            obtain ⟨n, hn, rfl, HO, HI⟩ := hrel
            have j0 := HI.out.cell 0
            have j1 := HI.out.cell 1
            have j2 := HI.out.cell 2
            have j3 := HI.out.cell 3
            have j4 := HI.out.cell 4
            have j5 := HI.out.cell 5
            by_cases hnl : n < pw
            · obtain ⟨nd, hnd⟩ : ∃ z, z = n * dx := ⟨_, rfl⟩
              obtain ⟨jd, hjd⟩ : ∃ z, z = j * dy := ⟨_, rfl⟩
              have hpl := HPL.out j n hjl hnl
              have hgn := HGN.out j n hjl hnl
              have hgx := HGX.out j n
              rw [← hnd, ← hjd] at hpl hgn hgx
              obtain ⟨X, hX⟩ : ∃ z, z = x + nd := ⟨_, rfl⟩
              obtain ⟨Y, hY⟩ : ∃ z, z = y + jd := ⟨_, rfl⟩
              rw [← hX, ← hY] at hpl hgn hgx
              have e5 : (n : Int) * (dx : Int) = (nd : Int) := by rw [hnd, Int.natCast_mul]
              have e6 : (j : Int) * (dy : Int) = (jd : Int) := by rw [hjd, Int.natCast_mul]
              have e7 : (x : Int) + (nd : Int) = (X : Int) := by omega
              have e8 : (y : Int) + (jd : Int) = (Y : Int) := by omega
              obtain ⟨hp1, hp2⟩ := hpl
              have q8 : decide ((W : Int) ≤ (X : Int)) = false := decide_eq_false (by omega)
              have q9 : decide ((H : Int) ≤ (Y : Int)) = false := decide_eq_false (by omega)
              have HGNH := Lib.hid hgn
              have HGXH := Lib.hid hgx
              have HLEN := Lib.hid (HGL.out j n hjl (by omega))
              have hal := (But.refl [] wr).alloc (.cells #[.int .i64 X, .int .i64 Y] 35)
              have HO4 := Lib.hid (HO.out.but hal)
              have HI4 := Lib.hid (HI.out.but hal (by simp))
              have klook := HO4.out.2.2.1.look (x := X) (y := Y) (by omega) (by omega) hgn
              have z0 := HO.out.1.cell 0
              have z1 := HO.out.1.cell 1
              have hgl := HO.out.1.lt
              have hpl2 := HI.out.lt
              clear hnd hjd hgn hgx hX hY hal
              go_wp2_with (at_mapUpdate; refine wpList_mapUpdate_set _ rfl _ _ _ rfl (b := gm) (L := goneL W H ps i p j n) rfl HO4.out.2.2.1 (i := X) (j := Y) rfl rfl (by omega) (by omega) HGNH.out HLEN.out ?_)
              intro w9 HS9 HG9
              have HO9 : Hid (OnS w w.heap.size gm W H d c l (some ⟨g, o, none⟩) N L (goneL W H ps i p j (n + 1)) w9) := Lib.hid (by rw [HGXH.out]; exact HO4.out.put HG9.out HS9.out)
              have HI9 : Hid (Is w9 gp 34 #[.int .i64 x, .int .i64 y, .int .i64 dx, .int .i64 dy, .int .i64 pw, .int .i64 ph]) := Lib.hid (HI4.out.grown HG9.out (by have := HGM.out; simpa using this))
              go_wp2
              go_roundw
              case rel => exact ⟨n + 1, by omega, by go_num, HO9, HI9⟩
              case measure => simp [intOf] <;> omega
            · obtain rfl : n = pw := by omega
              have HO9 : Hid (OnS w w.heap.size gm W H d c l (some ⟨g, o, none⟩) N L (goneL W H ps i p (j + 1) 0) wr) := Lib.hid (by rw [← HGR.out]; exact HO.out)
              go_wp2
              go_roundw
              case rel => exact ⟨j + 1, by omega, by go_num, HO9, HI⟩
              case measure => simp [intOf] <;> omega
        · obtain rfl : j = ph := by omega
          have HO9 : Hid (OnS w w.heap.size gm W H d c l (some ⟨g, o, none⟩) N L (visL W H (ps.take (i + 1))) wr) := Lib.hid (by rw [← HGP.out]; exact HO.out)
          go_wp2
          go_roundw
          case rel => exact ⟨i + 1, by omega, by go_num, HO9⟩
          case measure => simp [intOf] <;> omega
    · obtain rfl : i = N := by omega
      have hsl : (visL W H (ps.take i)).length = t := by rw [HNL.out, List.take_length]; exact HLN.out
      have klen := fun ty => HO.out.2.2.1.len ty
      rw [hsl] at klen
      have z0 := HO.out.1.cell 0
      have z1 := HO.out.1.cell 1
      have HB := Lib.hid HO.out.2.2.2.1
      clear hsl
      go_wp2_with fail
      refine (HA.out _ HB.out).mono ?_
      rintro e w1 ⟨rfl, hB⟩
      have HB := Lib.hid (HB.out.trans hB)
      clear hB
      go_wp2
      go_ret
      exact ⟨rfl, HB.out.belowL⟩
end Go.Proofs.YtookfoanggjnkaaDoor
