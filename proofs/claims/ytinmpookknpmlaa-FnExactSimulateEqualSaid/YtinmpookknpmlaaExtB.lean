/- Simulators and extractors: the reference's functions. -/
import Derived.Test.YtinmpookknpmlaaExtF
namespace Go.Proofs.Ytinmpookknpmlaa
open Go.RowKit
set_option linter.unusedVariables false
set_option linter.unusedSimpArgs false

theorem nMod_em (a m : Int) (h0 : -m < a) (h1 : a < m) (h2 : 2 ≤ m) (h3 : m ≤ 2000000000) (w : World) :
    Calls Try.prog 114 #[.int .i64 a, .int .i64 m] w fun e w' => e = .returned (.int .i64 (a % m)) ∧ w = w' := by
  have e : (if a < 0 then a + m else a) = a % m := by
    split
    · rw [← Int.add_emod_right, Int.emod_eq_of_lt (by omega) (by omega)]
    · rw [Int.emod_eq_of_lt (by omega) (by omega)]
  have h := nMod_any a m h0 h1 h2 h3 w
  rwa [e] at h
set_option maxHeartbeats 1600000 in
/-- nInverse at a difference of residues. -/
theorem nInverse_mod (a m : Int) (g0 : -m < a) (g1 : a < m) (h0 : 2 ≤ m) (h2 : m ≤ 2000000000) (w : World) :
    Calls Try.prog 113 #[.int .i64 a, .int .i64 m] w fun e w' => e = .returned (.tuple #[.int .i64 (Num.ninv (a % m) m), .bool (Num.invOk (a % m) m)]) ∧ w = w' := by
  obtain ⟨r0, hr⟩ := Int.eq_ofNat_of_zero_le (Int.emod_nonneg a (show m ≠ 0 by omega))
  have hrl : a % m < m := Int.emod_lt_of_pos _ (by omega)
  have HM := Lib.hid (nMod_em a m g0 g1 h0 h2)
  rw [hr] at HM hrl ⊢
  obtain ⟨m, rfl⟩ := Int.eq_ofNat_of_zero_le (show 0 ≤ m by omega)
  clear hr
  have h2 : m ≤ 2000000000 := by omega
  have h0 : 2 ≤ m := by omega
  have hst := Num.bd_start (m := m) (a := r0) (by omega)
  have hm : 0 < (m : Int) := by omega
  have hq : (r0 : Int) / (m : Int) = 0 := Int.ediv_eq_zero_of_lt (by omega) (by omega)
  have HQ := Lib.hid hq
  have hrm : r0 < m := by omega
  clear hq g0 g1
  go_enter Try.func113, Try.ntmps113
  go_wp2_with (go_at_call 114; refine (HM.out _).mono ?_; rintro e w' ⟨rfl, rfl⟩)
  go_loop [6, 7, 8, 9] (fun R S X Y => ∃ (r s : Nat) (x y : Int), (0 ≤ (r : Int) ∧ (r : Int) ≤ 2000000000 ∧ 0 ≤ (s : Int) ∧ (s : Int) ≤ 2000000000 ∧ -2000000000 ≤ x ∧ x ≤ 2000000000 ∧ -2000000000 ≤ y ∧ y ≤ 2000000000) ∧ ((r = r0 ∧ s = m ∧ x = 1 ∧ y = 0) ∨ (Num.Bd m r s x y ∧ Num.eg m r0 0 1 = Num.eg r s x y)) ∧ R = .int .i64 r ∧ S = .int .i64 s ∧ X = .int .i64 x ∧ Y = .int .i64 y) (fun R S _ _ => (intOf S).toNat)
  case atStart => exact ⟨r0, m, 1, 0, by omega, .inl ⟨rfl, rfl, rfl, rfl⟩, rfl, rfl, rfl, rfl⟩
  case round =>
    obtain ⟨r, s, x, y, ⟨b1, b2, b3, b4, b5, b6, b7, b8⟩, hor, rfl, rfl, rfl, rfl⟩ := hrel
    rcases hor with ⟨rfl, rfl, rfl, rfl⟩ | ⟨hb, he⟩
    · have hs1 : ((s : Int) == 0) = false := by simp; omega
      have hq := HQ.out
      go_wp2
      go_round
      case rel =>
        refine ⟨s, r, 0, 1, by omega, .inr ⟨hst, rfl⟩, rfl, ?_, rfl, rfl⟩
        rfl
      case measure =>
        simp only [intOf]
        omega
    · have HB := Lib.hid hb
      have HE := Lib.hid he
      clear hb he hst
      by_cases hs : s = 0
      · subst hs
        have HZ := Lib.hid (ninv_end HE.out)
        have hxy := Num.bd_xy HB.out
        by_cases hx : x < 0
        · go_wp2_with (go_at_call 114; refine (nMod_neg _ _ (by omega) (by omega) (by omega) (by omega) _).mono ?_; rintro e w' ⟨rfl, rfl⟩)
          go_ret2
          refine ⟨?_, rfl⟩
          rw [HZ.out.2.2, HZ.out.1 hx]
          rfl
        · go_wp2_with (go_at_call 114; refine (nMod_nn _ _ (by omega) (by omega) (by omega) (by omega) _).mono ?_; rintro e w' ⟨rfl, rfl⟩)
          go_ret2
          refine ⟨?_, rfl⟩
          rw [HZ.out.2.2, HZ.out.2.1 (by omega)]
          rfl
      · obtain ⟨⟨c1, c2⟩, ⟨c3, c4⟩, ⟨c5, c6⟩, ⟨c7, c8⟩, c9, c10⟩ := inv_round HB.out hs h2
        have hs0 : 0 < (s : Int) := by omega
        have hs1 : ((s : Int) == 0) = false := by simp; omega
        go_wp2
        go_round
        case rel =>
          obtain ⟨n1, n2, n3⟩ := inv_next HB.out hs
          refine ⟨s, r % s, y, _, ?_, .inr ⟨n2, HE.out.trans n3⟩, rfl, by rw [n1], rfl, rfl⟩
          omega
        case measure =>
          have n1 := (inv_next HB.out hs).1
          have n2 := Nat.mod_lt r (show s > 0 by omega)
          simp only [intOf]
          omega
theorem gExp_neg (P Q G x e : Int) (h1 : 0 ≤ x) (h2 : x ≤ 2000000000) (h3 : 0 ≤ e) (h4 : e < Q) (h5 : 2 ≤ P) (h6 : P ≤ 2000000000) (h7 : 2 ≤ Q) (h8 : Q ≤ 2000000000) (w : World) :
    Calls Try.prog 98 #[gv P Q G, .int .i64 x, .int .i64 (-e)] w (EqOut (.int .i64 (Num.pow x ((-e) % Q) P)) w) := by
  have hr : 0 ≤ (-e) % Q ∧ (-e) % Q < Q := ⟨Int.emod_nonneg _ (by omega), Int.emod_lt_of_pos _ (by omega)⟩
  have HM := Lib.hid (nMod_em (-e) Q (by omega) (by omega) h7 h8)
  generalize hk : (-e) % Q = k at hr HM ⊢
  clear hk
  go_enter Try.func98, Try.ntmps98
  go_wp2_with fail
  go_quiet (first | (go_at_call 114; refine quietly (HM.out _)) | (go_at_call 93; refine quietly (nPower_any _ _ _ h1 h2 hr.1 (by omega) h5 h6 _)))
  go_wp2
  go_ret
  exact ⟨rfl, below_drewN (ba _ _) _⟩

set_option maxRecDepth 100000 in
set_option maxHeartbeats 3200000 in
theorem xTranscript_any (P Q G c e z : Int) (hmo : Mo P Q) (hq : 2 ≤ Q ∧ Q ≤ 2000000000) (w : World) :
    Calls Try.prog 75 #[gv P Q G, gv c e z] w (EqOut (.bool (trB P Q c e z)) w) := by
  have G_0 := Lib.hid ((gr_at w (w.heap.size) (by simp) P Q G 32).below (ba (w.alloc (.cells #[.int .i64 P, .int .i64 Q, .int .i64 G] 32)) (.cells #[.int .i64 c, .int .i64 e, .int .i64 z] 63)))
  have T_0 := Lib.hid (gr_at (w.alloc (.cells #[.int .i64 P, .int .i64 Q, .int .i64 G] 32)) (w.heap.size + 1) (by simp) c e z 63)
  have HB_0 := Lib.hid (show Below w.heap.size w ((w.alloc (.cells #[.int .i64 P, .int .i64 Q, .int .i64 G] 32)).alloc (.cells #[.int .i64 c, .int .i64 e, .int .i64 z] 63)) from bt (ba _ _) (ba _ _))
  obtain ⟨gG0, gG1, gG2⟩ := G_0.out
  obtain ⟨gT0, gT1, gT2⟩ := T_0.out
  generalize hW : (w.alloc (.cells #[.int .i64 P, .int .i64 Q, .int .i64 G] 32)).alloc (.cells #[.int .i64 c, .int .i64 e, .int .i64 z] 63) = W at *
  cases h0 : elB P Q c
  · have K0 := Lib.hid ((allEl_one P Q c).trans h0)
    rw [tr_two, h0, Bool.false_and]
    clear h0
    go_enter Try.func75, Try.ntmps75
    go_wp2_with fail
    refine (gIs_any P Q G hmo _ 1 1 [c] rfl (by decide) _ (ints_spot W _ rfl [c] 3)).mono ?_
    rw [K0.out]
    rintro e' v1 ⟨rfl, hb⟩
    have HB_1 := Lib.hid (bt HB_0.out (bt (ba W _) hb))
    have T_1 := Lib.hid (T_0.out.below (bt (ba W _) hb))
    have G_1 := Lib.hid (G_0.out.below (bt (ba W _) hb))
    clear hb gG0 gG1 gG2 gT0 gT1 gT2
    obtain ⟨gG0, gG1, gG2⟩ := G_1.out
    obtain ⟨gT0, gT1, gT2⟩ := T_1.out
    go_wp2
    go_ret
    exact ⟨rfl, HB_1.out⟩
  have K0 := Lib.hid ((allEl_one P Q c).trans h0)
  rw [tr_two, h0, Bool.true_and]
  clear h0
  go_enter Try.func75, Try.ntmps75
  go_wp2_with fail
  refine (gIs_any P Q G hmo _ 1 1 [c] rfl (by decide) _ (ints_spot W _ rfl [c] 3)).mono ?_
  rw [K0.out]
  rintro e' v1 ⟨rfl, hb⟩
  have HB_1 := Lib.hid (bt HB_0.out (bt (ba W _) hb))
  have T_1 := Lib.hid (T_0.out.below (bt (ba W _) hb))
  have G_1 := Lib.hid (G_0.out.below (bt (ba W _) hb))
  clear hb gG0 gG1 gG2 gT0 gT1 gT2
  obtain ⟨gG0, gG1, gG2⟩ := G_1.out
  obtain ⟨gT0, gT1, gT2⟩ := T_1.out
  go_wp2_with fail
  refine (gExps_any P Q G ⟨by omega, by omega⟩ _ 2 2 [e, z] rfl (by decide) _ (ints_lit v1 [e, z] 3)).mono ?_
  rintro e' v2 ⟨rfl, hb⟩
  have HB_2 := Lib.hid (bt HB_1.out (bt (ba v1 _) hb))
  clear hb
  go_wp2
  go_ret
  exact ⟨rfl, HB_2.out⟩

set_option maxRecDepth 100000 in
set_option maxHeartbeats 3200000 in
theorem sRespondTo_any (P Q G s c e : Int) (w : World) :
    Calls Try.prog 36 #[gv P Q G, .int .i64 s, .int .i64 c, .int .i64 e] w (EqOut (.tuple #[.int .i64 (rtV P Q G s c e), .bool (rtB P Q G s c e)]) w) := by
  have G_0 := Lib.hid (gr_at w (w.heap.size) (by simp) P Q G 32)
  have HB_0 := Lib.hid (show Below w.heap.size w (w.alloc (.cells #[.int .i64 P, .int .i64 Q, .int .i64 G] 32)) from ba _ _)
  cases h0 : goodB P Q G
  · have K0 := Lib.hid (show goodB P Q G = false from h0)
    have E1 := Lib.hid (show rtB P Q G s c e = false by simp [rtB, h0])
    rw [E1.out, rt_off E1.out]
    clear h0
    obtain ⟨gG0, gG1, gG2⟩ := G_0.out
    go_enter Try.func36, Try.ntmps36
    go_wp2_with fail
    refine (l2Good_any P Q G _).mono ?_
    rw [K0.out]
    rintro e v1 ⟨rfl, hb⟩
    have HB_1 := Lib.hid (bt HB_0.out hb)
    have G_1 := Lib.hid (G_0.out.below hb)
    clear hb gG0 gG1 gG2
    obtain ⟨gG0, gG1, gG2⟩ := G_1.out
    go_wp2
    go_ret2
    exact ⟨rfl, HB_1.out⟩
  have K0 := Lib.hid (show goodB P Q G = true from h0)
  have hmo := good_mo h0
  have hgr := good_rng h0
  have hgd := h0
  cases h1 : allIn [s, c, e] 0 (Q - 1)
  · have K1 := Lib.hid (show allIn [s, c, e] 0 (Q - 1) = false from h1)
    have E1 := Lib.hid (show rtB P Q G s c e = false by simp [rtB, h0, h1])
    rw [E1.out, rt_off E1.out]
    clear h0 h1
    obtain ⟨gG0, gG1, gG2⟩ := G_0.out
    go_enter Try.func36, Try.ntmps36
    go_wp2_with fail
    refine (l2Good_any P Q G _).mono ?_
    rw [K0.out]
    rintro e v1 ⟨rfl, hb⟩
    have HB_1 := Lib.hid (bt HB_0.out hb)
    have G_1 := Lib.hid (G_0.out.below hb)
    clear hb gG0 gG1 gG2
    obtain ⟨gG0, gG1, gG2⟩ := G_1.out
    go_wp2_with fail
    refine (gExps_any P Q G ⟨by omega, by omega⟩ _ 3 3 [s, c, e] rfl (by decide) _ (ints_lit v1 [s, c, e] 3)).mono ?_
    rw [K1.out]
    rintro e v2 ⟨rfl, hb0⟩
    have hb := bt (ba v1 _) hb0
    clear hb0
    have HB_2 := Lib.hid (bt HB_1.out hb)
    have G_2 := Lib.hid (G_1.out.below hb)
    clear hb gG0 gG1 gG2
    obtain ⟨gG0, gG1, gG2⟩ := G_2.out
    go_wp2
    go_ret2
    exact ⟨rfl, HB_2.out⟩
  have K1 := Lib.hid (show allIn [s, c, e] 0 (Q - 1) = true from h1)
  obtain ⟨hs, hc, he⟩ := in_three h1
  have E1 := Lib.hid (show rtB P Q G s c e = true by simp [rtB, h0, h1])
  rw [E1.out, rt_on E1.out]
  obtain ⟨p0, p1⟩ := prod_bd (a := e) (z := s) he.1 (by omega) hs.1 (by omega)
  clear h0 h1 hgd
  obtain ⟨gG0, gG1, gG2⟩ := G_0.out
  go_enter Try.func36, Try.ntmps36
  go_wp2_with fail
  refine (l2Good_any P Q G _).mono ?_
  rw [K0.out]
  rintro e v1 ⟨rfl, hb⟩
  have HB_1 := Lib.hid (bt HB_0.out hb)
  have G_1 := Lib.hid (G_0.out.below hb)
  clear hb gG0 gG1 gG2
  obtain ⟨gG0, gG1, gG2⟩ := G_1.out
  go_wp2_with fail
  refine (gExps_any P Q G ⟨by omega, by omega⟩ _ 3 3 [s, c, e] rfl (by decide) _ (ints_lit v1 [s, c, e] 3)).mono ?_
  rw [K1.out]
  rintro e v2 ⟨rfl, hb0⟩
  have hb := bt (ba v1 _) hb0
  clear hb0
  have HB_2 := Lib.hid (bt HB_1.out hb)
  have G_2 := Lib.hid (G_1.out.below hb)
  clear hb gG0 gG1 gG2
  obtain ⟨gG0, gG1, gG2⟩ := G_2.out
  go_wp2
  go_ret2
  exact ⟨rfl, HB_2.out⟩

set_option maxRecDepth 100000 in
set_option maxHeartbeats 3200000 in
theorem xAccepts_any (P Q G b y c e z : Int) (hg : goodB P Q G = true) (hb : elB P Q b = true) (hy : elB P Q y = true) (hc : elB P Q c = true) (he : 0 ≤ e ∧ e < Q) (hz : 0 ≤ z ∧ z < Q) (w : World) :
    Calls Try.prog 76 #[gv P Q G, .int .i64 b, .int .i64 y, gv c e z] w (EqOut (.bool (accW P b y c e z)) w) := by
  have hmo := good_mo hg
  have hgr := good_rng hg
  have hP : 2 ≤ P ∧ P ≤ 2000000000 := hmo.1
  have hQ2 : 2 ≤ Q ∧ Q ≤ 2000000000 := hgr.2.1
  have HA := Lib.hid (el_rng hb)
  have HY := Lib.hid (el_rng hy)
  have hcr := el_rng hc
  have hyr := pow_lt y e P hP.1
  have E := Lib.hid (show accW P b y c e z = (Num.pow b z P == mulFrom P 1 [c, Num.pow y e P]) by unfold accW; rw [mulFrom_two hcr.1 hcr.2]; simp [BEq.beq])
  have HM := Lib.hid (show ∀ t ∈ [c, Num.pow y e P], 0 ≤ t ∧ t < P from fun t ht => by
    simp only [List.mem_cons, List.not_mem_nil, or_false] at ht
    rcases ht with rfl | rfl
    · exact hcr
    · exact hyr)
  generalize hp1 : Num.pow b z P = p1 at E
  generalize hp2 : Num.pow y e P = p2 at E HM
  generalize hm : mulFrom P 1 [c, p2] = m at E
  have P1 := Lib.hid hp1
  have P2 := Lib.hid hp2
  have P3 := Lib.hid hm
  rw [E.out]
  clear hp1 hp2 hm hg hb hy hc hmo hgr hcr hyr E
  have G_0 := Lib.hid ((gr_at w (w.heap.size) (by simp) P Q G 32).below (ba (w.alloc (.cells #[.int .i64 P, .int .i64 Q, .int .i64 G] 32)) (.cells #[.int .i64 c, .int .i64 e, .int .i64 z] 63)))
  have T_0 := Lib.hid (gr_at (w.alloc (.cells #[.int .i64 P, .int .i64 Q, .int .i64 G] 32)) (w.heap.size + 1) (by simp) c e z 63)
  have HB_0 := Lib.hid (show Below w.heap.size w ((w.alloc (.cells #[.int .i64 P, .int .i64 Q, .int .i64 G] 32)).alloc (.cells #[.int .i64 c, .int .i64 e, .int .i64 z] 63)) from bt (ba _ _) (ba _ _))
  obtain ⟨g0, g1, g2⟩ := G_0.out
  obtain ⟨t0, t1, t2⟩ := T_0.out
  go_enter Try.func76, Try.ntmps76
  go_wp2_with fail
  go_region_held3 (fun w' => (w'.cell? ⟨w.heap.size, 0, none⟩ = some (.int .i64 P) ∧ w'.cell? ⟨w.heap.size, 1, none⟩ = some (.int .i64 Q) ∧ w'.cell? ⟨w.heap.size, 2, none⟩ = some (.int .i64 G)) ∧ w'.cell? ⟨w.heap.size + 1, 0, none⟩ = some (.int .i64 c) ∧ w'.cell? ⟨w.heap.size + 1, 1, none⟩ = some (.int .i64 e) ∧ w'.cell? ⟨w.heap.size + 1, 2, none⟩ = some (.int .i64 z)) (first | with_reducible exact ⟨⟨s0, s1, s2⟩, r0, r1, r2⟩ | with_reducible exact ⟨⟨x0, x1, x2⟩, y0, y1, y2⟩ | with_reducible exact ⟨⟨u0, u1, u2⟩, q0, q1, q2⟩ | with_reducible exact ⟨⟨g0, g1, g2⟩, t0, t1, t2⟩ | exact ⟨GR.below Gq.out (ba vq _), GR.below Tq.out (ba vq _)⟩ | exact ⟨⟨g0, g1, g2⟩, t0, t1, t2⟩) ((first
    | (go_at_call 98; (with_reducible refine (gExp_any P Q G b z HA.out.1 (by have := HA.out.2; omega) hz.1 hz.2 hP.1 hP.2 hQ2.1 hQ2.2 _).mono ?_); rw [P1.out]; rintro e' vp ⟨rfl, hp⟩; have HBp := Lib.hid (bt_drop HB_0.out hp); have Gp := Lib.hid (gr_drop G_0.out hp); have Tp := Lib.hid (gr_drop T_0.out hp); obtain ⟨s0, s1, s2⟩ := Gp.out; obtain ⟨r0, r1, r2⟩ := Tp.out; clear hp)
    | (go_at_call 98; (with_reducible refine (gExp_any P Q G y e HY.out.1 (by have := HY.out.2; omega) he.1 he.2 hP.1 hP.2 hQ2.1 hQ2.2 _).mono ?_); rw [P2.out]; rintro e' vq ⟨rfl, hp⟩; have HBq := Lib.hid (bt HBp.out hp); have Gq := Lib.hid (Gp.out.below hp); have Tq := Lib.hid (Tp.out.below hp); obtain ⟨x0, x1, x2⟩ := Gq.out; obtain ⟨y0, y1, y2⟩ := Tq.out; clear hp)
    | (go_at_call 97; refine (gMul_any P Q G _ 2 2 [c, p2] rfl (by decide) hP.1 hP.2 HM.out _ (ints_lit vq [c, p2] 3)).mono ?_; rw [P3.out]; rintro e' vr ⟨rfl, hp⟩; have hpl := bt (ba vq _) hp; have HBr := Lib.hid (bt HBq.out hpl); obtain ⟨u0, u1, u2⟩ := Gq.out.below hpl; obtain ⟨q0, q1, q2⟩ := Tq.out.below hpl; clear hp hpl)
    | fail))
  all_goals (
    go_wp2
    go_ret
    exact ⟨rfl, HBr.out⟩)

set_option maxRecDepth 100000 in
set_option maxHeartbeats 3200000 in
theorem xSimulate_any (P Q G b y e z : Int) (hg : goodB P Q G = true) (hb : elB P Q b = true) (hy : elB P Q y = true) (he : 0 ≤ e ∧ e < Q) (hz : 0 ≤ z ∧ z < Q) (w : World) :
    Calls Try.prog 80 #[gv P Q G, .int .i64 b, .int .i64 y, .int .i64 e, .int .i64 z] w (EqOut (gv (simW P Q b y e z) e z) w) := by
  have hmo := good_mo hg
  have hgr := good_rng hg
  have hP : 2 ≤ P ∧ P ≤ 2000000000 := hmo.1
  have hQ2 : 2 ≤ Q ∧ Q ≤ 2000000000 := hgr.2.1
  have HA := Lib.hid (el_rng hb)
  have HY := Lib.hid (el_rng hy)
  have hxr := pow_lt b z P hP.1
  have hyr := pow_lt y ((-e) % Q) P hP.1
  have E := Lib.hid (show simW P Q b y e z = mulFrom P 1 [Num.pow b z P, Num.pow y ((-e) % Q) P] by rw [sim_neg hg hb hy he hz.1, mulFrom_two hxr.1 hxr.2])
  have HM := Lib.hid (show ∀ t ∈ [Num.pow b z P, Num.pow y ((-e) % Q) P], 0 ≤ t ∧ t < P from fun t ht => by
    simp only [List.mem_cons, List.not_mem_nil, or_false] at ht
    rcases ht with rfl | rfl
    · exact hxr
    · exact hyr)
  generalize hp1 : Num.pow b z P = p1 at E HM
  generalize hp2 : Num.pow y ((-e) % Q) P = p2 at E HM
  generalize hm : simW P Q b y e z = m at E ⊢
  have P1 := Lib.hid hp1
  have P2 := Lib.hid hp2
  have hng : IntKind.i64.wrap (-e) = -e := by rw [IntKind.wrap_i64]; omega
  have hng0 : IntKind.i64.wrap (0 - e) = -e := by rw [IntKind.wrap_i64]; omega
  clear hp1 hp2 hm hg hb hy hmo hgr hxr hyr
  have G_0 := Lib.hid ((gr_at w (w.heap.size) (by simp) P Q G 32).below (ba (w.alloc (.cells #[.int .i64 P, .int .i64 Q, .int .i64 G] 32)) (.cells #[.int .i64 0, .int .i64 0, .int .i64 0] 63)))
  have R_0 := Lib.hid (show Own3 ((w.alloc (.cells #[.int .i64 P, .int .i64 Q, .int .i64 G] 32)).alloc (.cells #[.int .i64 0, .int .i64 0, .int .i64 0] 63)) (w.heap.size + 1) 0 0 0 from by have h := own3_new (w.alloc (.cells #[.int .i64 P, .int .i64 Q, .int .i64 G] 32)) 0 0 0 63; rwa [show (w.alloc (.cells #[.int .i64 P, .int .i64 Q, .int .i64 G] 32)).heap.size = w.heap.size + 1 by simp] at h)
  have HB_0 := Lib.hid (show Below w.heap.size w ((w.alloc (.cells #[.int .i64 P, .int .i64 Q, .int .i64 G] 32)).alloc (.cells #[.int .i64 0, .int .i64 0, .int .i64 0] 63)) from bt (ba _ _) (ba _ _))
  obtain ⟨g0, g1, g2⟩ := G_0.out
  go_enter Try.func80, Try.ntmps80
  go_wp2_with fail
  go_region_held3 (fun w' => w'.cell? ⟨w.heap.size, 0, none⟩ = some (.int .i64 P) ∧ w'.cell? ⟨w.heap.size, 1, none⟩ = some (.int .i64 Q) ∧ w'.cell? ⟨w.heap.size, 2, none⟩ = some (.int .i64 G)) (first | with_reducible exact ⟨s0, s1, s2⟩ | with_reducible exact ⟨x0, x1, x2⟩ | with_reducible exact ⟨u0, u1, u2⟩ | with_reducible exact ⟨g0, g1, g2⟩ | exact GR.below Gq.out (ba vq _) | exact gr_three Gr.out (by omega) _ _ _ | exact ⟨g0, g1, g2⟩) ((first
    | (go_at_call 98; (with_reducible refine (gExp_any P Q G b z HA.out.1 (by have := HA.out.2; omega) hz.1 hz.2 hP.1 hP.2 hQ2.1 hQ2.2 _).mono ?_); rw [P1.out]; rintro e' vp ⟨rfl, hp⟩; have HBp := Lib.hid (bt_drop HB_0.out hp); have Gp := Lib.hid (gr_drop G_0.out hp); have Rp := Lib.hid (own3_drop R_0.out hp); obtain ⟨s0, s1, s2⟩ := Gp.out; clear hp)
    | (go_at_call 98; (with_reducible refine (gExp_neg P Q G y e HY.out.1 (by have := HY.out.2; omega) he.1 he.2 hP.1 hP.2 hQ2.1 hQ2.2 _).mono ?_); rw [P2.out]; rintro e' vq ⟨rfl, hp⟩; have HBq := Lib.hid (bt HBp.out hp); have Gq := Lib.hid (Gp.out.below hp); have Rq := Lib.hid (Rp.out.below hp); obtain ⟨x0, x1, x2⟩ := Gq.out; clear hp)
    | (go_at_call 97; refine (gMul_any P Q G _ 2 2 [p1, p2] rfl (by decide) hP.1 hP.2 HM.out _ (ints_lit vq [p1, p2] 3)).mono ?_; rw [← E.out]; rintro e' vr ⟨rfl, hp⟩; have hpl := bt (ba vq _) hp; have HBr := Lib.hid (bt HBq.out hpl); have Gr := Lib.hid (Gq.out.below hpl); obtain ⟨u0, u1, u2⟩ := Gr.out; obtain ⟨⟨d0, d1, d2⟩, df⟩ := Rq.out.below hpl; have df0 := df 0; have df1 := df 1; have df2 := df 2; clear hp hpl df)
    | fail))
  all_goals (
    go_wp2
    (try simp only [Exit.inBlock, Exit.then])
    refine bodyPost_ret (v := gv m e z) ?_ rfl ⟨rfl, ?_⟩
    · rw [results_cell_one rfl]; go_simp
    · first | exact set_below3 HBr.out _ (by omega) _ _ _ | exact set_below3 HBr.out.drew _ (by omega) _ _ _)

theorem xSimulate_agg (P Q G b y e z : Int) (hg : goodB P Q G = true) (hb : elB P Q b = true) (hy : elB P Q y = true) (he : 0 ≤ e ∧ e < Q) (hz : 0 ≤ z ∧ z < Q) (w : World) :
    Calls Try.prog 80 #[gv P Q G, .int .i64 b, .int .i64 y, .int .i64 e, .int .i64 z] w fun e' w' => e' = .returned (.agg #[.int .i64 (simW P Q b y e z), .int .i64 e, .int .i64 z]) ∧ Below w.heap.size w w' := xSimulate_any P Q G b y e z hg hb hy he hz w

set_option maxRecDepth 100000 in
set_option maxHeartbeats 3200000 in
theorem sIsAccepting_any (P Q G b y c e z : Int) (w : World) :
    Calls Try.prog 38 #[gv P Q G, .int .i64 b, .int .i64 y, gv c e z] w (EqOut (.tuple #[.bool (iaV P Q G b y c e z), .bool (iaB P Q G b y c e z)]) w) := by
  have G_0 := Lib.hid ((gr_at w (w.heap.size) (by simp) P Q G 32).below (ba (w.alloc (.cells #[.int .i64 P, .int .i64 Q, .int .i64 G] 32)) (.cells #[.int .i64 c, .int .i64 e, .int .i64 z] 63)))
  have T_0 := Lib.hid (gr_at (w.alloc (.cells #[.int .i64 P, .int .i64 Q, .int .i64 G] 32)) (w.heap.size + 1) (by simp) c e z 63)
  have HB_0 := Lib.hid (show Below w.heap.size w ((w.alloc (.cells #[.int .i64 P, .int .i64 Q, .int .i64 G] 32)).alloc (.cells #[.int .i64 c, .int .i64 e, .int .i64 z] 63)) from bt (ba _ _) (ba _ _))
  cases h0 : goodB P Q G
  · have K0 := Lib.hid (show goodB P Q G = false from h0)
    have E1 := Lib.hid (show iaB P Q G b y c e z = false by simp [iaB, h0])
    rw [E1.out, ia_off E1.out]
    clear h0
    obtain ⟨gG0, gG1, gG2⟩ := G_0.out
    obtain ⟨gT0, gT1, gT2⟩ := T_0.out
    go_enter Try.func38, Try.ntmps38
    go_wp2_with fail
    refine (l2Good_any P Q G _).mono ?_
    rw [K0.out]
    rintro e v1 ⟨rfl, hb⟩
    have HB_1 := Lib.hid (bt HB_0.out hb)
    have G_1 := Lib.hid (G_0.out.below hb)
    have T_1 := Lib.hid (T_0.out.below hb)
    clear hb gG0 gG1 gG2 gT0 gT1 gT2
    obtain ⟨gG0, gG1, gG2⟩ := G_1.out
    obtain ⟨gT0, gT1, gT2⟩ := T_1.out
    go_wp2
    go_ret2
    exact ⟨rfl, HB_1.out⟩
  have K0 := Lib.hid (show goodB P Q G = true from h0)
  have hmo := good_mo h0
  have hgr := good_rng h0
  have hgd := h0
  cases h1 : allEl P Q [b, y]
  · have K1 := Lib.hid (show allEl P Q [b, y] = false from h1)
    have E1 := Lib.hid (show iaB P Q G b y c e z = false by simp [iaB, h0, h1])
    rw [E1.out, ia_off E1.out]
    clear h0 h1
    obtain ⟨gG0, gG1, gG2⟩ := G_0.out
    obtain ⟨gT0, gT1, gT2⟩ := T_0.out
    go_enter Try.func38, Try.ntmps38
    go_wp2_with fail
    refine (l2Good_any P Q G _).mono ?_
    rw [K0.out]
    rintro e v1 ⟨rfl, hb⟩
    have HB_1 := Lib.hid (bt HB_0.out hb)
    have G_1 := Lib.hid (G_0.out.below hb)
    have T_1 := Lib.hid (T_0.out.below hb)
    clear hb gG0 gG1 gG2 gT0 gT1 gT2
    obtain ⟨gG0, gG1, gG2⟩ := G_1.out
    obtain ⟨gT0, gT1, gT2⟩ := T_1.out
    go_wp2_with fail
    refine (gIs_any P Q G hmo _ 2 2 [b, y] rfl (by decide) _ (ints_lit v1 [b, y] 3)).mono ?_
    rw [K1.out]
    rintro e v2 ⟨rfl, hb0⟩
    have hb := bt (ba v1 _) hb0
    clear hb0
    have HB_2 := Lib.hid (bt HB_1.out hb)
    have G_2 := Lib.hid (G_1.out.below hb)
    have T_2 := Lib.hid (T_1.out.below hb)
    clear hb gG0 gG1 gG2 gT0 gT1 gT2
    obtain ⟨gG0, gG1, gG2⟩ := G_2.out
    obtain ⟨gT0, gT1, gT2⟩ := T_2.out
    go_wp2
    go_ret2
    exact ⟨rfl, HB_2.out⟩
  have K1 := Lib.hid (show allEl P Q [b, y] = true from h1)
  obtain ⟨hb1, hy1⟩ := el_two h1
  cases h2 : trB P Q c e z
  · have K2 := Lib.hid (show trB P Q c e z = false from h2)
    have E1 := Lib.hid (show iaB P Q G b y c e z = false by simp [iaB, h0, h1, h2])
    rw [E1.out, ia_off E1.out]
    clear h0 h1 h2
    obtain ⟨gG0, gG1, gG2⟩ := G_0.out
    obtain ⟨gT0, gT1, gT2⟩ := T_0.out
    go_enter Try.func38, Try.ntmps38
    go_wp2_with fail
    refine (l2Good_any P Q G _).mono ?_
    rw [K0.out]
    rintro e v1 ⟨rfl, hb⟩
    have HB_1 := Lib.hid (bt HB_0.out hb)
    have G_1 := Lib.hid (G_0.out.below hb)
    have T_1 := Lib.hid (T_0.out.below hb)
    clear hb gG0 gG1 gG2 gT0 gT1 gT2
    obtain ⟨gG0, gG1, gG2⟩ := G_1.out
    obtain ⟨gT0, gT1, gT2⟩ := T_1.out
    go_wp2_with fail
    refine (gIs_any P Q G hmo _ 2 2 [b, y] rfl (by decide) _ (ints_lit v1 [b, y] 3)).mono ?_
    rw [K1.out]
    rintro e v2 ⟨rfl, hb0⟩
    have hb := bt (ba v1 _) hb0
    clear hb0
    have HB_2 := Lib.hid (bt HB_1.out hb)
    have G_2 := Lib.hid (G_1.out.below hb)
    have T_2 := Lib.hid (T_1.out.below hb)
    clear hb gG0 gG1 gG2 gT0 gT1 gT2
    obtain ⟨gG0, gG1, gG2⟩ := G_2.out
    obtain ⟨gT0, gT1, gT2⟩ := T_2.out
    go_wp2_with fail
    refine (xTranscript_any P Q G c e z hmo hgr.2.1 _).mono ?_
    rw [K2.out]
    rintro e v3 ⟨rfl, hb⟩
    have HB_3 := Lib.hid (bt HB_2.out hb)
    have G_3 := Lib.hid (G_2.out.below hb)
    have T_3 := Lib.hid (T_2.out.below hb)
    clear hb gG0 gG1 gG2 gT0 gT1 gT2
    obtain ⟨gG0, gG1, gG2⟩ := G_3.out
    obtain ⟨gT0, gT1, gT2⟩ := T_3.out
    go_wp2
    go_ret2
    exact ⟨rfl, HB_3.out⟩
  have K2 := Lib.hid (show trB P Q c e z = true from h2)
  obtain ⟨hc1, he1, hz1⟩ := trB_true.1 h2
  have E1 := Lib.hid (show iaB P Q G b y c e z = true by simp [iaB, h0, h1, h2])
  rw [E1.out, ia_on E1.out]
  clear h0 h1 h2
  obtain ⟨gG0, gG1, gG2⟩ := G_0.out
  obtain ⟨gT0, gT1, gT2⟩ := T_0.out
  go_enter Try.func38, Try.ntmps38
  go_wp2_with fail
  refine (l2Good_any P Q G _).mono ?_
  rw [K0.out]
  rintro e v1 ⟨rfl, hb⟩
  have HB_1 := Lib.hid (bt HB_0.out hb)
  have G_1 := Lib.hid (G_0.out.below hb)
  have T_1 := Lib.hid (T_0.out.below hb)
  clear hb gG0 gG1 gG2 gT0 gT1 gT2
  obtain ⟨gG0, gG1, gG2⟩ := G_1.out
  obtain ⟨gT0, gT1, gT2⟩ := T_1.out
  go_wp2_with fail
  refine (gIs_any P Q G hmo _ 2 2 [b, y] rfl (by decide) _ (ints_lit v1 [b, y] 3)).mono ?_
  rw [K1.out]
  rintro e v2 ⟨rfl, hb0⟩
  have hb := bt (ba v1 _) hb0
  clear hb0
  have HB_2 := Lib.hid (bt HB_1.out hb)
  have G_2 := Lib.hid (G_1.out.below hb)
  have T_2 := Lib.hid (T_1.out.below hb)
  clear hb gG0 gG1 gG2 gT0 gT1 gT2
  obtain ⟨gG0, gG1, gG2⟩ := G_2.out
  obtain ⟨gT0, gT1, gT2⟩ := T_2.out
  go_wp2_with fail
  refine (xTranscript_any P Q G c e z hmo hgr.2.1 _).mono ?_
  rw [K2.out]
  rintro e v3 ⟨rfl, hb⟩
  have HB_3 := Lib.hid (bt HB_2.out hb)
  have G_3 := Lib.hid (G_2.out.below hb)
  have T_3 := Lib.hid (T_2.out.below hb)
  clear hb gG0 gG1 gG2 gT0 gT1 gT2
  obtain ⟨gG0, gG1, gG2⟩ := G_3.out
  obtain ⟨gT0, gT1, gT2⟩ := T_3.out
  go_wp2_with fail
  refine (xAccepts_any P Q G b y c e z hgd hb1 hy1 hc1 he1 hz1 _).mono ?_
  rintro e' v9 ⟨rfl, hb9⟩
  have HB_9 := Lib.hid (bt HB_3.out hb9)
  clear hb9
  go_wp2
  go_ret2
  exact ⟨rfl, HB_9.out⟩

set_option maxRecDepth 100000 in
set_option maxHeartbeats 3200000 in
theorem sSimulateKnowledge_any (P Q G b y e z : Int) (w : World) :
    Calls Try.prog 41 #[gv P Q G, .int .i64 b, .int .i64 y, .int .i64 e, .int .i64 z] w (EqOut (.tuple #[gv (skC P Q G b y e z) (skE P Q G b y e z) (skZ P Q G b y e z), .bool (skB P Q G b y e z)]) w) := by
  have G_0 := Lib.hid ((gr_at w (w.heap.size) (by simp) P Q G 32).below (ba (w.alloc (.cells #[.int .i64 P, .int .i64 Q, .int .i64 G] 32)) (.cells #[.int .i64 0, .int .i64 0, .int .i64 0] 63)))
  have R_0 := Lib.hid (show Own3 ((w.alloc (.cells #[.int .i64 P, .int .i64 Q, .int .i64 G] 32)).alloc (.cells #[.int .i64 0, .int .i64 0, .int .i64 0] 63)) (w.heap.size + 1) 0 0 0 from by have h := own3_new (w.alloc (.cells #[.int .i64 P, .int .i64 Q, .int .i64 G] 32)) 0 0 0 63; rwa [show (w.alloc (.cells #[.int .i64 P, .int .i64 Q, .int .i64 G] 32)).heap.size = w.heap.size + 1 by simp] at h)
  have HB_0 := Lib.hid (show Below w.heap.size w ((w.alloc (.cells #[.int .i64 P, .int .i64 Q, .int .i64 G] 32)).alloc (.cells #[.int .i64 0, .int .i64 0, .int .i64 0] 63)) from bt (ba _ _) (ba _ _))
  cases h0 : goodB P Q G
  · have K0 := Lib.hid (show goodB P Q G = false from h0)
    have E1 := Lib.hid (show skB P Q G b y e z = false by simp [skB, h0])
    obtain ⟨E2, E3, E4⟩ := sk_off E1.out
    rw [E1.out, E2, E3, E4]
    clear E2 E3 E4
    clear h0
    obtain ⟨⟨rR0, rR1, rR2⟩, rfR⟩ := R_0.out
    have rfR0 := rfR 0
    have rfR1 := rfR 1
    have rfR2 := rfR 2
    obtain ⟨gG0, gG1, gG2⟩ := G_0.out
    go_enter Try.func41, Try.ntmps41
    go_wp2_with fail
    refine (l2Good_any P Q G _).mono ?_
    rw [K0.out]
    rintro e v1 ⟨rfl, hb⟩
    have HB_1 := Lib.hid (bt HB_0.out hb)
    have G_1 := Lib.hid (G_0.out.below hb)
    have R_1 := Lib.hid (R_0.out.below hb)
    clear hb gG0 gG1 gG2 rR0 rR1 rR2 rfR rfR0 rfR1 rfR2
    obtain ⟨⟨rR0, rR1, rR2⟩, rfR⟩ := R_1.out
    have rfR0 := rfR 0
    have rfR1 := rfR 1
    have rfR2 := rfR 2
    obtain ⟨gG0, gG1, gG2⟩ := G_1.out
    go_wp2
    (try simp only [Exit.inBlock, Exit.then])
    refine bodyPost_ret (v := .tuple #[gv 0 0 0, .bool false]) ?_ rfl ⟨rfl, ?_⟩
    · rw [results_cell_tmp rfl]; go_simp
    · first | exact HB_1.out | exact set_below3 HB_1.out (w.heap.size + 1) (by omega) _ _ _
  have K0 := Lib.hid (show goodB P Q G = true from h0)
  have hmo := good_mo h0
  have hgr := good_rng h0
  have hgd := h0
  cases h1 : allEl P Q [b, y]
  · have K1 := Lib.hid (show allEl P Q [b, y] = false from h1)
    have E1 := Lib.hid (show skB P Q G b y e z = false by simp [skB, h0, h1])
    obtain ⟨E2, E3, E4⟩ := sk_off E1.out
    rw [E1.out, E2, E3, E4]
    clear E2 E3 E4
    clear h0 h1
    obtain ⟨⟨rR0, rR1, rR2⟩, rfR⟩ := R_0.out
    have rfR0 := rfR 0
    have rfR1 := rfR 1
    have rfR2 := rfR 2
    obtain ⟨gG0, gG1, gG2⟩ := G_0.out
    go_enter Try.func41, Try.ntmps41
    go_wp2_with fail
    refine (l2Good_any P Q G _).mono ?_
    rw [K0.out]
    rintro e v1 ⟨rfl, hb⟩
    have HB_1 := Lib.hid (bt HB_0.out hb)
    have G_1 := Lib.hid (G_0.out.below hb)
    have R_1 := Lib.hid (R_0.out.below hb)
    clear hb gG0 gG1 gG2 rR0 rR1 rR2 rfR rfR0 rfR1 rfR2
    obtain ⟨⟨rR0, rR1, rR2⟩, rfR⟩ := R_1.out
    have rfR0 := rfR 0
    have rfR1 := rfR 1
    have rfR2 := rfR 2
    obtain ⟨gG0, gG1, gG2⟩ := G_1.out
    go_wp2_with fail
    refine (gIs_any P Q G hmo _ 2 2 [b, y] rfl (by decide) _ (ints_lit v1 [b, y] 3)).mono ?_
    rw [K1.out]
    rintro e v2 ⟨rfl, hb0⟩
    have hb := bt (ba v1 _) hb0
    clear hb0
    have HB_2 := Lib.hid (bt HB_1.out hb)
    have G_2 := Lib.hid (G_1.out.below hb)
    have R_2 := Lib.hid (R_1.out.below hb)
    clear hb gG0 gG1 gG2 rR0 rR1 rR2 rfR rfR0 rfR1 rfR2
    obtain ⟨⟨rR0, rR1, rR2⟩, rfR⟩ := R_2.out
    have rfR0 := rfR 0
    have rfR1 := rfR 1
    have rfR2 := rfR 2
    obtain ⟨gG0, gG1, gG2⟩ := G_2.out
    go_wp2
    (try simp only [Exit.inBlock, Exit.then])
    refine bodyPost_ret (v := .tuple #[gv 0 0 0, .bool false]) ?_ rfl ⟨rfl, ?_⟩
    · rw [results_cell_tmp rfl]; go_simp
    · first | exact HB_2.out | exact set_below3 HB_2.out (w.heap.size + 1) (by omega) _ _ _
  have K1 := Lib.hid (show allEl P Q [b, y] = true from h1)
  obtain ⟨hb1, hy1⟩ := el_two h1
  cases h2 : allIn [e, z] 0 (Q - 1)
  · have K2 := Lib.hid (show allIn [e, z] 0 (Q - 1) = false from h2)
    have E1 := Lib.hid (show skB P Q G b y e z = false by simp [skB, h0, h1, h2])
    obtain ⟨E2, E3, E4⟩ := sk_off E1.out
    rw [E1.out, E2, E3, E4]
    clear E2 E3 E4
    clear h0 h1 h2
    obtain ⟨⟨rR0, rR1, rR2⟩, rfR⟩ := R_0.out
    have rfR0 := rfR 0
    have rfR1 := rfR 1
    have rfR2 := rfR 2
    obtain ⟨gG0, gG1, gG2⟩ := G_0.out
    go_enter Try.func41, Try.ntmps41
    go_wp2_with fail
    refine (l2Good_any P Q G _).mono ?_
    rw [K0.out]
    rintro e v1 ⟨rfl, hb⟩
    have HB_1 := Lib.hid (bt HB_0.out hb)
    have G_1 := Lib.hid (G_0.out.below hb)
    have R_1 := Lib.hid (R_0.out.below hb)
    clear hb gG0 gG1 gG2 rR0 rR1 rR2 rfR rfR0 rfR1 rfR2
    obtain ⟨⟨rR0, rR1, rR2⟩, rfR⟩ := R_1.out
    have rfR0 := rfR 0
    have rfR1 := rfR 1
    have rfR2 := rfR 2
    obtain ⟨gG0, gG1, gG2⟩ := G_1.out
    go_wp2_with fail
    refine (gIs_any P Q G hmo _ 2 2 [b, y] rfl (by decide) _ (ints_lit v1 [b, y] 3)).mono ?_
    rw [K1.out]
    rintro e v2 ⟨rfl, hb0⟩
    have hb := bt (ba v1 _) hb0
    clear hb0
    have HB_2 := Lib.hid (bt HB_1.out hb)
    have G_2 := Lib.hid (G_1.out.below hb)
    have R_2 := Lib.hid (R_1.out.below hb)
    clear hb gG0 gG1 gG2 rR0 rR1 rR2 rfR rfR0 rfR1 rfR2
    obtain ⟨⟨rR0, rR1, rR2⟩, rfR⟩ := R_2.out
    have rfR0 := rfR 0
    have rfR1 := rfR 1
    have rfR2 := rfR 2
    obtain ⟨gG0, gG1, gG2⟩ := G_2.out
    go_wp2_with fail
    refine (gExps_any P Q G ⟨by omega, by omega⟩ _ 2 2 [e, z] rfl (by decide) _ (ints_lit v2 [e, z] 3)).mono ?_
    rw [K2.out]
    rintro e v3 ⟨rfl, hb0⟩
    have hb := bt (ba v2 _) hb0
    clear hb0
    have HB_3 := Lib.hid (bt HB_2.out hb)
    have G_3 := Lib.hid (G_2.out.below hb)
    have R_3 := Lib.hid (R_2.out.below hb)
    clear hb gG0 gG1 gG2 rR0 rR1 rR2 rfR rfR0 rfR1 rfR2
    obtain ⟨⟨rR0, rR1, rR2⟩, rfR⟩ := R_3.out
    have rfR0 := rfR 0
    have rfR1 := rfR 1
    have rfR2 := rfR 2
    obtain ⟨gG0, gG1, gG2⟩ := G_3.out
    go_wp2
    (try simp only [Exit.inBlock, Exit.then])
    refine bodyPost_ret (v := .tuple #[gv 0 0 0, .bool false]) ?_ rfl ⟨rfl, ?_⟩
    · rw [results_cell_tmp rfl]; go_simp
    · first | exact HB_3.out | exact set_below3 HB_3.out (w.heap.size + 1) (by omega) _ _ _
  have K2 := Lib.hid (show allIn [e, z] 0 (Q - 1) = true from h2)
  obtain ⟨he1, hz1⟩ := in_two h2
  have E1 := Lib.hid (show skB P Q G b y e z = true by simp [skB, h0, h1, h2])
  obtain ⟨E2, E3, E4⟩ := sk_on E1.out
  rw [E1.out, E2, E3, E4]
  clear E2 E3 E4 h0 h1 h2
  obtain ⟨⟨rR0, rR1, rR2⟩, rfR⟩ := R_0.out
  have rfR0 := rfR 0
  have rfR1 := rfR 1
  have rfR2 := rfR 2
  obtain ⟨gG0, gG1, gG2⟩ := G_0.out
  go_enter Try.func41, Try.ntmps41
  go_wp2_with fail
  refine (l2Good_any P Q G _).mono ?_
  rw [K0.out]
  rintro e v1 ⟨rfl, hb⟩
  have HB_1 := Lib.hid (bt HB_0.out hb)
  have G_1 := Lib.hid (G_0.out.below hb)
  have R_1 := Lib.hid (R_0.out.below hb)
  clear hb gG0 gG1 gG2 rR0 rR1 rR2 rfR rfR0 rfR1 rfR2
  obtain ⟨⟨rR0, rR1, rR2⟩, rfR⟩ := R_1.out
  have rfR0 := rfR 0
  have rfR1 := rfR 1
  have rfR2 := rfR 2
  obtain ⟨gG0, gG1, gG2⟩ := G_1.out
  go_wp2_with fail
  refine (gIs_any P Q G hmo _ 2 2 [b, y] rfl (by decide) _ (ints_lit v1 [b, y] 3)).mono ?_
  rw [K1.out]
  rintro e v2 ⟨rfl, hb0⟩
  have hb := bt (ba v1 _) hb0
  clear hb0
  have HB_2 := Lib.hid (bt HB_1.out hb)
  have G_2 := Lib.hid (G_1.out.below hb)
  have R_2 := Lib.hid (R_1.out.below hb)
  clear hb gG0 gG1 gG2 rR0 rR1 rR2 rfR rfR0 rfR1 rfR2
  obtain ⟨⟨rR0, rR1, rR2⟩, rfR⟩ := R_2.out
  have rfR0 := rfR 0
  have rfR1 := rfR 1
  have rfR2 := rfR 2
  obtain ⟨gG0, gG1, gG2⟩ := G_2.out
  go_wp2_with fail
  refine (gExps_any P Q G ⟨by omega, by omega⟩ _ 2 2 [e, z] rfl (by decide) _ (ints_lit v2 [e, z] 3)).mono ?_
  rw [K2.out]
  rintro e v3 ⟨rfl, hb0⟩
  have hb := bt (ba v2 _) hb0
  clear hb0
  have HB_3 := Lib.hid (bt HB_2.out hb)
  have G_3 := Lib.hid (G_2.out.below hb)
  have R_3 := Lib.hid (R_2.out.below hb)
  clear hb gG0 gG1 gG2 rR0 rR1 rR2 rfR rfR0 rfR1 rfR2
  obtain ⟨⟨rR0, rR1, rR2⟩, rfR⟩ := R_3.out
  have rfR0 := rfR 0
  have rfR1 := rfR 1
  have rfR2 := rfR 2
  obtain ⟨gG0, gG1, gG2⟩ := G_3.out
  go_wp2_with fail
  refine (xSimulate_any P Q G b y e z hgd hb1 hy1 he1 hz1 _).mono ?_
  rintro e' v9 ⟨rfl, hb9⟩
  have HB_9 := Lib.hid (bt HB_3.out hb9)
  have R_9 := Lib.hid (R_3.out.below hb9)
  clear hb9 rR0 rR1 rR2 rfR rfR0 rfR1 rfR2
  obtain ⟨⟨rR0, rR1, rR2⟩, rfR⟩ := R_9.out
  have rfR0 := rfR 0
  have rfR1 := rfR 1
  have rfR2 := rfR 2
  go_wp2
  (try simp only [Exit.inBlock, Exit.then])
  refine bodyPost_ret (v := .tuple #[gv (simW P Q b y e z) e z, .bool true]) ?_ rfl ⟨rfl, ?_⟩
  · rw [results_cell_tmp rfl]; go_simp
  · first | exact HB_9.out | exact set_below3 HB_9.out (w.heap.size + 1) (by omega) _ _ _

set_option maxRecDepth 100000 in
set_option maxHeartbeats 3200000 in
theorem sSimulateEqual_any (P Q G a b c d e z : Int) (w : World) :
    Calls Try.prog 46 #[gv P Q G, ev4 a b c d, .int .i64 e, .int .i64 z] w (EqOut (.tuple #[.int .i64 (seA P Q G a b c d e z), .int .i64 (seC P Q G a b c d e z), .bool (seB P Q G a b c d e z)]) w) := by
  have G_0 := Lib.hid ((gr_at w (w.heap.size) (by simp) P Q G 32).below (ba (w.alloc (.cells #[.int .i64 P, .int .i64 Q, .int .i64 G] 32)) (.cells #[.int .i64 a, .int .i64 b, .int .i64 c, .int .i64 d] 47)))
  have V_0 := Lib.hid (v4_at (w.alloc (.cells #[.int .i64 P, .int .i64 Q, .int .i64 G] 32)) (w.heap.size + 1) (by simp) a b c d 47)
  have HB_0 := Lib.hid (show Below w.heap.size w ((w.alloc (.cells #[.int .i64 P, .int .i64 Q, .int .i64 G] 32)).alloc (.cells #[.int .i64 a, .int .i64 b, .int .i64 c, .int .i64 d] 47)) from bt (ba _ _) (ba _ _))
  cases h0 : goodB P Q G
  · have K0 := Lib.hid (show goodB P Q G = false from h0)
    have E1 := Lib.hid (show seB P Q G a b c d e z = false by simp [seB, h0])
    obtain ⟨E2, E3⟩ := se_off E1.out
    rw [E1.out, E2, E3]
    clear E2 E3
    clear h0
    obtain ⟨gG0, gG1, gG2⟩ := G_0.out
    obtain ⟨eV0, eV1, eV2, eV3⟩ := V_0.out
    go_enter Try.func46, Try.ntmps46
    go_wp2_with fail
    refine (l2Good_any P Q G _).mono ?_
    rw [K0.out]
    rintro e v1 ⟨rfl, hb⟩
    have HB_1 := Lib.hid (bt HB_0.out hb)
    have G_1 := Lib.hid (G_0.out.below hb)
    have V_1 := Lib.hid (V_0.out.below hb)
    clear hb gG0 gG1 gG2 eV0 eV1 eV2 eV3
    obtain ⟨gG0, gG1, gG2⟩ := G_1.out
    obtain ⟨eV0, eV1, eV2, eV3⟩ := V_1.out
    go_wp2
    go_ret3
    exact ⟨rfl, HB_1.out⟩
  have K0 := Lib.hid (show goodB P Q G = true from h0)
  have hmo := good_mo h0
  have hgr := good_rng h0
  have hgd := h0
  cases h1 : allEl P Q [a, b, c, d]
  · have K1 := Lib.hid (show allEl P Q [a, b, c, d] = false from h1)
    have E1 := Lib.hid (show seB P Q G a b c d e z = false by simp [seB, h0, h1])
    obtain ⟨E2, E3⟩ := se_off E1.out
    rw [E1.out, E2, E3]
    clear E2 E3
    clear h0 h1
    obtain ⟨gG0, gG1, gG2⟩ := G_0.out
    obtain ⟨eV0, eV1, eV2, eV3⟩ := V_0.out
    go_enter Try.func46, Try.ntmps46
    go_wp2_with fail
    refine (l2Good_any P Q G _).mono ?_
    rw [K0.out]
    rintro e v1 ⟨rfl, hb⟩
    have HB_1 := Lib.hid (bt HB_0.out hb)
    have G_1 := Lib.hid (G_0.out.below hb)
    have V_1 := Lib.hid (V_0.out.below hb)
    clear hb gG0 gG1 gG2 eV0 eV1 eV2 eV3
    obtain ⟨gG0, gG1, gG2⟩ := G_1.out
    obtain ⟨eV0, eV1, eV2, eV3⟩ := V_1.out
    go_wp2_with fail
    refine (sElements_any P Q G a b c d hmo _).mono ?_
    rw [K1.out]
    rintro e v2 ⟨rfl, hb⟩
    have HB_2 := Lib.hid (bt HB_1.out hb)
    have G_2 := Lib.hid (G_1.out.below hb)
    have V_2 := Lib.hid (V_1.out.below hb)
    clear hb gG0 gG1 gG2 eV0 eV1 eV2 eV3
    obtain ⟨gG0, gG1, gG2⟩ := G_2.out
    obtain ⟨eV0, eV1, eV2, eV3⟩ := V_2.out
    go_wp2
    go_ret3
    exact ⟨rfl, HB_2.out⟩
  have K1 := Lib.hid (show allEl P Q [a, b, c, d] = true from h1)
  obtain ⟨ha1, hb1, hc1, hd1⟩ := el_four h1
  cases h2 : allIn [e, z] 0 (Q - 1)
  · have K2 := Lib.hid (show allIn [e, z] 0 (Q - 1) = false from h2)
    have E1 := Lib.hid (show seB P Q G a b c d e z = false by simp [seB, h0, h1, h2])
    obtain ⟨E2, E3⟩ := se_off E1.out
    rw [E1.out, E2, E3]
    clear E2 E3
    clear h0 h1 h2
    obtain ⟨gG0, gG1, gG2⟩ := G_0.out
    obtain ⟨eV0, eV1, eV2, eV3⟩ := V_0.out
    go_enter Try.func46, Try.ntmps46
    go_wp2_with fail
    refine (l2Good_any P Q G _).mono ?_
    rw [K0.out]
    rintro e v1 ⟨rfl, hb⟩
    have HB_1 := Lib.hid (bt HB_0.out hb)
    have G_1 := Lib.hid (G_0.out.below hb)
    have V_1 := Lib.hid (V_0.out.below hb)
    clear hb gG0 gG1 gG2 eV0 eV1 eV2 eV3
    obtain ⟨gG0, gG1, gG2⟩ := G_1.out
    obtain ⟨eV0, eV1, eV2, eV3⟩ := V_1.out
    go_wp2_with fail
    refine (sElements_any P Q G a b c d hmo _).mono ?_
    rw [K1.out]
    rintro e v2 ⟨rfl, hb⟩
    have HB_2 := Lib.hid (bt HB_1.out hb)
    have G_2 := Lib.hid (G_1.out.below hb)
    have V_2 := Lib.hid (V_1.out.below hb)
    clear hb gG0 gG1 gG2 eV0 eV1 eV2 eV3
    obtain ⟨gG0, gG1, gG2⟩ := G_2.out
    obtain ⟨eV0, eV1, eV2, eV3⟩ := V_2.out
    go_wp2_with fail
    refine (gExps_any P Q G ⟨by omega, by omega⟩ _ 2 2 [e, z] rfl (by decide) _ (ints_lit v2 [e, z] 3)).mono ?_
    rw [K2.out]
    rintro e v3 ⟨rfl, hb0⟩
    have hb := bt (ba v2 _) hb0
    clear hb0
    have HB_3 := Lib.hid (bt HB_2.out hb)
    have G_3 := Lib.hid (G_2.out.below hb)
    have V_3 := Lib.hid (V_2.out.below hb)
    clear hb gG0 gG1 gG2 eV0 eV1 eV2 eV3
    obtain ⟨gG0, gG1, gG2⟩ := G_3.out
    obtain ⟨eV0, eV1, eV2, eV3⟩ := V_3.out
    go_wp2
    go_ret3
    exact ⟨rfl, HB_3.out⟩
  have K2 := Lib.hid (show allIn [e, z] 0 (Q - 1) = true from h2)
  obtain ⟨he1, hz1⟩ := in_two h2
  have E1 := Lib.hid (show seB P Q G a b c d e z = true by simp [seB, h0, h1, h2])
  obtain ⟨E2, E3⟩ := se_on E1.out
  rw [E1.out, E2, E3]
  clear E2 E3 h0 h1 h2
  obtain ⟨gG0, gG1, gG2⟩ := G_0.out
  obtain ⟨eV0, eV1, eV2, eV3⟩ := V_0.out
  go_enter Try.func46, Try.ntmps46
  go_wp2_with fail
  refine (l2Good_any P Q G _).mono ?_
  rw [K0.out]
  rintro e v1 ⟨rfl, hb⟩
  have HB_1 := Lib.hid (bt HB_0.out hb)
  have G_1 := Lib.hid (G_0.out.below hb)
  have V_1 := Lib.hid (V_0.out.below hb)
  clear hb gG0 gG1 gG2 eV0 eV1 eV2 eV3
  obtain ⟨gG0, gG1, gG2⟩ := G_1.out
  obtain ⟨eV0, eV1, eV2, eV3⟩ := V_1.out
  go_wp2_with fail
  refine (sElements_any P Q G a b c d hmo _).mono ?_
  rw [K1.out]
  rintro e v2 ⟨rfl, hb⟩
  have HB_2 := Lib.hid (bt HB_1.out hb)
  have G_2 := Lib.hid (G_1.out.below hb)
  have V_2 := Lib.hid (V_1.out.below hb)
  clear hb gG0 gG1 gG2 eV0 eV1 eV2 eV3
  obtain ⟨gG0, gG1, gG2⟩ := G_2.out
  obtain ⟨eV0, eV1, eV2, eV3⟩ := V_2.out
  go_wp2_with fail
  refine (gExps_any P Q G ⟨by omega, by omega⟩ _ 2 2 [e, z] rfl (by decide) _ (ints_lit v2 [e, z] 3)).mono ?_
  rw [K2.out]
  rintro e v3 ⟨rfl, hb0⟩
  have hb := bt (ba v2 _) hb0
  clear hb0
  have HB_3 := Lib.hid (bt HB_2.out hb)
  have G_3 := Lib.hid (G_2.out.below hb)
  have V_3 := Lib.hid (V_2.out.below hb)
  clear hb gG0 gG1 gG2 eV0 eV1 eV2 eV3
  obtain ⟨gG0, gG1, gG2⟩ := G_3.out
  obtain ⟨eV0, eV1, eV2, eV3⟩ := V_3.out
  have hfld : ∀ (x y z : Value) (W : World), (Instr.field 63 (.agg #[x, y, z]) 0).run Try.prog W = .ok x W := fun _ _ _ _ => by kernel_rfl
  go_wp2_with fail
  go_region_held3 (fun w' => (w'.cell? ⟨w.heap.size, 0, none⟩ = some (.int .i64 P) ∧ w'.cell? ⟨w.heap.size, 1, none⟩ = some (.int .i64 Q) ∧ w'.cell? ⟨w.heap.size, 2, none⟩ = some (.int .i64 G)) ∧ w'.cell? ⟨w.heap.size + 1, 0, none⟩ = some (.int .i64 a) ∧ w'.cell? ⟨w.heap.size + 1, 1, none⟩ = some (.int .i64 b) ∧ w'.cell? ⟨w.heap.size + 1, 2, none⟩ = some (.int .i64 c) ∧ w'.cell? ⟨w.heap.size + 1, 3, none⟩ = some (.int .i64 d)) (first | with_reducible exact ⟨⟨s0, s1, s2⟩, t0, t1, t2, t3⟩ | with_reducible exact ⟨⟨x0, x1, x2⟩, y0, y1, y2, y3⟩ | exact ⟨⟨gG0, gG1, gG2⟩, eV0, eV1, eV2, eV3⟩) ((first
    | (go_at_call 80; (with_reducible refine (xSimulate_agg P Q G a b e z hgd ha1 hb1 he1 hz1 _).mono ?_); rintro e' vp ⟨rfl, hp⟩; have HBp := Lib.hid (bt_drop HB_3.out hp); have Gp := Lib.hid (gr_drop G_3.out hp); have Vp := Lib.hid (V4.below (w := v3.drew) V_3.out hp); obtain ⟨s0, s1, s2⟩ := Gp.out; obtain ⟨t0, t1, t2, t3⟩ := Vp.out; clear hp)
    | (go_at_call 80; (with_reducible refine (xSimulate_agg P Q G c d e z hgd hc1 hd1 he1 hz1 _).mono ?_); rintro e' vq ⟨rfl, hp⟩; have HBq := Lib.hid (bt HBp.out hp); obtain ⟨x0, x1, x2⟩ := Gp.out.below hp; obtain ⟨y0, y1, y2, y3⟩ := Vp.out.below hp; clear hp)
    | fail))
  all_goals (
    go_wp2
    go_ret3
    exact ⟨rfl, HBq.out⟩)

set_option maxRecDepth 100000 in
set_option maxHeartbeats 3200000 in
theorem xSlope_any (P Q G z1 z2 e1 e2 : Int) (hg : goodB P Q G = true) (hz1 : 0 ≤ z1 ∧ z1 < Q) (hz2 : 0 ≤ z2 ∧ z2 < Q) (he1 : 0 ≤ e1 ∧ e1 < Q) (he2 : 0 ≤ e2 ∧ e2 < Q) (hne : ¬ e1 = e2) (w : World) :
    Calls Try.prog 82 #[gv P Q G, .int .i64 z1, .int .i64 z2, .int .i64 e1, .int .i64 e2] w (EqOut (.int .i64 (slope Q z1 z2 e1 e2)) w) := by
  have hq := (good_rng hg).2.1
  obtain ⟨i1, i2, i3, i4⟩ := diff_inv hg he1 he2 hne
  have EV := slope_ninv (z1 := z1) (z2 := z2) i1
  have hN : Num.ninv ((e1 - e2) % Q) Q = Num.inv ((e1 - e2) % Q) Q := by rw [Num.inv_ninv, i1, if_pos rfl]
  rw [← hN] at i3 i4
  have HI := Lib.hid (nInverse_mod (e1 - e2) Q (by omega) (by omega) hq.1 hq.2)
  have HM := Lib.hid (nMod_em (z1 - z2) Q (by omega) (by omega) hq.1 hq.2)
  have hzz : 0 ≤ (z1 - z2) % Q ∧ (z1 - z2) % Q < Q := ⟨Int.emod_nonneg _ (by omega), Int.emod_lt_of_pos _ (by omega)⟩
  generalize (z1 - z2) % Q = dz at hzz EV HM
  generalize Num.ninv ((e1 - e2) % Q) Q = de at i3 i4 EV HI
  obtain ⟨p0, p1⟩ := prod_bd (a := dz) (z := de) hzz.1 (by omega) i3 (by omega)
  have hne0 : Q ≠ 0 := by omega
  have hw1 : IntKind.i64.wrap (z1 - z2) = z1 - z2 := by rw [IntKind.wrap_i64]; omega
  have hw2 : IntKind.i64.wrap (e1 - e2) = e1 - e2 := by rw [IntKind.wrap_i64]; omega
  have hwp : IntKind.i64.wrap (dz * de) = dz * de := by rw [IntKind.wrap_i64]; omega
  have htm : (dz * de).tmod Q = dz * de % Q := Int.tmod_eq_emod_of_nonneg p0
  rw [← EV]
  clear EV i1 i2 hN hg hne
  have G_0 := Lib.hid (gr_at w (w.heap.size) (by simp) P Q G 32)
  have HB_0 := Lib.hid (show Below w.heap.size w (w.alloc (.cells #[.int .i64 P, .int .i64 Q, .int .i64 G] 32)) from ba _ _)
  obtain ⟨g0, g1, g2⟩ := G_0.out
  go_enter Try.func82, Try.ntmps82
  go_wp2_with fail
  refine (HI.out _).mono ?_
  rintro e' _ ⟨rfl, rfl⟩
  go_wp2_with fail
  go_region_held3 (fun w' => w'.cell? ⟨w.heap.size, 0, none⟩ = some (.int .i64 P) ∧ w'.cell? ⟨w.heap.size, 1, none⟩ = some (.int .i64 Q) ∧ w'.cell? ⟨w.heap.size, 2, none⟩ = some (.int .i64 G)) (exact ⟨g0, g1, g2⟩) ((first
    | (go_at_call 114; refine (HM.out _).mono ?_; rintro e' _ ⟨rfl, rfl⟩)
    | fail))
  all_goals (
    go_wp2
    go_ret
    exact ⟨rfl, HB_0.out.drew⟩)

theorem ekB_eq (P Q G b y c1 e1 z1 c2 e2 z2 : Int) : ekB P Q G b y c1 e1 z1 c2 e2 z2 = (goodB P Q G && (allEl P Q [b, y] && (trB P Q c1 e1 z1 && (trB P Q c2 e2 z2 && (decide (c1 = c2) && (decide (¬ e1 = e2) && (accW P b y c1 e1 z1 && accW P b y c2 e2 z2))))))) := by
  unfold ekB iaV iaB
  rw [decide_not]
  generalize goodB P Q G = g
  generalize allEl P Q [b, y] = a
  generalize trB P Q c1 e1 z1 = t1
  generalize trB P Q c2 e2 z2 = t2
  generalize accW P b y c1 e1 z1 = x1
  generalize accW P b y c2 e2 z2 = x2
  generalize decide (c1 = c2) = d
  generalize decide (e1 = e2) = f
  cases g <;> cases a <;> cases t1 <;> cases t2 <;> cases x1 <;> cases x2 <;> cases d <;> cases f <;> rfl

set_option maxRecDepth 100000 in
set_option maxHeartbeats 3200000 in
theorem sExtractKnowledge_any (P Q G b y c1 e1 z1 c2 e2 z2 : Int) (w : World) :
    Calls Try.prog 44 #[gv P Q G, .int .i64 b, .int .i64 y, gv c1 e1 z1, gv c2 e2 z2] w (EqOut (.tuple #[.int .i64 (ekV P Q G b y c1 e1 z1 c2 e2 z2), .bool (ekB P Q G b y c1 e1 z1 c2 e2 z2)]) w) := by
  have G_0 := Lib.hid (((gr_at w (w.heap.size) (by simp) P Q G 32).below (ba (w.alloc (.cells #[.int .i64 P, .int .i64 Q, .int .i64 G] 32)) (.cells #[.int .i64 c1, .int .i64 e1, .int .i64 z1] 63))).below (ba ((w.alloc (.cells #[.int .i64 P, .int .i64 Q, .int .i64 G] 32)).alloc (.cells #[.int .i64 c1, .int .i64 e1, .int .i64 z1] 63)) (.cells #[.int .i64 c2, .int .i64 e2, .int .i64 z2] 63)))
  have T_0 := Lib.hid ((gr_at (w.alloc (.cells #[.int .i64 P, .int .i64 Q, .int .i64 G] 32)) (w.heap.size + 1) (by simp) c1 e1 z1 63).below (ba ((w.alloc (.cells #[.int .i64 P, .int .i64 Q, .int .i64 G] 32)).alloc (.cells #[.int .i64 c1, .int .i64 e1, .int .i64 z1] 63)) (.cells #[.int .i64 c2, .int .i64 e2, .int .i64 z2] 63)))
  have U_0 := Lib.hid (gr_at ((w.alloc (.cells #[.int .i64 P, .int .i64 Q, .int .i64 G] 32)).alloc (.cells #[.int .i64 c1, .int .i64 e1, .int .i64 z1] 63)) (w.heap.size + 1 + 1) (by simp) c2 e2 z2 63)
  have HB_0 := Lib.hid (show Below w.heap.size w (((w.alloc (.cells #[.int .i64 P, .int .i64 Q, .int .i64 G] 32)).alloc (.cells #[.int .i64 c1, .int .i64 e1, .int .i64 z1] 63)).alloc (.cells #[.int .i64 c2, .int .i64 e2, .int .i64 z2] 63)) from bt (bt (ba _ _) (ba _ _)) (ba _ _))
  cases h0 : goodB P Q G
  · have K0 := Lib.hid (show goodB P Q G = false from h0)
    have E1 := Lib.hid (show ekB P Q G b y c1 e1 z1 c2 e2 z2 = false from by rw [ekB_eq]; simp only [h0, Bool.true_and, Bool.false_and, Bool.and_false, Bool.and_true])
    rw [E1.out, ek_off E1.out]
    clear h0
    obtain ⟨gG0, gG1, gG2⟩ := G_0.out
    obtain ⟨gT0, gT1, gT2⟩ := T_0.out
    obtain ⟨gU0, gU1, gU2⟩ := U_0.out
    go_enter Try.func44, Try.ntmps44
    go_wp2_with fail
    refine (l2Good_any P Q G _).mono ?_
    rw [K0.out]
    rintro e v1 ⟨rfl, hb⟩
    have HB_1 := Lib.hid (bt HB_0.out hb)
    have G_1 := Lib.hid (G_0.out.below hb)
    have T_1 := Lib.hid (T_0.out.below hb)
    have U_1 := Lib.hid (U_0.out.below hb)
    clear hb gG0 gG1 gG2 gT0 gT1 gT2 gU0 gU1 gU2
    obtain ⟨gG0, gG1, gG2⟩ := G_1.out
    obtain ⟨gT0, gT1, gT2⟩ := T_1.out
    obtain ⟨gU0, gU1, gU2⟩ := U_1.out
    go_wp2
    go_ret2
    exact ⟨rfl, HB_1.out⟩
  have K0 := Lib.hid (show goodB P Q G = true from h0)
  have hmo := good_mo h0
  have hgr := good_rng h0
  have hgd := h0
  cases h1 : allEl P Q [b, y]
  · have K1 := Lib.hid (show allEl P Q [b, y] = false from h1)
    have E1 := Lib.hid (show ekB P Q G b y c1 e1 z1 c2 e2 z2 = false from by rw [ekB_eq]; simp only [h0, h1, Bool.true_and, Bool.false_and, Bool.and_false, Bool.and_true])
    rw [E1.out, ek_off E1.out]
    clear h0 h1
    obtain ⟨gG0, gG1, gG2⟩ := G_0.out
    obtain ⟨gT0, gT1, gT2⟩ := T_0.out
    obtain ⟨gU0, gU1, gU2⟩ := U_0.out
    go_enter Try.func44, Try.ntmps44
    go_wp2_with fail
    refine (l2Good_any P Q G _).mono ?_
    rw [K0.out]
    rintro e v1 ⟨rfl, hb⟩
    have HB_1 := Lib.hid (bt HB_0.out hb)
    have G_1 := Lib.hid (G_0.out.below hb)
    have T_1 := Lib.hid (T_0.out.below hb)
    have U_1 := Lib.hid (U_0.out.below hb)
    clear hb gG0 gG1 gG2 gT0 gT1 gT2 gU0 gU1 gU2
    obtain ⟨gG0, gG1, gG2⟩ := G_1.out
    obtain ⟨gT0, gT1, gT2⟩ := T_1.out
    obtain ⟨gU0, gU1, gU2⟩ := U_1.out
    go_wp2_with fail
    refine (gIs_any P Q G hmo _ 2 2 [b, y] rfl (by decide) _ (ints_lit v1 [b, y] 3)).mono ?_
    rw [K1.out]
    rintro e v2 ⟨rfl, hb0⟩
    have hb := bt (ba v1 _) hb0
    clear hb0
    have HB_2 := Lib.hid (bt HB_1.out hb)
    have G_2 := Lib.hid (G_1.out.below hb)
    have T_2 := Lib.hid (T_1.out.below hb)
    have U_2 := Lib.hid (U_1.out.below hb)
    clear hb gG0 gG1 gG2 gT0 gT1 gT2 gU0 gU1 gU2
    obtain ⟨gG0, gG1, gG2⟩ := G_2.out
    obtain ⟨gT0, gT1, gT2⟩ := T_2.out
    obtain ⟨gU0, gU1, gU2⟩ := U_2.out
    go_wp2
    go_ret2
    exact ⟨rfl, HB_2.out⟩
  have K1 := Lib.hid (show allEl P Q [b, y] = true from h1)
  obtain ⟨hb1, hy1⟩ := el_two h1
  cases h2 : trB P Q c1 e1 z1
  · have K2 := Lib.hid (show trB P Q c1 e1 z1 = false from h2)
    have E1 := Lib.hid (show ekB P Q G b y c1 e1 z1 c2 e2 z2 = false from by rw [ekB_eq]; simp only [h0, h1, h2, Bool.true_and, Bool.false_and, Bool.and_false, Bool.and_true])
    rw [E1.out, ek_off E1.out]
    clear h0 h1 h2
    obtain ⟨gG0, gG1, gG2⟩ := G_0.out
    obtain ⟨gT0, gT1, gT2⟩ := T_0.out
    obtain ⟨gU0, gU1, gU2⟩ := U_0.out
    go_enter Try.func44, Try.ntmps44
    go_wp2_with fail
    refine (l2Good_any P Q G _).mono ?_
    rw [K0.out]
    rintro e v1 ⟨rfl, hb⟩
    have HB_1 := Lib.hid (bt HB_0.out hb)
    have G_1 := Lib.hid (G_0.out.below hb)
    have T_1 := Lib.hid (T_0.out.below hb)
    have U_1 := Lib.hid (U_0.out.below hb)
    clear hb gG0 gG1 gG2 gT0 gT1 gT2 gU0 gU1 gU2
    obtain ⟨gG0, gG1, gG2⟩ := G_1.out
    obtain ⟨gT0, gT1, gT2⟩ := T_1.out
    obtain ⟨gU0, gU1, gU2⟩ := U_1.out
    go_wp2_with fail
    refine (gIs_any P Q G hmo _ 2 2 [b, y] rfl (by decide) _ (ints_lit v1 [b, y] 3)).mono ?_
    rw [K1.out]
    rintro e v2 ⟨rfl, hb0⟩
    have hb := bt (ba v1 _) hb0
    clear hb0
    have HB_2 := Lib.hid (bt HB_1.out hb)
    have G_2 := Lib.hid (G_1.out.below hb)
    have T_2 := Lib.hid (T_1.out.below hb)
    have U_2 := Lib.hid (U_1.out.below hb)
    clear hb gG0 gG1 gG2 gT0 gT1 gT2 gU0 gU1 gU2
    obtain ⟨gG0, gG1, gG2⟩ := G_2.out
    obtain ⟨gT0, gT1, gT2⟩ := T_2.out
    obtain ⟨gU0, gU1, gU2⟩ := U_2.out
    go_wp2_with fail
    refine (xTranscript_any P Q G c1 e1 z1 hmo hgr.2.1 _).mono ?_
    rw [K2.out]
    rintro e v3 ⟨rfl, hb⟩
    have HB_3 := Lib.hid (bt HB_2.out hb)
    have G_3 := Lib.hid (G_2.out.below hb)
    have T_3 := Lib.hid (T_2.out.below hb)
    have U_3 := Lib.hid (U_2.out.below hb)
    clear hb gG0 gG1 gG2 gT0 gT1 gT2 gU0 gU1 gU2
    obtain ⟨gG0, gG1, gG2⟩ := G_3.out
    obtain ⟨gT0, gT1, gT2⟩ := T_3.out
    obtain ⟨gU0, gU1, gU2⟩ := U_3.out
    go_wp2
    go_ret2
    exact ⟨rfl, HB_3.out⟩
  have K2 := Lib.hid (show trB P Q c1 e1 z1 = true from h2)
  obtain ⟨hc1, he1, hz1⟩ := trB_true.1 h2
  cases h3 : trB P Q c2 e2 z2
  · have K3 := Lib.hid (show trB P Q c2 e2 z2 = false from h3)
    have E1 := Lib.hid (show ekB P Q G b y c1 e1 z1 c2 e2 z2 = false from by rw [ekB_eq]; simp only [h0, h1, h2, h3, Bool.true_and, Bool.false_and, Bool.and_false, Bool.and_true])
    rw [E1.out, ek_off E1.out]
    clear h0 h1 h2 h3
    obtain ⟨gG0, gG1, gG2⟩ := G_0.out
    obtain ⟨gT0, gT1, gT2⟩ := T_0.out
    obtain ⟨gU0, gU1, gU2⟩ := U_0.out
    go_enter Try.func44, Try.ntmps44
    go_wp2_with fail
    refine (l2Good_any P Q G _).mono ?_
    rw [K0.out]
    rintro e v1 ⟨rfl, hb⟩
    have HB_1 := Lib.hid (bt HB_0.out hb)
    have G_1 := Lib.hid (G_0.out.below hb)
    have T_1 := Lib.hid (T_0.out.below hb)
    have U_1 := Lib.hid (U_0.out.below hb)
    clear hb gG0 gG1 gG2 gT0 gT1 gT2 gU0 gU1 gU2
    obtain ⟨gG0, gG1, gG2⟩ := G_1.out
    obtain ⟨gT0, gT1, gT2⟩ := T_1.out
    obtain ⟨gU0, gU1, gU2⟩ := U_1.out
    go_wp2_with fail
    refine (gIs_any P Q G hmo _ 2 2 [b, y] rfl (by decide) _ (ints_lit v1 [b, y] 3)).mono ?_
    rw [K1.out]
    rintro e v2 ⟨rfl, hb0⟩
    have hb := bt (ba v1 _) hb0
    clear hb0
    have HB_2 := Lib.hid (bt HB_1.out hb)
    have G_2 := Lib.hid (G_1.out.below hb)
    have T_2 := Lib.hid (T_1.out.below hb)
    have U_2 := Lib.hid (U_1.out.below hb)
    clear hb gG0 gG1 gG2 gT0 gT1 gT2 gU0 gU1 gU2
    obtain ⟨gG0, gG1, gG2⟩ := G_2.out
    obtain ⟨gT0, gT1, gT2⟩ := T_2.out
    obtain ⟨gU0, gU1, gU2⟩ := U_2.out
    go_wp2_with fail
    refine (xTranscript_any P Q G c1 e1 z1 hmo hgr.2.1 _).mono ?_
    rw [K2.out]
    rintro e v3 ⟨rfl, hb⟩
    have HB_3 := Lib.hid (bt HB_2.out hb)
    have G_3 := Lib.hid (G_2.out.below hb)
    have T_3 := Lib.hid (T_2.out.below hb)
    have U_3 := Lib.hid (U_2.out.below hb)
    clear hb gG0 gG1 gG2 gT0 gT1 gT2 gU0 gU1 gU2
    obtain ⟨gG0, gG1, gG2⟩ := G_3.out
    obtain ⟨gT0, gT1, gT2⟩ := T_3.out
    obtain ⟨gU0, gU1, gU2⟩ := U_3.out
    go_wp2_with fail
    refine (xTranscript_any P Q G c2 e2 z2 hmo hgr.2.1 _).mono ?_
    rw [K3.out]
    rintro e v4 ⟨rfl, hb⟩
    have HB_4 := Lib.hid (bt HB_3.out hb)
    have G_4 := Lib.hid (G_3.out.below hb)
    have T_4 := Lib.hid (T_3.out.below hb)
    have U_4 := Lib.hid (U_3.out.below hb)
    clear hb gG0 gG1 gG2 gT0 gT1 gT2 gU0 gU1 gU2
    obtain ⟨gG0, gG1, gG2⟩ := G_4.out
    obtain ⟨gT0, gT1, gT2⟩ := T_4.out
    obtain ⟨gU0, gU1, gU2⟩ := U_4.out
    go_wp2
    go_ret2
    exact ⟨rfl, HB_4.out⟩
  have K3 := Lib.hid (show trB P Q c2 e2 z2 = true from h3)
  obtain ⟨hc2, he2, hz2⟩ := trB_true.1 h3
  by_cases h4 : ¬ (c1 = c2)
  · have B4 : ((c1 : Int) != c2) = true := by simpa using h4
    have E1 := Lib.hid (show ekB P Q G b y c1 e1 z1 c2 e2 z2 = false from by rw [ekB_eq]; simp only [h0, h1, h2, h3, decide_eq_false h4, Bool.true_and, Bool.false_and, Bool.and_false, Bool.and_true])
    rw [E1.out, ek_off E1.out]
    clear h0 h1 h2 h3 h4
    obtain ⟨gG0, gG1, gG2⟩ := G_0.out
    obtain ⟨gT0, gT1, gT2⟩ := T_0.out
    obtain ⟨gU0, gU1, gU2⟩ := U_0.out
    go_enter Try.func44, Try.ntmps44
    go_wp2_with fail
    refine (l2Good_any P Q G _).mono ?_
    rw [K0.out]
    rintro e v1 ⟨rfl, hb⟩
    have HB_1 := Lib.hid (bt HB_0.out hb)
    have G_1 := Lib.hid (G_0.out.below hb)
    have T_1 := Lib.hid (T_0.out.below hb)
    have U_1 := Lib.hid (U_0.out.below hb)
    clear hb gG0 gG1 gG2 gT0 gT1 gT2 gU0 gU1 gU2
    obtain ⟨gG0, gG1, gG2⟩ := G_1.out
    obtain ⟨gT0, gT1, gT2⟩ := T_1.out
    obtain ⟨gU0, gU1, gU2⟩ := U_1.out
    go_wp2_with fail
    refine (gIs_any P Q G hmo _ 2 2 [b, y] rfl (by decide) _ (ints_lit v1 [b, y] 3)).mono ?_
    rw [K1.out]
    rintro e v2 ⟨rfl, hb0⟩
    have hb := bt (ba v1 _) hb0
    clear hb0
    have HB_2 := Lib.hid (bt HB_1.out hb)
    have G_2 := Lib.hid (G_1.out.below hb)
    have T_2 := Lib.hid (T_1.out.below hb)
    have U_2 := Lib.hid (U_1.out.below hb)
    clear hb gG0 gG1 gG2 gT0 gT1 gT2 gU0 gU1 gU2
    obtain ⟨gG0, gG1, gG2⟩ := G_2.out
    obtain ⟨gT0, gT1, gT2⟩ := T_2.out
    obtain ⟨gU0, gU1, gU2⟩ := U_2.out
    go_wp2_with fail
    refine (xTranscript_any P Q G c1 e1 z1 hmo hgr.2.1 _).mono ?_
    rw [K2.out]
    rintro e v3 ⟨rfl, hb⟩
    have HB_3 := Lib.hid (bt HB_2.out hb)
    have G_3 := Lib.hid (G_2.out.below hb)
    have T_3 := Lib.hid (T_2.out.below hb)
    have U_3 := Lib.hid (U_2.out.below hb)
    clear hb gG0 gG1 gG2 gT0 gT1 gT2 gU0 gU1 gU2
    obtain ⟨gG0, gG1, gG2⟩ := G_3.out
    obtain ⟨gT0, gT1, gT2⟩ := T_3.out
    obtain ⟨gU0, gU1, gU2⟩ := U_3.out
    go_wp2_with fail
    refine (xTranscript_any P Q G c2 e2 z2 hmo hgr.2.1 _).mono ?_
    rw [K3.out]
    rintro e v4 ⟨rfl, hb⟩
    have HB_4 := Lib.hid (bt HB_3.out hb)
    have G_4 := Lib.hid (G_3.out.below hb)
    have T_4 := Lib.hid (T_3.out.below hb)
    have U_4 := Lib.hid (U_3.out.below hb)
    clear hb gG0 gG1 gG2 gT0 gT1 gT2 gU0 gU1 gU2
    obtain ⟨gG0, gG1, gG2⟩ := G_4.out
    obtain ⟨gT0, gT1, gT2⟩ := T_4.out
    obtain ⟨gU0, gU1, gU2⟩ := U_4.out
    go_wp2
    go_ret2
    exact ⟨rfl, HB_4.out⟩
  have h4 := Decidable.not_not.1 h4
  have B4 : ((c1 : Int) != c2) = false := by simp [h4]
  by_cases h5 : ¬ (¬ e1 = e2)
  · have B5 : ((e1 : Int) == e2) = true := by simpa using h5
    have E1 := Lib.hid (show ekB P Q G b y c1 e1 z1 c2 e2 z2 = false from by rw [ekB_eq]; simp only [h0, h1, h2, h3, decide_eq_true h4, decide_eq_false h5, Bool.true_and, Bool.false_and, Bool.and_false, Bool.and_true])
    rw [E1.out, ek_off E1.out]
    clear h0 h1 h2 h3 h4 h5
    obtain ⟨gG0, gG1, gG2⟩ := G_0.out
    obtain ⟨gT0, gT1, gT2⟩ := T_0.out
    obtain ⟨gU0, gU1, gU2⟩ := U_0.out
    go_enter Try.func44, Try.ntmps44
    go_wp2_with fail
    refine (l2Good_any P Q G _).mono ?_
    rw [K0.out]
    rintro e v1 ⟨rfl, hb⟩
    have HB_1 := Lib.hid (bt HB_0.out hb)
    have G_1 := Lib.hid (G_0.out.below hb)
    have T_1 := Lib.hid (T_0.out.below hb)
    have U_1 := Lib.hid (U_0.out.below hb)
    clear hb gG0 gG1 gG2 gT0 gT1 gT2 gU0 gU1 gU2
    obtain ⟨gG0, gG1, gG2⟩ := G_1.out
    obtain ⟨gT0, gT1, gT2⟩ := T_1.out
    obtain ⟨gU0, gU1, gU2⟩ := U_1.out
    go_wp2_with fail
    refine (gIs_any P Q G hmo _ 2 2 [b, y] rfl (by decide) _ (ints_lit v1 [b, y] 3)).mono ?_
    rw [K1.out]
    rintro e v2 ⟨rfl, hb0⟩
    have hb := bt (ba v1 _) hb0
    clear hb0
    have HB_2 := Lib.hid (bt HB_1.out hb)
    have G_2 := Lib.hid (G_1.out.below hb)
    have T_2 := Lib.hid (T_1.out.below hb)
    have U_2 := Lib.hid (U_1.out.below hb)
    clear hb gG0 gG1 gG2 gT0 gT1 gT2 gU0 gU1 gU2
    obtain ⟨gG0, gG1, gG2⟩ := G_2.out
    obtain ⟨gT0, gT1, gT2⟩ := T_2.out
    obtain ⟨gU0, gU1, gU2⟩ := U_2.out
    go_wp2_with fail
    refine (xTranscript_any P Q G c1 e1 z1 hmo hgr.2.1 _).mono ?_
    rw [K2.out]
    rintro e v3 ⟨rfl, hb⟩
    have HB_3 := Lib.hid (bt HB_2.out hb)
    have G_3 := Lib.hid (G_2.out.below hb)
    have T_3 := Lib.hid (T_2.out.below hb)
    have U_3 := Lib.hid (U_2.out.below hb)
    clear hb gG0 gG1 gG2 gT0 gT1 gT2 gU0 gU1 gU2
    obtain ⟨gG0, gG1, gG2⟩ := G_3.out
    obtain ⟨gT0, gT1, gT2⟩ := T_3.out
    obtain ⟨gU0, gU1, gU2⟩ := U_3.out
    go_wp2_with fail
    refine (xTranscript_any P Q G c2 e2 z2 hmo hgr.2.1 _).mono ?_
    rw [K3.out]
    rintro e v4 ⟨rfl, hb⟩
    have HB_4 := Lib.hid (bt HB_3.out hb)
    have G_4 := Lib.hid (G_3.out.below hb)
    have T_4 := Lib.hid (T_3.out.below hb)
    have U_4 := Lib.hid (U_3.out.below hb)
    clear hb gG0 gG1 gG2 gT0 gT1 gT2 gU0 gU1 gU2
    obtain ⟨gG0, gG1, gG2⟩ := G_4.out
    obtain ⟨gT0, gT1, gT2⟩ := T_4.out
    obtain ⟨gU0, gU1, gU2⟩ := U_4.out
    go_wp2
    go_ret2
    exact ⟨rfl, HB_4.out⟩
  have h5 := Decidable.not_not.1 h5
  have B5 : ((e1 : Int) == e2) = false := by simpa using h5
  cases h6 : accW P b y c1 e1 z1
  · have K6 := Lib.hid (show accW P b y c1 e1 z1 = false from h6)
    have E1 := Lib.hid (show ekB P Q G b y c1 e1 z1 c2 e2 z2 = false from by rw [ekB_eq]; simp only [h0, h1, h2, h3, decide_eq_true h4, decide_eq_true h5, h6, Bool.true_and, Bool.false_and, Bool.and_false, Bool.and_true])
    rw [E1.out, ek_off E1.out]
    clear h0 h1 h2 h3 h4 h5 h6
    obtain ⟨gG0, gG1, gG2⟩ := G_0.out
    obtain ⟨gT0, gT1, gT2⟩ := T_0.out
    obtain ⟨gU0, gU1, gU2⟩ := U_0.out
    go_enter Try.func44, Try.ntmps44
    go_wp2_with fail
    refine (l2Good_any P Q G _).mono ?_
    rw [K0.out]
    rintro e v1 ⟨rfl, hb⟩
    have HB_1 := Lib.hid (bt HB_0.out hb)
    have G_1 := Lib.hid (G_0.out.below hb)
    have T_1 := Lib.hid (T_0.out.below hb)
    have U_1 := Lib.hid (U_0.out.below hb)
    clear hb gG0 gG1 gG2 gT0 gT1 gT2 gU0 gU1 gU2
    obtain ⟨gG0, gG1, gG2⟩ := G_1.out
    obtain ⟨gT0, gT1, gT2⟩ := T_1.out
    obtain ⟨gU0, gU1, gU2⟩ := U_1.out
    go_wp2_with fail
    refine (gIs_any P Q G hmo _ 2 2 [b, y] rfl (by decide) _ (ints_lit v1 [b, y] 3)).mono ?_
    rw [K1.out]
    rintro e v2 ⟨rfl, hb0⟩
    have hb := bt (ba v1 _) hb0
    clear hb0
    have HB_2 := Lib.hid (bt HB_1.out hb)
    have G_2 := Lib.hid (G_1.out.below hb)
    have T_2 := Lib.hid (T_1.out.below hb)
    have U_2 := Lib.hid (U_1.out.below hb)
    clear hb gG0 gG1 gG2 gT0 gT1 gT2 gU0 gU1 gU2
    obtain ⟨gG0, gG1, gG2⟩ := G_2.out
    obtain ⟨gT0, gT1, gT2⟩ := T_2.out
    obtain ⟨gU0, gU1, gU2⟩ := U_2.out
    go_wp2_with fail
    refine (xTranscript_any P Q G c1 e1 z1 hmo hgr.2.1 _).mono ?_
    rw [K2.out]
    rintro e v3 ⟨rfl, hb⟩
    have HB_3 := Lib.hid (bt HB_2.out hb)
    have G_3 := Lib.hid (G_2.out.below hb)
    have T_3 := Lib.hid (T_2.out.below hb)
    have U_3 := Lib.hid (U_2.out.below hb)
    clear hb gG0 gG1 gG2 gT0 gT1 gT2 gU0 gU1 gU2
    obtain ⟨gG0, gG1, gG2⟩ := G_3.out
    obtain ⟨gT0, gT1, gT2⟩ := T_3.out
    obtain ⟨gU0, gU1, gU2⟩ := U_3.out
    go_wp2_with fail
    refine (xTranscript_any P Q G c2 e2 z2 hmo hgr.2.1 _).mono ?_
    rw [K3.out]
    rintro e v4 ⟨rfl, hb⟩
    have HB_4 := Lib.hid (bt HB_3.out hb)
    have G_4 := Lib.hid (G_3.out.below hb)
    have T_4 := Lib.hid (T_3.out.below hb)
    have U_4 := Lib.hid (U_3.out.below hb)
    clear hb gG0 gG1 gG2 gT0 gT1 gT2 gU0 gU1 gU2
    obtain ⟨gG0, gG1, gG2⟩ := G_4.out
    obtain ⟨gT0, gT1, gT2⟩ := T_4.out
    obtain ⟨gU0, gU1, gU2⟩ := U_4.out
    go_wp2_with fail
    refine (xAccepts_any P Q G b y c1 e1 z1 hgd hb1 hy1 hc1 he1 hz1 _).mono ?_
    rw [K6.out]
    rintro e v5 ⟨rfl, hb⟩
    have HB_5 := Lib.hid (bt HB_4.out hb)
    have G_5 := Lib.hid (G_4.out.below hb)
    have T_5 := Lib.hid (T_4.out.below hb)
    have U_5 := Lib.hid (U_4.out.below hb)
    clear hb gG0 gG1 gG2 gT0 gT1 gT2 gU0 gU1 gU2
    obtain ⟨gG0, gG1, gG2⟩ := G_5.out
    obtain ⟨gT0, gT1, gT2⟩ := T_5.out
    obtain ⟨gU0, gU1, gU2⟩ := U_5.out
    go_wp2
    go_ret2
    exact ⟨rfl, HB_5.out⟩
  have K6 := Lib.hid (show accW P b y c1 e1 z1 = true from h6)
  cases h7 : accW P b y c2 e2 z2
  · have K7 := Lib.hid (show accW P b y c2 e2 z2 = false from h7)
    have E1 := Lib.hid (show ekB P Q G b y c1 e1 z1 c2 e2 z2 = false from by rw [ekB_eq]; simp only [h0, h1, h2, h3, decide_eq_true h4, decide_eq_true h5, h6, h7, Bool.true_and, Bool.false_and, Bool.and_false, Bool.and_true])
    rw [E1.out, ek_off E1.out]
    clear h0 h1 h2 h3 h4 h5 h6 h7
    obtain ⟨gG0, gG1, gG2⟩ := G_0.out
    obtain ⟨gT0, gT1, gT2⟩ := T_0.out
    obtain ⟨gU0, gU1, gU2⟩ := U_0.out
    go_enter Try.func44, Try.ntmps44
    go_wp2_with fail
    refine (l2Good_any P Q G _).mono ?_
    rw [K0.out]
    rintro e v1 ⟨rfl, hb⟩
    have HB_1 := Lib.hid (bt HB_0.out hb)
    have G_1 := Lib.hid (G_0.out.below hb)
    have T_1 := Lib.hid (T_0.out.below hb)
    have U_1 := Lib.hid (U_0.out.below hb)
    clear hb gG0 gG1 gG2 gT0 gT1 gT2 gU0 gU1 gU2
    obtain ⟨gG0, gG1, gG2⟩ := G_1.out
    obtain ⟨gT0, gT1, gT2⟩ := T_1.out
    obtain ⟨gU0, gU1, gU2⟩ := U_1.out
    go_wp2_with fail
    refine (gIs_any P Q G hmo _ 2 2 [b, y] rfl (by decide) _ (ints_lit v1 [b, y] 3)).mono ?_
    rw [K1.out]
    rintro e v2 ⟨rfl, hb0⟩
    have hb := bt (ba v1 _) hb0
    clear hb0
    have HB_2 := Lib.hid (bt HB_1.out hb)
    have G_2 := Lib.hid (G_1.out.below hb)
    have T_2 := Lib.hid (T_1.out.below hb)
    have U_2 := Lib.hid (U_1.out.below hb)
    clear hb gG0 gG1 gG2 gT0 gT1 gT2 gU0 gU1 gU2
    obtain ⟨gG0, gG1, gG2⟩ := G_2.out
    obtain ⟨gT0, gT1, gT2⟩ := T_2.out
    obtain ⟨gU0, gU1, gU2⟩ := U_2.out
    go_wp2_with fail
    refine (xTranscript_any P Q G c1 e1 z1 hmo hgr.2.1 _).mono ?_
    rw [K2.out]
    rintro e v3 ⟨rfl, hb⟩
    have HB_3 := Lib.hid (bt HB_2.out hb)
    have G_3 := Lib.hid (G_2.out.below hb)
    have T_3 := Lib.hid (T_2.out.below hb)
    have U_3 := Lib.hid (U_2.out.below hb)
    clear hb gG0 gG1 gG2 gT0 gT1 gT2 gU0 gU1 gU2
    obtain ⟨gG0, gG1, gG2⟩ := G_3.out
    obtain ⟨gT0, gT1, gT2⟩ := T_3.out
    obtain ⟨gU0, gU1, gU2⟩ := U_3.out
    go_wp2_with fail
    refine (xTranscript_any P Q G c2 e2 z2 hmo hgr.2.1 _).mono ?_
    rw [K3.out]
    rintro e v4 ⟨rfl, hb⟩
    have HB_4 := Lib.hid (bt HB_3.out hb)
    have G_4 := Lib.hid (G_3.out.below hb)
    have T_4 := Lib.hid (T_3.out.below hb)
    have U_4 := Lib.hid (U_3.out.below hb)
    clear hb gG0 gG1 gG2 gT0 gT1 gT2 gU0 gU1 gU2
    obtain ⟨gG0, gG1, gG2⟩ := G_4.out
    obtain ⟨gT0, gT1, gT2⟩ := T_4.out
    obtain ⟨gU0, gU1, gU2⟩ := U_4.out
    go_wp2_with fail
    refine (xAccepts_any P Q G b y c1 e1 z1 hgd hb1 hy1 hc1 he1 hz1 _).mono ?_
    rw [K6.out]
    rintro e v5 ⟨rfl, hb⟩
    have HB_5 := Lib.hid (bt HB_4.out hb)
    have G_5 := Lib.hid (G_4.out.below hb)
    have T_5 := Lib.hid (T_4.out.below hb)
    have U_5 := Lib.hid (U_4.out.below hb)
    clear hb gG0 gG1 gG2 gT0 gT1 gT2 gU0 gU1 gU2
    obtain ⟨gG0, gG1, gG2⟩ := G_5.out
    obtain ⟨gT0, gT1, gT2⟩ := T_5.out
    obtain ⟨gU0, gU1, gU2⟩ := U_5.out
    go_wp2_with fail
    refine (xAccepts_any P Q G b y c2 e2 z2 hgd hb1 hy1 hc2 he2 hz2 _).mono ?_
    rw [K7.out]
    rintro e v6 ⟨rfl, hb⟩
    have HB_6 := Lib.hid (bt HB_5.out hb)
    have G_6 := Lib.hid (G_5.out.below hb)
    have T_6 := Lib.hid (T_5.out.below hb)
    have U_6 := Lib.hid (U_5.out.below hb)
    clear hb gG0 gG1 gG2 gT0 gT1 gT2 gU0 gU1 gU2
    obtain ⟨gG0, gG1, gG2⟩ := G_6.out
    obtain ⟨gT0, gT1, gT2⟩ := T_6.out
    obtain ⟨gU0, gU1, gU2⟩ := U_6.out
    go_wp2
    go_ret2
    exact ⟨rfl, HB_6.out⟩
  have K7 := Lib.hid (show accW P b y c2 e2 z2 = true from h7)
  have E1 := Lib.hid (show ekB P Q G b y c1 e1 z1 c2 e2 z2 = true from by rw [ekB_eq]; simp only [h0, h1, h2, h3, decide_eq_true h4, decide_eq_true h5, h6, h7, Bool.true_and, Bool.false_and, Bool.and_false, Bool.and_true])
  rw [E1.out, ek_on E1.out]
  have HX := Lib.hid (xSlope_any P Q G z1 z2 e1 e2 hgd hz1 hz2 he1 he2 h5)
  clear h0 h1 h2 h3 h4 h5 h6 h7
  obtain ⟨gG0, gG1, gG2⟩ := G_0.out
  obtain ⟨gT0, gT1, gT2⟩ := T_0.out
  obtain ⟨gU0, gU1, gU2⟩ := U_0.out
  go_enter Try.func44, Try.ntmps44
  go_wp2_with fail
  refine (l2Good_any P Q G _).mono ?_
  rw [K0.out]
  rintro e v1 ⟨rfl, hb⟩
  have HB_1 := Lib.hid (bt HB_0.out hb)
  have G_1 := Lib.hid (G_0.out.below hb)
  have T_1 := Lib.hid (T_0.out.below hb)
  have U_1 := Lib.hid (U_0.out.below hb)
  clear hb gG0 gG1 gG2 gT0 gT1 gT2 gU0 gU1 gU2
  obtain ⟨gG0, gG1, gG2⟩ := G_1.out
  obtain ⟨gT0, gT1, gT2⟩ := T_1.out
  obtain ⟨gU0, gU1, gU2⟩ := U_1.out
  go_wp2_with fail
  refine (gIs_any P Q G hmo _ 2 2 [b, y] rfl (by decide) _ (ints_lit v1 [b, y] 3)).mono ?_
  rw [K1.out]
  rintro e v2 ⟨rfl, hb0⟩
  have hb := bt (ba v1 _) hb0
  clear hb0
  have HB_2 := Lib.hid (bt HB_1.out hb)
  have G_2 := Lib.hid (G_1.out.below hb)
  have T_2 := Lib.hid (T_1.out.below hb)
  have U_2 := Lib.hid (U_1.out.below hb)
  clear hb gG0 gG1 gG2 gT0 gT1 gT2 gU0 gU1 gU2
  obtain ⟨gG0, gG1, gG2⟩ := G_2.out
  obtain ⟨gT0, gT1, gT2⟩ := T_2.out
  obtain ⟨gU0, gU1, gU2⟩ := U_2.out
  go_wp2_with fail
  refine (xTranscript_any P Q G c1 e1 z1 hmo hgr.2.1 _).mono ?_
  rw [K2.out]
  rintro e v3 ⟨rfl, hb⟩
  have HB_3 := Lib.hid (bt HB_2.out hb)
  have G_3 := Lib.hid (G_2.out.below hb)
  have T_3 := Lib.hid (T_2.out.below hb)
  have U_3 := Lib.hid (U_2.out.below hb)
  clear hb gG0 gG1 gG2 gT0 gT1 gT2 gU0 gU1 gU2
  obtain ⟨gG0, gG1, gG2⟩ := G_3.out
  obtain ⟨gT0, gT1, gT2⟩ := T_3.out
  obtain ⟨gU0, gU1, gU2⟩ := U_3.out
  go_wp2_with fail
  refine (xTranscript_any P Q G c2 e2 z2 hmo hgr.2.1 _).mono ?_
  rw [K3.out]
  rintro e v4 ⟨rfl, hb⟩
  have HB_4 := Lib.hid (bt HB_3.out hb)
  have G_4 := Lib.hid (G_3.out.below hb)
  have T_4 := Lib.hid (T_3.out.below hb)
  have U_4 := Lib.hid (U_3.out.below hb)
  clear hb gG0 gG1 gG2 gT0 gT1 gT2 gU0 gU1 gU2
  obtain ⟨gG0, gG1, gG2⟩ := G_4.out
  obtain ⟨gT0, gT1, gT2⟩ := T_4.out
  obtain ⟨gU0, gU1, gU2⟩ := U_4.out
  go_wp2_with fail
  refine (xAccepts_any P Q G b y c1 e1 z1 hgd hb1 hy1 hc1 he1 hz1 _).mono ?_
  rw [K6.out]
  rintro e v5 ⟨rfl, hb⟩
  have HB_5 := Lib.hid (bt HB_4.out hb)
  have G_5 := Lib.hid (G_4.out.below hb)
  have T_5 := Lib.hid (T_4.out.below hb)
  have U_5 := Lib.hid (U_4.out.below hb)
  clear hb gG0 gG1 gG2 gT0 gT1 gT2 gU0 gU1 gU2
  obtain ⟨gG0, gG1, gG2⟩ := G_5.out
  obtain ⟨gT0, gT1, gT2⟩ := T_5.out
  obtain ⟨gU0, gU1, gU2⟩ := U_5.out
  go_wp2_with fail
  refine (xAccepts_any P Q G b y c2 e2 z2 hgd hb1 hy1 hc2 he2 hz2 _).mono ?_
  rw [K7.out]
  rintro e v6 ⟨rfl, hb⟩
  have HB_6 := Lib.hid (bt HB_5.out hb)
  have G_6 := Lib.hid (G_5.out.below hb)
  have T_6 := Lib.hid (T_5.out.below hb)
  have U_6 := Lib.hid (U_5.out.below hb)
  clear hb gG0 gG1 gG2 gT0 gT1 gT2 gU0 gU1 gU2
  obtain ⟨gG0, gG1, gG2⟩ := G_6.out
  obtain ⟨gT0, gT1, gT2⟩ := T_6.out
  obtain ⟨gU0, gU1, gU2⟩ := U_6.out
  go_wp2_with fail
  refine (HX.out _).mono ?_
  rintro e' v9 ⟨rfl, hb9⟩
  have HB_9 := Lib.hid (bt HB_6.out hb9)
  clear hb9
  go_wp2
  go_ret2
  exact ⟨rfl, HB_9.out⟩

end Go.Proofs.Ytinmpookknpmlaa

/- Simulators and extractors: transcripts are copied and compared. -/
namespace Go.Proofs.Ytinmpookknpmlaa
open Go.RowKit
set_option linter.unusedVariables false
set_option linter.unusedSimpArgs false

theorem toTr_any (c e z : Int) (w : World) :
    Calls Try.prog 39 #[gv c e z] w fun e' w' => e' = .returned (gv c e z) ∧ Below w.heap.size w w' := by
  go_enter Try.func39, Try.ntmps39
  go_wp2
  (try simp only [Exit.inBlock, Exit.then])
  refine bodyPost_ret (v := gv c e z) ?_ rfl ⟨rfl, ?_⟩
  · rw [results_cell_one rfl]; go_simp
  · exact bt (bt (ba _ _) (ba _ _)) (ba _ _)
theorem eqTr_same (c e z : Int) (w : World) :
    Calls Try.prog 43 #[gv c e z, gv c e z] w fun e' w' => e' = .returned (.bool true) ∧ Below w.heap.size w w' := by
  have hc : (c != c) = false := by simp
  have he : (e != e) = false := by simp
  have hz : (z != z) = false := by simp
  go_enter Try.func43, Try.ntmps43
  go_wp2
  go_ret
  exact ⟨rfl, bt (ba _ _) (ba _ _)⟩

end Go.Proofs.Ytinmpookknpmlaa

