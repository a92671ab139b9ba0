/- Simulators and extractors: the reference's functions. -/
import Derived.Test.YtdaekpfngphefaaExtF
namespace Go.Proofs.Ytdaekpfngphefaa
open Go.RowKit
set_option linter.unusedVariables false
set_option linter.unusedSimpArgs false

theorem nMod_em (a m : Int) (h0 : -m < a) (h1 : a < m) (h2 : 2 ≤ m) (h3 : m ≤ 2000000000) (w : World) :
    Calls Try.prog 118 #[.int .i64 a, .int .i64 m] w fun e w' => e = .returned (.int .i64 (a % m)) ∧ w = w' := by
  have e : (if a < 0 then a + m else a) = a % m := by
    split
    · rw [← Int.add_emod_right, Int.emod_eq_of_lt (by omega) (by omega)]
    · rw [Int.emod_eq_of_lt (by omega) (by omega)]
  have h := nMod_any a m h0 h1 h2 h3 w
  rwa [e] at h
theorem gExp_neg (P Q G x e : Int) (h1 : 0 ≤ x) (h2 : x ≤ 2000000000) (h3 : 0 ≤ e) (h4 : e < Q) (h5 : 2 ≤ P) (h6 : P ≤ 2000000000) (h7 : 2 ≤ Q) (h8 : Q ≤ 2000000000) (w : World) :
    Calls Try.prog 99 #[gv P Q G, .int .i64 x, .int .i64 (-e)] w (EqOut (.int .i64 (Num.pow x ((-e) % Q) P)) w) := by
  have hr : 0 ≤ (-e) % Q ∧ (-e) % Q < Q := ⟨Int.emod_nonneg _ (by omega), Int.emod_lt_of_pos _ (by omega)⟩
  have HM := Lib.hid (nMod_em (-e) Q (by omega) (by omega) h7 h8)
  generalize hk : (-e) % Q = k at hr HM ⊢
  clear hk
  go_enter Try.func99, Try.ntmps99
  go_wp2_with fail
  go_quiet (first | (go_at_call 118; refine quietly (HM.out _)) | (go_at_call 94; refine quietly (nPower_any _ _ _ h1 h2 hr.1 (by omega) h5 h6 _)))
  go_wp2
  go_ret
  exact ⟨rfl, below_drewN (ba _ _) _⟩

set_option maxRecDepth 100000 in
set_option maxHeartbeats 3200000 in
theorem xTranscript_any (P Q G c e z : Int) (hmo : Mo P Q) (hq : 2 ≤ Q ∧ Q ≤ 2000000000) (w : World) :
    Calls Try.prog 86 #[gv P Q G, gv c e z] w (EqOut (.bool (trB P Q c e z)) w) := by
  have G_0 := Lib.hid ((gr_at w (w.heap.size) (by simp) P Q G 32).below (ba (w.alloc (.cells #[.int .i64 P, .int .i64 Q, .int .i64 G] 32)) (.cells #[.int .i64 c, .int .i64 e, .int .i64 z] 77)))
  have T_0 := Lib.hid (gr_at (w.alloc (.cells #[.int .i64 P, .int .i64 Q, .int .i64 G] 32)) (w.heap.size + 1) (by simp) c e z 77)
  have HB_0 := Lib.hid (show Below w.heap.size w ((w.alloc (.cells #[.int .i64 P, .int .i64 Q, .int .i64 G] 32)).alloc (.cells #[.int .i64 c, .int .i64 e, .int .i64 z] 77)) from bt (ba _ _) (ba _ _))
  obtain ⟨gG0, gG1, gG2⟩ := G_0.out
  obtain ⟨gT0, gT1, gT2⟩ := T_0.out
  generalize hW : (w.alloc (.cells #[.int .i64 P, .int .i64 Q, .int .i64 G] 32)).alloc (.cells #[.int .i64 c, .int .i64 e, .int .i64 z] 77) = W at *
  cases h0 : elB P Q c
  · have K0 := Lib.hid ((allEl_one P Q c).trans h0)
    rw [tr_two, h0, Bool.false_and]
    clear h0
    go_enter Try.func86, Try.ntmps86
    go_wp2_with fail
    refine (gIs_any P Q G hmo _ 1 1 [c] rfl (by decide) _ (ints_spot W _ rfl [c] 3)).mono ?_
    rw [K0.out]
    rintro e' v1 ⟨rfl, hb⟩
    have HB_1 := Lib.hid (bt HB_0.out (bt (ba W _) hb))
    have T_1 := Lib.hid (T_0.out.below (bt (ba W _) hb))
    have G_1 := Lib.hid (G_0.out.below (bt (ba W _) hb))
    clear hb gG0 gG1 gG2 gT0 gT1 gT2
    obtain ⟨gG0, gG1, gG2⟩ := G_1.out
    obtain ⟨gT0, gT1, gT2⟩ := T_1.out
    go_wp2
    go_ret
    exact ⟨rfl, HB_1.out⟩
  have K0 := Lib.hid ((allEl_one P Q c).trans h0)
  rw [tr_two, h0, Bool.true_and]
  clear h0
  go_enter Try.func86, Try.ntmps86
  go_wp2_with fail
  refine (gIs_any P Q G hmo _ 1 1 [c] rfl (by decide) _ (ints_spot W _ rfl [c] 3)).mono ?_
  rw [K0.out]
  rintro e' v1 ⟨rfl, hb⟩
  have HB_1 := Lib.hid (bt HB_0.out (bt (ba W _) hb))
  have T_1 := Lib.hid (T_0.out.below (bt (ba W _) hb))
  have G_1 := Lib.hid (G_0.out.below (bt (ba W _) hb))
  clear hb gG0 gG1 gG2 gT0 gT1 gT2
  obtain ⟨gG0, gG1, gG2⟩ := G_1.out
  obtain ⟨gT0, gT1, gT2⟩ := T_1.out
  go_wp2_with fail
  refine (gExps_any P Q G ⟨by omega, by omega⟩ _ 2 2 [e, z] rfl (by decide) _ (ints_lit v1 [e, z] 3)).mono ?_
  rintro e' v2 ⟨rfl, hb⟩
  have HB_2 := Lib.hid (bt HB_1.out (bt (ba v1 _) hb))
  clear hb
  go_wp2
  go_ret
  exact ⟨rfl, HB_2.out⟩

set_option maxRecDepth 100000 in
set_option maxHeartbeats 3200000 in
theorem sRespondTo_any (P Q G s c e : Int) (w : World) :
    Calls Try.prog 51 #[gv P Q G, .int .i64 s, .int .i64 c, .int .i64 e] w (EqOut (.tuple #[.int .i64 (rtV P Q G s c e), .bool (rtB P Q G s c e)]) w) := by
  have G_0 := Lib.hid (gr_at w (w.heap.size) (by simp) P Q G 32)
  have HB_0 := Lib.hid (show Below w.heap.size w (w.alloc (.cells #[.int .i64 P, .int .i64 Q, .int .i64 G] 32)) from ba _ _)
  cases h0 : goodB P Q G
  · have K0 := Lib.hid (show goodB P Q G = false from h0)
    have E1 := Lib.hid (show rtB P Q G s c e = false by simp [rtB, h0])
    rw [E1.out, rt_off E1.out]
    clear h0
    obtain ⟨gG0, gG1, gG2⟩ := G_0.out
    go_enter Try.func51, Try.ntmps51
    go_wp2_with fail
    refine (l2Good_any P Q G _).mono ?_
    rw [K0.out]
    rintro e v1 ⟨rfl, hb⟩
    have HB_1 := Lib.hid (bt HB_0.out hb)
    have G_1 := Lib.hid (G_0.out.below hb)
    clear hb gG0 gG1 gG2
    obtain ⟨gG0, gG1, gG2⟩ := G_1.out
    go_wp2
    go_ret2
    exact ⟨rfl, HB_1.out⟩
  have K0 := Lib.hid (show goodB P Q G = true from h0)
  have hmo := good_mo h0
  have hgr := good_rng h0
  have hgd := h0
  cases h1 : allIn [s, c, e] 0 (Q - 1)
  · have K1 := Lib.hid (show allIn [s, c, e] 0 (Q - 1) = false from h1)
    have E1 := Lib.hid (show rtB P Q G s c e = false by simp [rtB, h0, h1])
    rw [E1.out, rt_off E1.out]
    clear h0 h1
    obtain ⟨gG0, gG1, gG2⟩ := G_0.out
    go_enter Try.func51, Try.ntmps51
    go_wp2_with fail
    refine (l2Good_any P Q G _).mono ?_
    rw [K0.out]
    rintro e v1 ⟨rfl, hb⟩
    have HB_1 := Lib.hid (bt HB_0.out hb)
    have G_1 := Lib.hid (G_0.out.below hb)
    clear hb gG0 gG1 gG2
    obtain ⟨gG0, gG1, gG2⟩ := G_1.out
    go_wp2_with fail
    refine (gExps_any P Q G ⟨by omega, by omega⟩ _ 3 3 [s, c, e] rfl (by decide) _ (ints_lit v1 [s, c, e] 3)).mono ?_
    rw [K1.out]
    rintro e v2 ⟨rfl, hb0⟩
    have hb := bt (ba v1 _) hb0
    clear hb0
    have HB_2 := Lib.hid (bt HB_1.out hb)
    have G_2 := Lib.hid (G_1.out.below hb)
    clear hb gG0 gG1 gG2
    obtain ⟨gG0, gG1, gG2⟩ := G_2.out
    go_wp2
    go_ret2
    exact ⟨rfl, HB_2.out⟩
  have K1 := Lib.hid (show allIn [s, c, e] 0 (Q - 1) = true from h1)
  obtain ⟨hs, hc, he⟩ := in_three h1
  have E1 := Lib.hid (show rtB P Q G s c e = true by simp [rtB, h0, h1])
  rw [E1.out, rt_on E1.out]
  obtain ⟨p0, p1⟩ := prod_bd (a := e) (z := s) he.1 (by omega) hs.1 (by omega)
  clear h0 h1 hgd
  obtain ⟨gG0, gG1, gG2⟩ := G_0.out
  go_enter Try.func51, Try.ntmps51
  go_wp2_with fail
  refine (l2Good_any P Q G _).mono ?_
  rw [K0.out]
  rintro e v1 ⟨rfl, hb⟩
  have HB_1 := Lib.hid (bt HB_0.out hb)
  have G_1 := Lib.hid (G_0.out.below hb)
  clear hb gG0 gG1 gG2
  obtain ⟨gG0, gG1, gG2⟩ := G_1.out
  go_wp2_with fail
  refine (gExps_any P Q G ⟨by omega, by omega⟩ _ 3 3 [s, c, e] rfl (by decide) _ (ints_lit v1 [s, c, e] 3)).mono ?_
  rw [K1.out]
  rintro e v2 ⟨rfl, hb0⟩
  have hb := bt (ba v1 _) hb0
  clear hb0
  have HB_2 := Lib.hid (bt HB_1.out hb)
  have G_2 := Lib.hid (G_1.out.below hb)
  clear hb gG0 gG1 gG2
  obtain ⟨gG0, gG1, gG2⟩ := G_2.out
  go_wp2
  go_ret2
  exact ⟨rfl, HB_2.out⟩

set_option maxRecDepth 100000 in
set_option maxHeartbeats 3200000 in
theorem xAccepts_any (P Q G b y c e z : Int) (hg : goodB P Q G = true) (hb : elB P Q b = true) (hy : elB P Q y = true) (hc : elB P Q c = true) (he : 0 ≤ e ∧ e < Q) (hz : 0 ≤ z ∧ z < Q) (w : World) :
    Calls Try.prog 87 #[gv P Q G, .int .i64 b, .int .i64 y, gv c e z] w (EqOut (.bool (accW P b y c e z)) w) := by
  have hmo := good_mo hg
  have hgr := good_rng hg
  have hP : 2 ≤ P ∧ P ≤ 2000000000 := hmo.1
  have hQ2 : 2 ≤ Q ∧ Q ≤ 2000000000 := hgr.2.1
  have HA := Lib.hid (el_rng hb)
  have HY := Lib.hid (el_rng hy)
  have hcr := el_rng hc
  have hyr := pow_lt y e P hP.1
  have E := Lib.hid (show accW P b y c e z = (Num.pow b z P == mulFrom P 1 [c, Num.pow y e P]) by unfold accW; rw [mulFrom_two hcr.1 hcr.2]; simp [BEq.beq])
  have HM := Lib.hid (show ∀ t ∈ [c, Num.pow y e P], 0 ≤ t ∧ t < P from fun t ht => by
    simp only [List.mem_cons, List.not_mem_nil, or_false] at ht
    rcases ht with rfl | rfl
    · exact hcr
    · exact hyr)
  generalize hp1 : Num.pow b z P = p1 at E
  generalize hp2 : Num.pow y e P = p2 at E HM
  generalize hm : mulFrom P 1 [c, p2] = m at E
  have P1 := Lib.hid hp1
  have P2 := Lib.hid hp2
  have P3 := Lib.hid hm
  rw [E.out]
  clear hp1 hp2 hm hg hb hy hc hmo hgr hcr hyr E
  have G_0 := Lib.hid ((gr_at w (w.heap.size) (by simp) P Q G 32).below (ba (w.alloc (.cells #[.int .i64 P, .int .i64 Q, .int .i64 G] 32)) (.cells #[.int .i64 c, .int .i64 e, .int .i64 z] 77)))
  have T_0 := Lib.hid (gr_at (w.alloc (.cells #[.int .i64 P, .int .i64 Q, .int .i64 G] 32)) (w.heap.size + 1) (by simp) c e z 77)
  have HB_0 := Lib.hid (show Below w.heap.size w ((w.alloc (.cells #[.int .i64 P, .int .i64 Q, .int .i64 G] 32)).alloc (.cells #[.int .i64 c, .int .i64 e, .int .i64 z] 77)) from bt (ba _ _) (ba _ _))
  obtain ⟨g0, g1, g2⟩ := G_0.out
  obtain ⟨t0, t1, t2⟩ := T_0.out
  go_enter Try.func87, Try.ntmps87
  go_wp2_with fail
  go_region_held3 (fun w' => (w'.cell? ⟨w.heap.size, 0, none⟩ = some (.int .i64 P) ∧ w'.cell? ⟨w.heap.size, 1, none⟩ = some (.int .i64 Q) ∧ w'.cell? ⟨w.heap.size, 2, none⟩ = some (.int .i64 G)) ∧ w'.cell? ⟨w.heap.size + 1, 0, none⟩ = some (.int .i64 c) ∧ w'.cell? ⟨w.heap.size + 1, 1, none⟩ = some (.int .i64 e) ∧ w'.cell? ⟨w.heap.size + 1, 2, none⟩ = some (.int .i64 z)) (first | with_reducible exact ⟨⟨s0, s1, s2⟩, r0, r1, r2⟩ | with_reducible exact ⟨⟨x0, x1, x2⟩, y0, y1, y2⟩ | with_reducible exact ⟨⟨u0, u1, u2⟩, q0, q1, q2⟩ | with_reducible exact ⟨⟨g0, g1, g2⟩, t0, t1, t2⟩ | exact ⟨GR.below Gq.out (ba vq _), GR.below Tq.out (ba vq _)⟩ | exact ⟨⟨g0, g1, g2⟩, t0, t1, t2⟩) ((first
    | (go_at_call 99; (with_reducible refine (gExp_any P Q G b z HA.out.1 (by have := HA.out.2; omega) hz.1 hz.2 hP.1 hP.2 hQ2.1 hQ2.2 _).mono ?_); rw [P1.out]; rintro e' vp ⟨rfl, hp⟩; have HBp := Lib.hid (bt_drop HB_0.out hp); have Gp := Lib.hid (gr_drop G_0.out hp); have Tp := Lib.hid (gr_drop T_0.out hp); obtain ⟨s0, s1, s2⟩ := Gp.out; obtain ⟨r0, r1, r2⟩ := Tp.out; clear hp)
    | (go_at_call 99; (with_reducible refine (gExp_any P Q G y e HY.out.1 (by have := HY.out.2; omega) he.1 he.2 hP.1 hP.2 hQ2.1 hQ2.2 _).mono ?_); rw [P2.out]; rintro e' vq ⟨rfl, hp⟩; have HBq := Lib.hid (bt HBp.out hp); have Gq := Lib.hid (Gp.out.below hp); have Tq := Lib.hid (Tp.out.below hp); obtain ⟨x0, x1, x2⟩ := Gq.out; obtain ⟨y0, y1, y2⟩ := Tq.out; clear hp)
    | (go_at_call 98; refine (gMul_any P Q G _ 2 2 [c, p2] rfl (by decide) hP.1 hP.2 HM.out _ (ints_lit vq [c, p2] 3)).mono ?_; rw [P3.out]; rintro e' vr ⟨rfl, hp⟩; have hpl := bt (ba vq _) hp; have HBr := Lib.hid (bt HBq.out hpl); obtain ⟨u0, u1, u2⟩ := Gq.out.below hpl; obtain ⟨q0, q1, q2⟩ := Tq.out.below hpl; clear hp hpl)
    | fail))
  all_goals (
    go_wp2
    go_ret
    exact ⟨rfl, HBr.out⟩)

set_option maxRecDepth 100000 in
set_option maxHeartbeats 3200000 in
theorem xSimulate_any (P Q G b y e z : Int) (hg : goodB P Q G = true) (hb : elB P Q b = true) (hy : elB P Q y = true) (he : 0 ≤ e ∧ e < Q) (hz : 0 ≤ z ∧ z < Q) (w : World) :
    Calls Try.prog 91 #[gv P Q G, .int .i64 b, .int .i64 y, .int .i64 e, .int .i64 z] w (EqOut (gv (simW P Q b y e z) e z) w) := by
  have hmo := good_mo hg
  have hgr := good_rng hg
  have hP : 2 ≤ P ∧ P ≤ 2000000000 := hmo.1
  have hQ2 : 2 ≤ Q ∧ Q ≤ 2000000000 := hgr.2.1
  have HA := Lib.hid (el_rng hb)
  have HY := Lib.hid (el_rng hy)
  have hxr := pow_lt b z P hP.1
  have hyr := pow_lt y ((-e) % Q) P hP.1
  have E := Lib.hid (show simW P Q b y e z = mulFrom P 1 [Num.pow b z P, Num.pow y ((-e) % Q) P] by rw [sim_neg hg hb hy he hz.1, mulFrom_two hxr.1 hxr.2])
  have HM := Lib.hid (show ∀ t ∈ [Num.pow b z P, Num.pow y ((-e) % Q) P], 0 ≤ t ∧ t < P from fun t ht => by
    simp only [List.mem_cons, List.not_mem_nil, or_false] at ht
    rcases ht with rfl | rfl
    · exact hxr
    · exact hyr)
  generalize hp1 : Num.pow b z P = p1 at E HM
  generalize hp2 : Num.pow y ((-e) % Q) P = p2 at E HM
  generalize hm : simW P Q b y e z = m at E ⊢
  have P1 := Lib.hid hp1
  have P2 := Lib.hid hp2
  have hng : IntKind.i64.wrap (-e) = -e := by rw [IntKind.wrap_i64]; omega
  have hng0 : IntKind.i64.wrap (0 - e) = -e := by rw [IntKind.wrap_i64]; omega
  clear hp1 hp2 hm hg hb hy hmo hgr hxr hyr
  have G_0 := Lib.hid ((gr_at w (w.heap.size) (by simp) P Q G 32).below (ba (w.alloc (.cells #[.int .i64 P, .int .i64 Q, .int .i64 G] 32)) (.cells #[.int .i64 0, .int .i64 0, .int .i64 0] 77)))
  have R_0 := Lib.hid (show Own3 ((w.alloc (.cells #[.int .i64 P, .int .i64 Q, .int .i64 G] 32)).alloc (.cells #[.int .i64 0, .int .i64 0, .int .i64 0] 77)) (w.heap.size + 1) 0 0 0 from by have h := own3_new (w.alloc (.cells #[.int .i64 P, .int .i64 Q, .int .i64 G] 32)) 0 0 0 77; rwa [show (w.alloc (.cells #[.int .i64 P, .int .i64 Q, .int .i64 G] 32)).heap.size = w.heap.size + 1 by simp] at h)
  have HB_0 := Lib.hid (show Below w.heap.size w ((w.alloc (.cells #[.int .i64 P, .int .i64 Q, .int .i64 G] 32)).alloc (.cells #[.int .i64 0, .int .i64 0, .int .i64 0] 77)) from bt (ba _ _) (ba _ _))
  obtain ⟨g0, g1, g2⟩ := G_0.out
  go_enter Try.func91, Try.ntmps91
  go_wp2_with fail
  go_region_held3 (fun w' => w'.cell? ⟨w.heap.size, 0, none⟩ = some (.int .i64 P) ∧ w'.cell? ⟨w.heap.size, 1, none⟩ = some (.int .i64 Q) ∧ w'.cell? ⟨w.heap.size, 2, none⟩ = some (.int .i64 G)) (first | with_reducible exact ⟨s0, s1, s2⟩ | with_reducible exact ⟨x0, x1, x2⟩ | with_reducible exact ⟨u0, u1, u2⟩ | with_reducible exact ⟨g0, g1, g2⟩ | exact GR.below Gq.out (ba vq _) | exact gr_three Gr.out (by omega) _ _ _ | exact ⟨g0, g1, g2⟩) ((first
    | (go_at_call 99; (with_reducible refine (gExp_any P Q G b z HA.out.1 (by have := HA.out.2; omega) hz.1 hz.2 hP.1 hP.2 hQ2.1 hQ2.2 _).mono ?_); rw [P1.out]; rintro e' vp ⟨rfl, hp⟩; have HBp := Lib.hid (bt_drop HB_0.out hp); have Gp := Lib.hid (gr_drop G_0.out hp); have Rp := Lib.hid (own3_drop R_0.out hp); obtain ⟨s0, s1, s2⟩ := Gp.out; clear hp)
    | (go_at_call 99; (with_reducible refine (gExp_neg P Q G y e HY.out.1 (by have := HY.out.2; omega) he.1 he.2 hP.1 hP.2 hQ2.1 hQ2.2 _).mono ?_); rw [P2.out]; rintro e' vq ⟨rfl, hp⟩; have HBq := Lib.hid (bt HBp.out hp); have Gq := Lib.hid (Gp.out.below hp); have Rq := Lib.hid (Rp.out.below hp); obtain ⟨x0, x1, x2⟩ := Gq.out; clear hp)
    | (go_at_call 98; refine (gMul_any P Q G _ 2 2 [p1, p2] rfl (by decide) hP.1 hP.2 HM.out _ (ints_lit vq [p1, p2] 3)).mono ?_; rw [← E.out]; rintro e' vr ⟨rfl, hp⟩; have hpl := bt (ba vq _) hp; have HBr := Lib.hid (bt HBq.out hpl); have Gr := Lib.hid (Gq.out.below hpl); obtain ⟨u0, u1, u2⟩ := Gr.out; obtain ⟨⟨d0, d1, d2⟩, df⟩ := Rq.out.below hpl; have df0 := df 0; have df1 := df 1; have df2 := df 2; clear hp hpl df)
    | fail))
  all_goals (
    go_wp2
    (try simp only [Exit.inBlock, Exit.then])
    refine bodyPost_ret (v := gv m e z) ?_ rfl ⟨rfl, ?_⟩
    · rw [results_cell_one rfl]; go_simp
    · first | exact set_below3 HBr.out _ (by omega) _ _ _ | exact set_below3 HBr.out.drew _ (by omega) _ _ _)

theorem xSimulate_agg (P Q G b y e z : Int) (hg : goodB P Q G = true) (hb : elB P Q b = true) (hy : elB P Q y = true) (he : 0 ≤ e ∧ e < Q) (hz : 0 ≤ z ∧ z < Q) (w : World) :
    Calls Try.prog 91 #[gv P Q G, .int .i64 b, .int .i64 y, .int .i64 e, .int .i64 z] w fun e' w' => e' = .returned (.agg #[.int .i64 (simW P Q b y e z), .int .i64 e, .int .i64 z]) ∧ Below w.heap.size w w' := xSimulate_any P Q G b y e z hg hb hy he hz w

set_option maxRecDepth 100000 in
set_option maxHeartbeats 3200000 in
theorem sIsAccepting_any (P Q G b y c e z : Int) (w : World) :
    Calls Try.prog 53 #[gv P Q G, .int .i64 b, .int .i64 y, gv c e z] w (EqOut (.tuple #[.bool (iaV P Q G b y c e z), .bool (iaB P Q G b y c e z)]) w) := by
  have G_0 := Lib.hid ((gr_at w (w.heap.size) (by simp) P Q G 32).below (ba (w.alloc (.cells #[.int .i64 P, .int .i64 Q, .int .i64 G] 32)) (.cells #[.int .i64 c, .int .i64 e, .int .i64 z] 77)))
  have T_0 := Lib.hid (gr_at (w.alloc (.cells #[.int .i64 P, .int .i64 Q, .int .i64 G] 32)) (w.heap.size + 1) (by simp) c e z 77)
  have HB_0 := Lib.hid (show Below w.heap.size w ((w.alloc (.cells #[.int .i64 P, .int .i64 Q, .int .i64 G] 32)).alloc (.cells #[.int .i64 c, .int .i64 e, .int .i64 z] 77)) from bt (ba _ _) (ba _ _))
  cases h0 : goodB P Q G
  · have K0 := Lib.hid (show goodB P Q G = false from h0)
    have E1 := Lib.hid (show iaB P Q G b y c e z = false by simp [iaB, h0])
    rw [E1.out, ia_off E1.out]
    clear h0
    obtain ⟨gG0, gG1, gG2⟩ := G_0.out
    obtain ⟨gT0, gT1, gT2⟩ := T_0.out
    go_enter Try.func53, Try.ntmps53
    go_wp2_with fail
    refine (l2Good_any P Q G _).mono ?_
    rw [K0.out]
    rintro e v1 ⟨rfl, hb⟩
    have HB_1 := Lib.hid (bt HB_0.out hb)
    have G_1 := Lib.hid (G_0.out.below hb)
    have T_1 := Lib.hid (T_0.out.below hb)
    clear hb gG0 gG1 gG2 gT0 gT1 gT2
    obtain ⟨gG0, gG1, gG2⟩ := G_1.out
    obtain ⟨gT0, gT1, gT2⟩ := T_1.out
    go_wp2
    go_ret2
    exact ⟨rfl, HB_1.out⟩
  have K0 := Lib.hid (show goodB P Q G = true from h0)
  have hmo := good_mo h0
  have hgr := good_rng h0
  have hgd := h0
  cases h1 : allEl P Q [b, y]
  · have K1 := Lib.hid (show allEl P Q [b, y] = false from h1)
    have E1 := Lib.hid (show iaB P Q G b y c e z = false by simp [iaB, h0, h1])
    rw [E1.out, ia_off E1.out]
    clear h0 h1
    obtain ⟨gG0, gG1, gG2⟩ := G_0.out
    obtain ⟨gT0, gT1, gT2⟩ := T_0.out
    go_enter Try.func53, Try.ntmps53
    go_wp2_with fail
    refine (l2Good_any P Q G _).mono ?_
    rw [K0.out]
    rintro e v1 ⟨rfl, hb⟩
    have HB_1 := Lib.hid (bt HB_0.out hb)
    have G_1 := Lib.hid (G_0.out.below hb)
    have T_1 := Lib.hid (T_0.out.below hb)
    clear hb gG0 gG1 gG2 gT0 gT1 gT2
    obtain ⟨gG0, gG1, gG2⟩ := G_1.out
    obtain ⟨gT0, gT1, gT2⟩ := T_1.out
    go_wp2_with fail
    refine (gIs_any P Q G hmo _ 2 2 [b, y] rfl (by decide) _ (ints_lit v1 [b, y] 3)).mono ?_
    rw [K1.out]
    rintro e v2 ⟨rfl, hb0⟩
    have hb := bt (ba v1 _) hb0
    clear hb0
    have HB_2 := Lib.hid (bt HB_1.out hb)
    have G_2 := Lib.hid (G_1.out.below hb)
    have T_2 := Lib.hid (T_1.out.below hb)
    clear hb gG0 gG1 gG2 gT0 gT1 gT2
    obtain ⟨gG0, gG1, gG2⟩ := G_2.out
    obtain ⟨gT0, gT1, gT2⟩ := T_2.out
    go_wp2
    go_ret2
    exact ⟨rfl, HB_2.out⟩
  have K1 := Lib.hid (show allEl P Q [b, y] = true from h1)
  obtain ⟨hb1, hy1⟩ := el_two h1
  cases h2 : trB P Q c e z
  · have K2 := Lib.hid (show trB P Q c e z = false from h2)
    have E1 := Lib.hid (show iaB P Q G b y c e z = false by simp [iaB, h0, h1, h2])
    rw [E1.out, ia_off E1.out]
    clear h0 h1 h2
    obtain ⟨gG0, gG1, gG2⟩ := G_0.out
    obtain ⟨gT0, gT1, gT2⟩ := T_0.out
    go_enter Try.func53, Try.ntmps53
    go_wp2_with fail
    refine (l2Good_any P Q G _).mono ?_
    rw [K0.out]
    rintro e v1 ⟨rfl, hb⟩
    have HB_1 := Lib.hid (bt HB_0.out hb)
    have G_1 := Lib.hid (G_0.out.below hb)
    have T_1 := Lib.hid (T_0.out.below hb)
    clear hb gG0 gG1 gG2 gT0 gT1 gT2
    obtain ⟨gG0, gG1, gG2⟩ := G_1.out
    obtain ⟨gT0, gT1, gT2⟩ := T_1.out
    go_wp2_with fail
    refine (gIs_any P Q G hmo _ 2 2 [b, y] rfl (by decide) _ (ints_lit v1 [b, y] 3)).mono ?_
    rw [K1.out]
    rintro e v2 ⟨rfl, hb0⟩
    have hb := bt (ba v1 _) hb0
    clear hb0
    have HB_2 := Lib.hid (bt HB_1.out hb)
    have G_2 := Lib.hid (G_1.out.below hb)
    have T_2 := Lib.hid (T_1.out.below hb)
    clear hb gG0 gG1 gG2 gT0 gT1 gT2
    obtain ⟨gG0, gG1, gG2⟩ := G_2.out
    obtain ⟨gT0, gT1, gT2⟩ := T_2.out
    go_wp2_with fail
    refine (xTranscript_any P Q G c e z hmo hgr.2.1 _).mono ?_
    rw [K2.out]
    rintro e v3 ⟨rfl, hb⟩
    have HB_3 := Lib.hid (bt HB_2.out hb)
    have G_3 := Lib.hid (G_2.out.below hb)
    have T_3 := Lib.hid (T_2.out.below hb)
    clear hb gG0 gG1 gG2 gT0 gT1 gT2
    obtain ⟨gG0, gG1, gG2⟩ := G_3.out
    obtain ⟨gT0, gT1, gT2⟩ := T_3.out
    go_wp2
    go_ret2
    exact ⟨rfl, HB_3.out⟩
  have K2 := Lib.hid (show trB P Q c e z = true from h2)
  obtain ⟨hc1, he1, hz1⟩ := trB_true.1 h2
  have E1 := Lib.hid (show iaB P Q G b y c e z = true by simp [iaB, h0, h1, h2])
  rw [E1.out, ia_on E1.out]
  clear h0 h1 h2
  obtain ⟨gG0, gG1, gG2⟩ := G_0.out
  obtain ⟨gT0, gT1, gT2⟩ := T_0.out
  go_enter Try.func53, Try.ntmps53
  go_wp2_with fail
  refine (l2Good_any P Q G _).mono ?_
  rw [K0.out]
  rintro e v1 ⟨rfl, hb⟩
  have HB_1 := Lib.hid (bt HB_0.out hb)
  have G_1 := Lib.hid (G_0.out.below hb)
  have T_1 := Lib.hid (T_0.out.below hb)
  clear hb gG0 gG1 gG2 gT0 gT1 gT2
  obtain ⟨gG0, gG1, gG2⟩ := G_1.out
  obtain ⟨gT0, gT1, gT2⟩ := T_1.out
  go_wp2_with fail
  refine (gIs_any P Q G hmo _ 2 2 [b, y] rfl (by decide) _ (ints_lit v1 [b, y] 3)).mono ?_
  rw [K1.out]
  rintro e v2 ⟨rfl, hb0⟩
  have hb := bt (ba v1 _) hb0
  clear hb0
  have HB_2 := Lib.hid (bt HB_1.out hb)
  have G_2 := Lib.hid (G_1.out.below hb)
  have T_2 := Lib.hid (T_1.out.below hb)
  clear hb gG0 gG1 gG2 gT0 gT1 gT2
  obtain ⟨gG0, gG1, gG2⟩ := G_2.out
  obtain ⟨gT0, gT1, gT2⟩ := T_2.out
  go_wp2_with fail
  refine (xTranscript_any P Q G c e z hmo hgr.2.1 _).mono ?_
  rw [K2.out]
  rintro e v3 ⟨rfl, hb⟩
  have HB_3 := Lib.hid (bt HB_2.out hb)
  have G_3 := Lib.hid (G_2.out.below hb)
  have T_3 := Lib.hid (T_2.out.below hb)
  clear hb gG0 gG1 gG2 gT0 gT1 gT2
  obtain ⟨gG0, gG1, gG2⟩ := G_3.out
  obtain ⟨gT0, gT1, gT2⟩ := T_3.out
  go_wp2_with fail
  refine (xAccepts_any P Q G b y c e z hgd hb1 hy1 hc1 he1 hz1 _).mono ?_
  rintro e' v9 ⟨rfl, hb9⟩
  have HB_9 := Lib.hid (bt HB_3.out hb9)
  clear hb9
  go_wp2
  go_ret2
  exact ⟨rfl, HB_9.out⟩

set_option maxRecDepth 100000 in
set_option maxHeartbeats 3200000 in
theorem sSimulateKnowledge_any (P Q G b y e z : Int) (w : World) :
    Calls Try.prog 56 #[gv P Q G, .int .i64 b, .int .i64 y, .int .i64 e, .int .i64 z] w (EqOut (.tuple #[gv (skC P Q G b y e z) (skE P Q G b y e z) (skZ P Q G b y e z), .bool (skB P Q G b y e z)]) w) := by
  have G_0 := Lib.hid ((gr_at w (w.heap.size) (by simp) P Q G 32).below (ba (w.alloc (.cells #[.int .i64 P, .int .i64 Q, .int .i64 G] 32)) (.cells #[.int .i64 0, .int .i64 0, .int .i64 0] 77)))
  have R_0 := Lib.hid (show Own3 ((w.alloc (.cells #[.int .i64 P, .int .i64 Q, .int .i64 G] 32)).alloc (.cells #[.int .i64 0, .int .i64 0, .int .i64 0] 77)) (w.heap.size + 1) 0 0 0 from by have h := own3_new (w.alloc (.cells #[.int .i64 P, .int .i64 Q, .int .i64 G] 32)) 0 0 0 77; rwa [show (w.alloc (.cells #[.int .i64 P, .int .i64 Q, .int .i64 G] 32)).heap.size = w.heap.size + 1 by simp] at h)
  have HB_0 := Lib.hid (show Below w.heap.size w ((w.alloc (.cells #[.int .i64 P, .int .i64 Q, .int .i64 G] 32)).alloc (.cells #[.int .i64 0, .int .i64 0, .int .i64 0] 77)) from bt (ba _ _) (ba _ _))
  cases h0 : goodB P Q G
  · have K0 := Lib.hid (show goodB P Q G = false from h0)
    have E1 := Lib.hid (show skB P Q G b y e z = false by simp [skB, h0])
    obtain ⟨E2, E3, E4⟩ := sk_off E1.out
    rw [E1.out, E2, E3, E4]
    clear E2 E3 E4
    clear h0
    obtain ⟨⟨rR0, rR1, rR2⟩, rfR⟩ := R_0.out
    have rfR0 := rfR 0
    have rfR1 := rfR 1
    have rfR2 := rfR 2
    obtain ⟨gG0, gG1, gG2⟩ := G_0.out
    go_enter Try.func56, Try.ntmps56
    go_wp2_with fail
    refine (l2Good_any P Q G _).mono ?_
    rw [K0.out]
    rintro e v1 ⟨rfl, hb⟩
    have HB_1 := Lib.hid (bt HB_0.out hb)
    have G_1 := Lib.hid (G_0.out.below hb)
    have R_1 := Lib.hid (R_0.out.below hb)
    clear hb gG0 gG1 gG2 rR0 rR1 rR2 rfR rfR0 rfR1 rfR2
    obtain ⟨⟨rR0, rR1, rR2⟩, rfR⟩ := R_1.out
    have rfR0 := rfR 0
    have rfR1 := rfR 1
    have rfR2 := rfR 2
    obtain ⟨gG0, gG1, gG2⟩ := G_1.out
    go_wp2
    (try simp only [Exit.inBlock, Exit.then])
    refine bodyPost_ret (v := .tuple #[gv 0 0 0, .bool false]) ?_ rfl ⟨rfl, ?_⟩
    · rw [results_cell_tmp rfl]; go_simp
    · first | exact HB_1.out | exact set_below3 HB_1.out (w.heap.size + 1) (by omega) _ _ _
  have K0 := Lib.hid (show goodB P Q G = true from h0)
  have hmo := good_mo h0
  have hgr := good_rng h0
  have hgd := h0
  cases h1 : allEl P Q [b, y]
  · have K1 := Lib.hid (show allEl P Q [b, y] = false from h1)
    have E1 := Lib.hid (show skB P Q G b y e z = false by simp [skB, h0, h1])
    obtain ⟨E2, E3, E4⟩ := sk_off E1.out
    rw [E1.out, E2, E3, E4]
    clear E2 E3 E4
    clear h0 h1
    obtain ⟨⟨rR0, rR1, rR2⟩, rfR⟩ := R_0.out
    have rfR0 := rfR 0
    have rfR1 := rfR 1
    have rfR2 := rfR 2
    obtain ⟨gG0, gG1, gG2⟩ := G_0.out
    go_enter Try.func56, Try.ntmps56
    go_wp2_with fail
    refine (l2Good_any P Q G _).mono ?_
    rw [K0.out]
    rintro e v1 ⟨rfl, hb⟩
    have HB_1 := Lib.hid (bt HB_0.out hb)
    have G_1 := Lib.hid (G_0.out.below hb)
    have R_1 := Lib.hid (R_0.out.below hb)
    clear hb gG0 gG1 gG2 rR0 rR1 rR2 rfR rfR0 rfR1 rfR2
    obtain ⟨⟨rR0, rR1, rR2⟩, rfR⟩ := R_1.out
    have rfR0 := rfR 0
    have rfR1 := rfR 1
    have rfR2 := rfR 2
    obtain ⟨gG0, gG1, gG2⟩ := G_1.out
    go_wp2_with fail
    refine (gIs_any P Q G hmo _ 2 2 [b, y] rfl (by decide) _ (ints_lit v1 [b, y] 3)).mono ?_
    rw [K1.out]
    rintro e v2 ⟨rfl, hb0⟩
    have hb := bt (ba v1 _) hb0
    clear hb0
    have HB_2 := Lib.hid (bt HB_1.out hb)
    have G_2 := Lib.hid (G_1.out.below hb)
    have R_2 := Lib.hid (R_1.out.below hb)
    clear hb gG0 gG1 gG2 rR0 rR1 rR2 rfR rfR0 rfR1 rfR2
    obtain ⟨⟨rR0, rR1, rR2⟩, rfR⟩ := R_2.out
    have rfR0 := rfR 0
    have rfR1 := rfR 1
    have rfR2 := rfR 2
    obtain ⟨gG0, gG1, gG2⟩ := G_2.out
    go_wp2
    (try simp only [Exit.inBlock, Exit.then])
    refine bodyPost_ret (v := .tuple #[gv 0 0 0, .bool false]) ?_ rfl ⟨rfl, ?_⟩
    · rw [results_cell_tmp rfl]; go_simp
    · first | exact HB_2.out | exact set_below3 HB_2.out (w.heap.size + 1) (by omega) _ _ _
  have K1 := Lib.hid (show allEl P Q [b, y] = true from h1)
  obtain ⟨hb1, hy1⟩ := el_two h1
  cases h2 : allIn [e, z] 0 (Q - 1)
  · have K2 := Lib.hid (show allIn [e, z] 0 (Q - 1) = false from h2)
    have E1 := Lib.hid (show skB P Q G b y e z = false by simp [skB, h0, h1, h2])
    obtain ⟨E2, E3, E4⟩ := sk_off E1.out
    rw [E1.out, E2, E3, E4]
    clear E2 E3 E4
    clear h0 h1 h2
    obtain ⟨⟨rR0, rR1, rR2⟩, rfR⟩ := R_0.out
    have rfR0 := rfR 0
    have rfR1 := rfR 1
    have rfR2 := rfR 2
    obtain ⟨gG0, gG1, gG2⟩ := G_0.out
    go_enter Try.func56, Try.ntmps56
    go_wp2_with fail
    refine (l2Good_any P Q G _).mono ?_
    rw [K0.out]
    rintro e v1 ⟨rfl, hb⟩
    have HB_1 := Lib.hid (bt HB_0.out hb)
    have G_1 := Lib.hid (G_0.out.below hb)
    have R_1 := Lib.hid (R_0.out.below hb)
    clear hb gG0 gG1 gG2 rR0 rR1 rR2 rfR rfR0 rfR1 rfR2
    obtain ⟨⟨rR0, rR1, rR2⟩, rfR⟩ := R_1.out
    have rfR0 := rfR 0
    have rfR1 := rfR 1
    have rfR2 := rfR 2
    obtain ⟨gG0, gG1, gG2⟩ := G_1.out
    go_wp2_with fail
    refine (gIs_any P Q G hmo _ 2 2 [b, y] rfl (by decide) _ (ints_lit v1 [b, y] 3)).mono ?_
    rw [K1.out]
    rintro e v2 ⟨rfl, hb0⟩
    have hb := bt (ba v1 _) hb0
    clear hb0
    have HB_2 := Lib.hid (bt HB_1.out hb)
    have G_2 := Lib.hid (G_1.out.below hb)
    have R_2 := Lib.hid (R_1.out.below hb)
    clear hb gG0 gG1 gG2 rR0 rR1 rR2 rfR rfR0 rfR1 rfR2
    obtain ⟨⟨rR0, rR1, rR2⟩, rfR⟩ := R_2.out
    have rfR0 := rfR 0
    have rfR1 := rfR 1
    have rfR2 := rfR 2
    obtain ⟨gG0, gG1, gG2⟩ := G_2.out
    go_wp2_with fail
    refine (gExps_any P Q G ⟨by omega, by omega⟩ _ 2 2 [e, z] rfl (by decide) _ (ints_lit v2 [e, z] 3)).mono ?_
    rw [K2.out]
    rintro e v3 ⟨rfl, hb0⟩
    have hb := bt (ba v2 _) hb0
    clear hb0
    have HB_3 := Lib.hid (bt HB_2.out hb)
    have G_3 := Lib.hid (G_2.out.below hb)
    have R_3 := Lib.hid (R_2.out.below hb)
    clear hb gG0 gG1 gG2 rR0 rR1 rR2 rfR rfR0 rfR1 rfR2
    obtain ⟨⟨rR0, rR1, rR2⟩, rfR⟩ := R_3.out
    have rfR0 := rfR 0
    have rfR1 := rfR 1
    have rfR2 := rfR 2
    obtain ⟨gG0, gG1, gG2⟩ := G_3.out
    go_wp2
    (try simp only [Exit.inBlock, Exit.then])
    refine bodyPost_ret (v := .tuple #[gv 0 0 0, .bool false]) ?_ rfl ⟨rfl, ?_⟩
    · rw [results_cell_tmp rfl]; go_simp
    · first | exact HB_3.out | exact set_below3 HB_3.out (w.heap.size + 1) (by omega) _ _ _
  have K2 := Lib.hid (show allIn [e, z] 0 (Q - 1) = true from h2)
  obtain ⟨he1, hz1⟩ := in_two h2
  have E1 := Lib.hid (show skB P Q G b y e z = true by simp [skB, h0, h1, h2])
  obtain ⟨E2, E3, E4⟩ := sk_on E1.out
  rw [E1.out, E2, E3, E4]
  clear E2 E3 E4 h0 h1 h2
  obtain ⟨⟨rR0, rR1, rR2⟩, rfR⟩ := R_0.out
  have rfR0 := rfR 0
  have rfR1 := rfR 1
  have rfR2 := rfR 2
  obtain ⟨gG0, gG1, gG2⟩ := G_0.out
  go_enter Try.func56, Try.ntmps56
  go_wp2_with fail
  refine (l2Good_any P Q G _).mono ?_
  rw [K0.out]
  rintro e v1 ⟨rfl, hb⟩
  have HB_1 := Lib.hid (bt HB_0.out hb)
  have G_1 := Lib.hid (G_0.out.below hb)
  have R_1 := Lib.hid (R_0.out.below hb)
  clear hb gG0 gG1 gG2 rR0 rR1 rR2 rfR rfR0 rfR1 rfR2
  obtain ⟨⟨rR0, rR1, rR2⟩, rfR⟩ := R_1.out
  have rfR0 := rfR 0
  have rfR1 := rfR 1
  have rfR2 := rfR 2
  obtain ⟨gG0, gG1, gG2⟩ := G_1.out
  go_wp2_with fail
  refine (gIs_any P Q G hmo _ 2 2 [b, y] rfl (by decide) _ (ints_lit v1 [b, y] 3)).mono ?_
  rw [K1.out]
  rintro e v2 ⟨rfl, hb0⟩
  have hb := bt (ba v1 _) hb0
  clear hb0
  have HB_2 := Lib.hid (bt HB_1.out hb)
  have G_2 := Lib.hid (G_1.out.below hb)
  have R_2 := Lib.hid (R_1.out.below hb)
  clear hb gG0 gG1 gG2 rR0 rR1 rR2 rfR rfR0 rfR1 rfR2
  obtain ⟨⟨rR0, rR1, rR2⟩, rfR⟩ := R_2.out
  have rfR0 := rfR 0
  have rfR1 := rfR 1
  have rfR2 := rfR 2
  obtain ⟨gG0, gG1, gG2⟩ := G_2.out
  go_wp2_with fail
  refine (gExps_any P Q G ⟨by omega, by omega⟩ _ 2 2 [e, z] rfl (by decide) _ (ints_lit v2 [e, z] 3)).mono ?_
  rw [K2.out]
  rintro e v3 ⟨rfl, hb0⟩
  have hb := bt (ba v2 _) hb0
  clear hb0
  have HB_3 := Lib.hid (bt HB_2.out hb)
  have G_3 := Lib.hid (G_2.out.below hb)
  have R_3 := Lib.hid (R_2.out.below hb)
  clear hb gG0 gG1 gG2 rR0 rR1 rR2 rfR rfR0 rfR1 rfR2
  obtain ⟨⟨rR0, rR1, rR2⟩, rfR⟩ := R_3.out
  have rfR0 := rfR 0
  have rfR1 := rfR 1
  have rfR2 := rfR 2
  obtain ⟨gG0, gG1, gG2⟩ := G_3.out
  go_wp2_with fail
  refine (xSimulate_any P Q G b y e z hgd hb1 hy1 he1 hz1 _).mono ?_
  rintro e' v9 ⟨rfl, hb9⟩
  have HB_9 := Lib.hid (bt HB_3.out hb9)
  have R_9 := Lib.hid (R_3.out.below hb9)
  clear hb9 rR0 rR1 rR2 rfR rfR0 rfR1 rfR2
  obtain ⟨⟨rR0, rR1, rR2⟩, rfR⟩ := R_9.out
  have rfR0 := rfR 0
  have rfR1 := rfR 1
  have rfR2 := rfR 2
  go_wp2
  (try simp only [Exit.inBlock, Exit.then])
  refine bodyPost_ret (v := .tuple #[gv (simW P Q b y e z) e z, .bool true]) ?_ rfl ⟨rfl, ?_⟩
  · rw [results_cell_tmp rfl]; go_simp
  · first | exact HB_9.out | exact set_below3 HB_9.out (w.heap.size + 1) (by omega) _ _ _

theorem ekB_eq (P Q G b y c1 e1 z1 c2 e2 z2 : Int) : ekB P Q G b y c1 e1 z1 c2 e2 z2 = (goodB P Q G && (allEl P Q [b, y] && (trB P Q c1 e1 z1 && (trB P Q c2 e2 z2 && (decide (c1 = c2) && (decide (¬ e1 = e2) && (accW P b y c1 e1 z1 && accW P b y c2 e2 z2))))))) := by
  unfold ekB iaV iaB
  rw [decide_not]
  generalize goodB P Q G = g
  generalize allEl P Q [b, y] = a
  generalize trB P Q c1 e1 z1 = t1
  generalize trB P Q c2 e2 z2 = t2
  generalize accW P b y c1 e1 z1 = x1
  generalize accW P b y c2 e2 z2 = x2
  generalize decide (c1 = c2) = d
  generalize decide (e1 = e2) = f
  cases g <;> cases a <;> cases t1 <;> cases t2 <;> cases x1 <;> cases x2 <;> cases d <;> cases f <;> rfl

end Go.Proofs.Ytdaekpfngphefaa

/- Simulators and extractors: transcripts are copied and compared. -/
namespace Go.Proofs.Ytdaekpfngphefaa
open Go.RowKit
set_option linter.unusedVariables false
set_option linter.unusedSimpArgs false

theorem toTr_any (c e z : Int) (w : World) :
    Calls Try.prog 54 #[gv c e z] w fun e' w' => e' = .returned (gv c e z) ∧ Below w.heap.size w w' := by
  go_enter Try.func54, Try.ntmps54
  go_wp2
  (try simp only [Exit.inBlock, Exit.then])
  refine bodyPost_ret (v := gv c e z) ?_ rfl ⟨rfl, ?_⟩
  · rw [results_cell_one rfl]; go_simp
  · exact bt (bt (ba _ _) (ba _ _)) (ba _ _)
theorem eqTr_same (c e z : Int) (w : World) :
    Calls Try.prog 58 #[gv c e z, gv c e z] w fun e' w' => e' = .returned (.bool true) ∧ Below w.heap.size w w' := by
  have hc : (c != c) = false := by simp
  have he : (e != e) = false := by simp
  have hz : (z != z) = false := by simp
  go_enter Try.func58, Try.ntmps58
  go_wp2
  go_ret
  exact ⟨rfl, bt (ba _ _) (ba _ _)⟩

end Go.Proofs.Ytdaekpfngphefaa

