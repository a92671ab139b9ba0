/- Sigma proofs: VerifyLinear, VerifyKnowledge, VerifyEqual of both. -/
import Derived.Test.YtlgdcfficemebaaSigW
import Derived.Test.YtlgdcfficemebaaSigT
namespace Go.Proofs.Ytlgdcfficemebaa
open Go.RowKit
set_option linter.unusedVariables false
set_option linter.unusedSimpArgs false

theorem vrB_eq (P Q G : Int) (s : ByteArray) (st : St) : vrB P Q G s st = ((goodB P Q G && decide (s.size ≤ 40)) && st.ok P Q) := by simp [vrB, Bool.and_assoc]
theorem vrV_off {P Q G : Int} {s : ByteArray} {st : St} {p : PrD} (h : vrB P Q G s st = false) : vrV P Q G s st p = false := by simp [vrV, h]
theorem ok_eq (P Q a b c d : Int) : (St.lin [[a], [c]] [b, d]).ok P Q = allEl P Q [a, b, c, d] := by
  have h1 : rowsB P Q [[a], [c]] = (allEl P Q [a] && allEl P Q [c]) := by simp [rowsB, rowB, wid, inB]
  simp only [St.ok, h1, allEl, List.all_cons, List.all_nil, Bool.and_true, List.length_cons, List.length_nil, decide_true, Bool.true_and]
  generalize elB P Q a = x
  generalize elB P Q b = y
  generalize elB P Q c = z
  generalize elB P Q d = t
  cases x <;> cases y <;> cases z <;> cases t <;> rfl
theorem one_new (w : World) (v : Value) (t : TypeId) : C1 (w.alloc (.cells #[v] t)) w.heap.size 0 v := by
  unfold C1; rw [World.cell?_alloc_at _ _ _ _ rfl]; rfl
theorem one_row {w : World} {p r : Nat} {a : Int} (h1 : C1 w r 0 (.slice (some ⟨p, 0, none⟩) 1 1)) (h2 : C1 w p 0 (.int .i64 a)) : InS w.heap.size w (.slice (some ⟨r, 0, none⟩) 1 1) [[a]] :=
  ⟨Nat.le_refl _, _, _, rfl, (fun h => by cases h), .inr ⟨r, 0, rfl, World.block_lt_of_cell? w _ h1, World.block_lt_of_cell? w _ h1, fun i z hz => by
    match i, hz with
    | 0, hz => simp at hz; subst hz; exact ⟨_, h1, one_in h2⟩⟩⟩
/-- {{a}}, then {y}: three literals laid one behind another. -/
theorem know_lit (W : World) (a y : Int) (t1 t2 t3 : TypeId) :
    InS (((W.alloc (.cells #[.int .i64 a] t1)).alloc (.cells #[.slice (some ⟨W.heap.size, 0, none⟩) 1 1] t2)).alloc (.cells #[.int .i64 y] t3)).heap.size (((W.alloc (.cells #[.int .i64 a] t1)).alloc (.cells #[.slice (some ⟨W.heap.size, 0, none⟩) 1 1] t2)).alloc (.cells #[.int .i64 y] t3)) (.slice (some ⟨W.heap.size + 1, 0, none⟩) 1 1) [[a]] ∧
    InI (((W.alloc (.cells #[.int .i64 a] t1)).alloc (.cells #[.slice (some ⟨W.heap.size, 0, none⟩) 1 1] t2)).alloc (.cells #[.int .i64 y] t3)).heap.size (((W.alloc (.cells #[.int .i64 a] t1)).alloc (.cells #[.slice (some ⟨W.heap.size, 0, none⟩) 1 1] t2)).alloc (.cells #[.int .i64 y] t3)) (.slice (some ⟨W.heap.size + 2, 0, none⟩) 1 1) [y] := by
  have e1 := one_new W (.int .i64 a) t1
  have e2 := one_new (W.alloc (.cells #[.int .i64 a] t1)) (.slice (some ⟨W.heap.size, 0, none⟩) 1 1) t2
  have e3 := one_new ((W.alloc (.cells #[.int .i64 a] t1)).alloc (.cells #[.slice (some ⟨W.heap.size, 0, none⟩) 1 1] t2)) (.int .i64 y) t3
  rw [show (W.alloc (.cells #[.int .i64 a] t1)).heap.size = W.heap.size + 1 by simp] at e2
  rw [show ((W.alloc (.cells #[.int .i64 a] t1)).alloc (.cells #[.slice (some ⟨W.heap.size, 0, none⟩) 1 1] t2)).heap.size = W.heap.size + 2 by simp] at e3
  exact ⟨one_row (e2.below (ba _ _)) (e1.below (bt (ba _ _) (ba _ _))), one_in e3⟩
set_option maxRecDepth 100000 in
set_option maxHeartbeats 3200000 in
theorem sVerifyLinear_any (P Q G : Int) (s : ByteArray) (hs : s.size ≤ 1048576) {B1 B2 : Nat} {u1 u2 : Value} {rows : List (List Int)} {im : List Int} (hl : rows.length ≤ 1048576) (hr : ∀ z ∈ rows, z.length ≤ 17592186044416) (hi8 : im.length ≤ 17592186044416) {B : Nat} {v : Value} {p : PrD} (hpn : p.n ≤ 1048576) {w : World} (hu1 : InS B1 w u1 rows) (hu2 : InI B2 w u2 im) (hP : InP B w v p) :
    Calls Try.prog 17 #[gv P Q G, .string s, u1, u2, v] w (EqOut (.tuple #[.bool (vrV P Q G s (St.lin rows im) p), .bool (vrB P Q G s (St.lin rows im))]) w) := by
  obtain ⟨y1, y2, rfl⟩ := hu1.shape
  obtain ⟨z1, z2, rfl⟩ := hu2.shape
  obtain ⟨a1, c1, a2, c2, a3, c3, rfl, _, _, _⟩ := hP.parts
  have hal := ba (w.alloc (.cells #[.int .i64 P, .int .i64 Q, .int .i64 G] 32)) (.cells #[.slice a1 p.c.length c1, .slice a2 p.h.length c2, .slice a3 p.r.length c3] 36)
  have HB_0 := Lib.hid (bt (ba w (.cells #[.int .i64 P, .int .i64 Q, .int .i64 G] 32)) hal)
  have G_0 := Lib.hid (GR.below (gr_new w P Q G 32) hal)
  have hv := b3_new (w.alloc (.cells #[.int .i64 P, .int .i64 Q, .int .i64 G] 32)) (.slice a1 p.c.length c1) (.slice a2 p.h.length c2) (.slice a3 p.r.length c3) 36
  rw [show (w.alloc (.cells #[.int .i64 P, .int .i64 Q, .int .i64 G] 32)).heap.size = w.heap.size + 1 by simp] at hv
  have V_0 := Lib.hid hv
  have P_0 := Lib.hid (hP.below HB_0.out)
  clear hal hv hP
  have M_0 := Lib.hid (hu1.below HB_0.out)
  have N_0 := Lib.hid (hu2.below HB_0.out)
  have HRL := Lib.hid hr
  clear hu1 hu2 hr
  cases h0 : (goodB P Q G && decide (s.size ≤ 40))
  · have K0 := Lib.hid (show (goodB P Q G && decide (s.size ≤ 40)) = false from h0)
    have E1 := Lib.hid (show vrB P Q G s (St.lin rows im) = false from by rw [vrB_eq, h0]; rfl)
    have E2 := Lib.hid (vrV_off (p := p) E1.out)
    rw [E1.out, E2.out]
    clear h0
    obtain ⟨gG0, gG1, gG2⟩ := G_0.out
    obtain ⟨bV0, bV1, bV2, _⟩ := V_0.out
    go_enter Try.func17, Try.ntmps17
    go_wp2_with fail
    refine (sLabel_any P Q G s hs _).mono ?_
    rw [K0.out]
    rintro e v1 ⟨rfl, hb⟩
    have HB_1 := Lib.hid (bt HB_0.out hb)
    have G_1 := Lib.hid (G_0.out.below hb)
    have V_1 := Lib.hid (V_0.out.below hb)
    have M_1 := Lib.hid (M_0.out.below hb)
    have N_1 := Lib.hid (N_0.out.below hb)
    have P_1 := Lib.hid (P_0.out.below hb)
    clear hb gG0 gG1 gG2 bV0 bV1 bV2
    obtain ⟨gG0, gG1, gG2⟩ := G_1.out
    obtain ⟨bV0, bV1, bV2, _⟩ := V_1.out
    go_wp2
    go_ret2
    exact ⟨rfl, HB_1.out⟩
  have K0 := Lib.hid (show (goodB P Q G && decide (s.size ≤ 40)) = true from h0)
  have HGd := Lib.hid (show goodB P Q G = true from ((Bool.and_eq_true _ _).mp h0).1)
  have hs40 : s.size ≤ 1000000 := by have := of_decide_eq_true ((Bool.and_eq_true _ _).mp h0).2; omega
  cases h1 : rowsB P Q rows
  · have K1 := Lib.hid (show rowsB P Q rows = false from h1)
    have E1 := Lib.hid (show vrB P Q G s (St.lin rows im) = false from by rw [vrB_eq, h0]; simp [St.ok, h1])
    have E2 := Lib.hid (vrV_off (p := p) E1.out)
    rw [E1.out, E2.out]
    clear h0 h1
    obtain ⟨gG0, gG1, gG2⟩ := G_0.out
    obtain ⟨bV0, bV1, bV2, _⟩ := V_0.out
    go_enter Try.func17, Try.ntmps17
    go_wp2_with fail
    refine (sLabel_any P Q G s hs _).mono ?_
    rw [K0.out]
    rintro e v1 ⟨rfl, hb⟩
    have HB_1 := Lib.hid (bt HB_0.out hb)
    have G_1 := Lib.hid (G_0.out.below hb)
    have V_1 := Lib.hid (V_0.out.below hb)
    have M_1 := Lib.hid (M_0.out.below hb)
    have N_1 := Lib.hid (N_0.out.below hb)
    have P_1 := Lib.hid (P_0.out.below hb)
    clear hb gG0 gG1 gG2 bV0 bV1 bV2
    obtain ⟨gG0, gG1, gG2⟩ := G_1.out
    obtain ⟨bV0, bV1, bV2, _⟩ := V_1.out
    go_wp2_with fail
    refine (sBases_any P Q G (good_mo HGd.out) hl HRL.out M_1.out).mono ?_
    rw [K1.out]
    rintro e v2 ⟨rfl, hb⟩
    have HB_2 := Lib.hid (bt HB_1.out hb)
    have G_2 := Lib.hid (G_1.out.below hb)
    have V_2 := Lib.hid (V_1.out.below hb)
    have M_2 := Lib.hid (M_1.out.below hb)
    have N_2 := Lib.hid (N_1.out.below hb)
    have P_2 := Lib.hid (P_1.out.below hb)
    clear hb gG0 gG1 gG2 bV0 bV1 bV2
    obtain ⟨gG0, gG1, gG2⟩ := G_2.out
    obtain ⟨bV0, bV1, bV2, _⟩ := V_2.out
    go_wp2
    go_ret2
    exact ⟨rfl, HB_2.out⟩
  have K1 := Lib.hid (show rowsB P Q rows = true from h1)
  by_cases h2 : ¬ (im.length = rows.length)
  · have B2 : ((im.length : Int) != (rows.length : Int)) = true := by simp; omega
    have E1 := Lib.hid (show vrB P Q G s (St.lin rows im) = false from by rw [vrB_eq, h0]; simp [St.ok, h1, h2])
    have E2 := Lib.hid (vrV_off (p := p) E1.out)
    rw [E1.out, E2.out]
    clear h0 h1 h2
    obtain ⟨gG0, gG1, gG2⟩ := G_0.out
    obtain ⟨bV0, bV1, bV2, _⟩ := V_0.out
    go_enter Try.func17, Try.ntmps17
    go_wp2_with fail
    refine (sLabel_any P Q G s hs _).mono ?_
    rw [K0.out]
    rintro e v1 ⟨rfl, hb⟩
    have HB_1 := Lib.hid (bt HB_0.out hb)
    have G_1 := Lib.hid (G_0.out.below hb)
    have V_1 := Lib.hid (V_0.out.below hb)
    have M_1 := Lib.hid (M_0.out.below hb)
    have N_1 := Lib.hid (N_0.out.below hb)
    have P_1 := Lib.hid (P_0.out.below hb)
    clear hb gG0 gG1 gG2 bV0 bV1 bV2
    obtain ⟨gG0, gG1, gG2⟩ := G_1.out
    obtain ⟨bV0, bV1, bV2, _⟩ := V_1.out
    go_wp2_with fail
    refine (sBases_any P Q G (good_mo HGd.out) hl HRL.out M_1.out).mono ?_
    rw [K1.out]
    rintro e v2 ⟨rfl, hb⟩
    have HB_2 := Lib.hid (bt HB_1.out hb)
    have G_2 := Lib.hid (G_1.out.below hb)
    have V_2 := Lib.hid (V_1.out.below hb)
    have M_2 := Lib.hid (M_1.out.below hb)
    have N_2 := Lib.hid (N_1.out.below hb)
    have P_2 := Lib.hid (P_1.out.below hb)
    clear hb gG0 gG1 gG2 bV0 bV1 bV2
    obtain ⟨gG0, gG1, gG2⟩ := G_2.out
    obtain ⟨bV0, bV1, bV2, _⟩ := V_2.out
    go_wp2
    go_ret2
    exact ⟨rfl, HB_2.out⟩
  have h2 := Decidable.not_not.1 h2
  have B2 : ((im.length : Int) != (rows.length : Int)) = false := by simp [h2]
  cases h3 : allEl P Q im
  · have K3 := Lib.hid (show allEl P Q im = false from h3)
    have E1 := Lib.hid (show vrB P Q G s (St.lin rows im) = false from by rw [vrB_eq, h0]; simp [St.ok, h1, h2, h3])
    have E2 := Lib.hid (vrV_off (p := p) E1.out)
    rw [E1.out, E2.out]
    clear h0 h1 h2 h3
    obtain ⟨gG0, gG1, gG2⟩ := G_0.out
    obtain ⟨bV0, bV1, bV2, _⟩ := V_0.out
    go_enter Try.func17, Try.ntmps17
    go_wp2_with fail
    refine (sLabel_any P Q G s hs _).mono ?_
    rw [K0.out]
    rintro e v1 ⟨rfl, hb⟩
    have HB_1 := Lib.hid (bt HB_0.out hb)
    have G_1 := Lib.hid (G_0.out.below hb)
    have V_1 := Lib.hid (V_0.out.below hb)
    have M_1 := Lib.hid (M_0.out.below hb)
    have N_1 := Lib.hid (N_0.out.below hb)
    have P_1 := Lib.hid (P_0.out.below hb)
    clear hb gG0 gG1 gG2 bV0 bV1 bV2
    obtain ⟨gG0, gG1, gG2⟩ := G_1.out
    obtain ⟨bV0, bV1, bV2, _⟩ := V_1.out
    go_wp2_with fail
    refine (sBases_any P Q G (good_mo HGd.out) hl HRL.out M_1.out).mono ?_
    rw [K1.out]
    rintro e v2 ⟨rfl, hb⟩
    have HB_2 := Lib.hid (bt HB_1.out hb)
    have G_2 := Lib.hid (G_1.out.below hb)
    have V_2 := Lib.hid (V_1.out.below hb)
    have M_2 := Lib.hid (M_1.out.below hb)
    have N_2 := Lib.hid (N_1.out.below hb)
    have P_2 := Lib.hid (P_1.out.below hb)
    clear hb gG0 gG1 gG2 bV0 bV1 bV2
    obtain ⟨gG0, gG1, gG2⟩ := G_2.out
    obtain ⟨bV0, bV1, bV2, _⟩ := V_2.out
    go_wp2_with fail
    refine (gIs_any P Q G (good_mo HGd.out) _ _ _ im rfl (by omega) _ (N_2.out.ints).1).mono ?_
    rw [K3.out]
    rintro e v3 ⟨rfl, hb⟩
    have HB_3 := Lib.hid (bt HB_2.out hb)
    have G_3 := Lib.hid (G_2.out.below hb)
    have V_3 := Lib.hid (V_2.out.below hb)
    have M_3 := Lib.hid (M_2.out.below hb)
    have N_3 := Lib.hid (N_2.out.below hb)
    have P_3 := Lib.hid (P_2.out.below hb)
    clear hb gG0 gG1 gG2 bV0 bV1 bV2
    obtain ⟨gG0, gG1, gG2⟩ := G_3.out
    obtain ⟨bV0, bV1, bV2, _⟩ := V_3.out
    go_wp2
    go_ret2
    exact ⟨rfl, HB_3.out⟩
  have K3 := Lib.hid (show allEl P Q im = true from h3)
  have hvb : vrB P Q G s (St.lin rows im) = true := by rw [vrB_eq, h0]; simp [St.ok, h1, h2, h3]
  have E1 := Lib.hid hvb
  have E2 := Lib.hid (vr_lin (p := p) hvb)
  rw [E1.out, E2.out]
  have K1b := Lib.hid h1
  have K2b := Lib.hid h2
  have K3b := Lib.hid h3
  clear hvb h0 h1 h2 h3
  obtain ⟨gG0, gG1, gG2⟩ := G_0.out
  obtain ⟨bV0, bV1, bV2, _⟩ := V_0.out
  go_enter Try.func17, Try.ntmps17
  go_wp2_with fail
  refine (sLabel_any P Q G s hs _).mono ?_
  rw [K0.out]
  rintro e v1 ⟨rfl, hb⟩
  have HB_1 := Lib.hid (bt HB_0.out hb)
  have G_1 := Lib.hid (G_0.out.below hb)
  have V_1 := Lib.hid (V_0.out.below hb)
  have M_1 := Lib.hid (M_0.out.below hb)
  have N_1 := Lib.hid (N_0.out.below hb)
  have P_1 := Lib.hid (P_0.out.below hb)
  clear hb gG0 gG1 gG2 bV0 bV1 bV2
  obtain ⟨gG0, gG1, gG2⟩ := G_1.out
  obtain ⟨bV0, bV1, bV2, _⟩ := V_1.out
  go_wp2_with fail
  refine (sBases_any P Q G (good_mo HGd.out) hl HRL.out M_1.out).mono ?_
  rw [K1.out]
  rintro e v2 ⟨rfl, hb⟩
  have HB_2 := Lib.hid (bt HB_1.out hb)
  have G_2 := Lib.hid (G_1.out.below hb)
  have V_2 := Lib.hid (V_1.out.below hb)
  have M_2 := Lib.hid (M_1.out.below hb)
  have N_2 := Lib.hid (N_1.out.below hb)
  have P_2 := Lib.hid (P_1.out.below hb)
  clear hb gG0 gG1 gG2 bV0 bV1 bV2
  obtain ⟨gG0, gG1, gG2⟩ := G_2.out
  obtain ⟨bV0, bV1, bV2, _⟩ := V_2.out
  go_wp2_with fail
  refine (gIs_any P Q G (good_mo HGd.out) _ _ _ im rfl (by omega) _ (N_2.out.ints).1).mono ?_
  rw [K3.out]
  rintro e v3 ⟨rfl, hb⟩
  have HB_3 := Lib.hid (bt HB_2.out hb)
  have G_3 := Lib.hid (G_2.out.below hb)
  have V_3 := Lib.hid (V_2.out.below hb)
  have M_3 := Lib.hid (M_2.out.below hb)
  have N_3 := Lib.hid (N_2.out.below hb)
  have P_3 := Lib.hid (P_2.out.below hb)
  clear hb gG0 gG1 gG2 bV0 bV1 bV2
  obtain ⟨gG0, gG1, gG2⟩ := G_3.out
  obtain ⟨bV0, bV1, bV2, _⟩ := V_3.out
  go_wp2_with fail
  refine (sVerify_any P Q G HGd.out s hs40 K1b.out K2b.out K3b.out hpn M_3.out N_3.out P_3.out).mono ?_
  rintro e v9 ⟨rfl, hb⟩
  have HB_9 := Lib.hid (bt HB_3.out hb)
  clear hb
  go_wp2
  go_ret2
  exact ⟨rfl, HB_9.out⟩

set_option maxRecDepth 100000 in
set_option maxHeartbeats 3200000 in
theorem verifyLinear_any (P Q G : Int) (s : ByteArray) (hs : s.size ≤ 1048576) {B1 B2 : Nat} {u1 u2 : Value} {rows : List (List Int)} {im : List Int} (hl : rows.length ≤ 1048576) (hr : ∀ z ∈ rows, z.length ≤ 17592186044416) (hi8 : im.length ≤ 17592186044416) {B : Nat} {v : Value} {p : PrD} (hpn : p.n ≤ 1048576) {w : World} (hu1 : InS B1 w u1 rows) (hu2 : InI B2 w u2 im) (hP : InP B w v p) :
    Calls Try.prog 22 #[gv P Q G, .string s, u1, u2, v] w (EqOut (.tuple #[.bool (vrV P Q G s (St.lin rows im) p), .bool (vrB P Q G s (St.lin rows im))]) w) := by
  obtain ⟨y1, y2, rfl⟩ := hu1.shape
  obtain ⟨z1, z2, rfl⟩ := hu2.shape
  obtain ⟨a1, c1, a2, c2, a3, c3, rfl, _, _, _⟩ := hP.parts
  have hal := ba (w.alloc (.cells #[.int .i64 P, .int .i64 Q, .int .i64 G] 32)) (.cells #[.slice a1 p.c.length c1, .slice a2 p.h.length c2, .slice a3 p.r.length c3] 36)
  have HB_0 := Lib.hid (bt (ba w (.cells #[.int .i64 P, .int .i64 Q, .int .i64 G] 32)) hal)
  have G_0 := Lib.hid (GR.below (gr_new w P Q G 32) hal)
  have hv := b3_new (w.alloc (.cells #[.int .i64 P, .int .i64 Q, .int .i64 G] 32)) (.slice a1 p.c.length c1) (.slice a2 p.h.length c2) (.slice a3 p.r.length c3) 36
  rw [show (w.alloc (.cells #[.int .i64 P, .int .i64 Q, .int .i64 G] 32)).heap.size = w.heap.size + 1 by simp] at hv
  have V_0 := Lib.hid hv
  have P_0 := Lib.hid (hP.below HB_0.out)
  clear hal hv hP
  have M_0 := Lib.hid (hu1.below HB_0.out)
  have N_0 := Lib.hid (hu2.below HB_0.out)
  have HRL := Lib.hid hr
  clear hu1 hu2 hr
  obtain ⟨gG0, gG1, gG2⟩ := G_0.out
  obtain ⟨bV0, bV1, bV2, _⟩ := V_0.out
  go_enter Try.func22, Try.ntmps22
  go_wp2_with fail
  refine (verifyLin_any P Q G s hs hl HRL.out hi8 hpn M_0.out N_0.out P_0.out).mono ?_
  rintro e v9 ⟨rfl, hb⟩
  have HB_9 := Lib.hid (bt HB_0.out hb)
  clear hb
  go_wp2
  go_ret2
  exact ⟨rfl, HB_9.out⟩

set_option maxRecDepth 100000 in
set_option maxHeartbeats 3200000 in
theorem sVerifyKnowledge_any (P Q G a y : Int) (s : ByteArray) (hs : s.size ≤ 1048576) {B : Nat} {v : Value} {p : PrD} (hpn : p.n ≤ 1048576) {w : World} (hP : InP B w v p) :
    Calls Try.prog 26 #[gv P Q G, .string s, .int .i64 a, .int .i64 y, v] w (EqOut (.tuple #[.bool (vrV P Q G s (St.lin [[a]] [y]) p), .bool (vrB P Q G s (St.lin [[a]] [y]))]) w) := by
  obtain ⟨a1, c1, a2, c2, a3, c3, rfl, _, _, _⟩ := hP.parts
  have hal := ba (w.alloc (.cells #[.int .i64 P, .int .i64 Q, .int .i64 G] 32)) (.cells #[.slice a1 p.c.length c1, .slice a2 p.h.length c2, .slice a3 p.r.length c3] 36)
  have HB_0 := Lib.hid (bt (ba w (.cells #[.int .i64 P, .int .i64 Q, .int .i64 G] 32)) hal)
  have G_0 := Lib.hid (GR.below (gr_new w P Q G 32) hal)
  have hv := b3_new (w.alloc (.cells #[.int .i64 P, .int .i64 Q, .int .i64 G] 32)) (.slice a1 p.c.length c1) (.slice a2 p.h.length c2) (.slice a3 p.r.length c3) 36
  rw [show (w.alloc (.cells #[.int .i64 P, .int .i64 Q, .int .i64 G] 32)).heap.size = w.heap.size + 1 by simp] at hv
  have V_0 := Lib.hid hv
  have P_0 := Lib.hid (hP.below HB_0.out)
  clear hal hv hP
  generalize hrs : ([[a]] : List (List Int)) = rs
  generalize his : ([y] : List Int) = is
  have HRS := Lib.hid hrs
  have HIS := Lib.hid his
  clear hrs his
  have hl : rs.length ≤ 1048576 := by rw [← HRS.out]; simp
  have hi8 : is.length ≤ 17592186044416 := by rw [← HIS.out]; simp
  have HRL := Lib.hid (show ∀ z ∈ rs, z.length ≤ 17592186044416 from by rw [← HRS.out]; intro z hz; rw [List.mem_singleton.1 hz]; simp)
  go_enter Try.func26, Try.ntmps26
  generalize hW : (w.alloc (.cells #[.int .i64 P, .int .i64 Q, .int .i64 G] 32)).alloc (.cells #[.slice a1 p.c.length c1, .slice a2 p.h.length c2, .slice a3 p.r.length c3] 36) = W at *
  have hp3 := Lib.hid (P_0.out.below (bt (bt (ba W (.cells #[.int .i64 a] 3)) (ba _ (.cells #[.slice (some ⟨W.heap.size, 0, none⟩) 1 1] 25))) (ba _ (.cells #[.int .i64 y] 3))))
  have HB3 := Lib.hid (bt HB_0.out (bt (bt (ba W (.cells #[.int .i64 a] 3)) (ba _ (.cells #[.slice (some ⟨W.heap.size, 0, none⟩) 1 1] 25))) (ba _ (.cells #[.int .i64 y] 3))))
  have hk := know_lit W a y 3 25 3
  rw [HRS.out, HIS.out] at hk
  have HKL := Lib.hid hk
  clear hk
  obtain ⟨gG0, gG1, gG2⟩ := G_0.out
  obtain ⟨bV0, bV1, bV2, _⟩ := V_0.out.below (bt (bt (ba W (.cells #[.int .i64 a] 3)) (ba _ (.cells #[.slice (some ⟨W.heap.size, 0, none⟩) 1 1] 25))) (ba _ (.cells #[.int .i64 y] 3)))
  go_wp2_with fail
  refine (sVerifyLinear_any P Q G s hs hl HRL.out hi8 hpn HKL.out.1 HKL.out.2 hp3.out).mono ?_
  rintro e v9 ⟨rfl, hb⟩
  have HB_9 := Lib.hid (bt HB3.out hb)
  clear hb
  go_wp2
  go_ret2
  exact ⟨rfl, HB_9.out⟩

set_option maxRecDepth 100000 in
set_option maxHeartbeats 3200000 in
theorem verifyKnowledge_any (P Q G a y : Int) (s : ByteArray) (hs : s.size ≤ 1048576) {B : Nat} {v : Value} {p : PrD} (hpn : p.n ≤ 1048576) {w : World} (hP : InP B w v p) :
    Calls Try.prog 27 #[gv P Q G, .string s, .int .i64 a, .int .i64 y, v] w (EqOut (.tuple #[.bool (vrV P Q G s (St.lin [[a]] [y]) p), .bool (vrB P Q G s (St.lin [[a]] [y]))]) w) := by
  obtain ⟨a1, c1, a2, c2, a3, c3, rfl, _, _, _⟩ := hP.parts
  have hal := ba (w.alloc (.cells #[.int .i64 P, .int .i64 Q, .int .i64 G] 32)) (.cells #[.slice a1 p.c.length c1, .slice a2 p.h.length c2, .slice a3 p.r.length c3] 36)
  have HB_0 := Lib.hid (bt (ba w (.cells #[.int .i64 P, .int .i64 Q, .int .i64 G] 32)) hal)
  have G_0 := Lib.hid (GR.below (gr_new w P Q G 32) hal)
  have hv := b3_new (w.alloc (.cells #[.int .i64 P, .int .i64 Q, .int .i64 G] 32)) (.slice a1 p.c.length c1) (.slice a2 p.h.length c2) (.slice a3 p.r.length c3) 36
  rw [show (w.alloc (.cells #[.int .i64 P, .int .i64 Q, .int .i64 G] 32)).heap.size = w.heap.size + 1 by simp] at hv
  have V_0 := Lib.hid hv
  have P_0 := Lib.hid (hP.below HB_0.out)
  clear hal hv hP
  generalize hrs : ([[a]] : List (List Int)) = rs
  generalize his : ([y] : List Int) = is
  have HRS := Lib.hid hrs
  have HIS := Lib.hid his
  clear hrs his
  have hl : rs.length ≤ 1048576 := by rw [← HRS.out]; simp
  have hi8 : is.length ≤ 17592186044416 := by rw [← HIS.out]; simp
  have HRL := Lib.hid (show ∀ z ∈ rs, z.length ≤ 17592186044416 from by rw [← HRS.out]; intro z hz; rw [List.mem_singleton.1 hz]; simp)
  go_enter Try.func27, Try.ntmps27
  generalize hW : (w.alloc (.cells #[.int .i64 P, .int .i64 Q, .int .i64 G] 32)).alloc (.cells #[.slice a1 p.c.length c1, .slice a2 p.h.length c2, .slice a3 p.r.length c3] 36) = W at *
  have hp3 := Lib.hid (P_0.out.below (bt (bt (ba W (.cells #[.int .i64 a] 3)) (ba _ (.cells #[.slice (some ⟨W.heap.size, 0, none⟩) 1 1] 25))) (ba _ (.cells #[.int .i64 y] 3))))
  have HB3 := Lib.hid (bt HB_0.out (bt (bt (ba W (.cells #[.int .i64 a] 3)) (ba _ (.cells #[.slice (some ⟨W.heap.size, 0, none⟩) 1 1] 25))) (ba _ (.cells #[.int .i64 y] 3))))
  have hk := know_lit W a y 3 25 3
  rw [HRS.out, HIS.out] at hk
  have HKL := Lib.hid hk
  clear hk
  obtain ⟨gG0, gG1, gG2⟩ := G_0.out
  obtain ⟨bV0, bV1, bV2, _⟩ := V_0.out.below (bt (bt (ba W (.cells #[.int .i64 a] 3)) (ba _ (.cells #[.slice (some ⟨W.heap.size, 0, none⟩) 1 1] 25))) (ba _ (.cells #[.int .i64 y] 3)))
  go_wp2_with fail
  refine (verifyLinear_any P Q G s hs hl HRL.out hi8 hpn HKL.out.1 HKL.out.2 hp3.out).mono ?_
  rintro e v9 ⟨rfl, hb⟩
  have HB_9 := Lib.hid (bt HB3.out hb)
  clear hb
  go_wp2
  go_ret2
  exact ⟨rfl, HB_9.out⟩

/-- {{a}, {c}}, then {b, d}: four literals laid one behind another. -/
theorem eq_lit (W : World) (a b c d : Int) (t1 t2 t3 t4 : TypeId) (W4 : World) (h : W4 = (((W.alloc (.cells #[.int .i64 a] t1)).alloc (.cells #[.int .i64 c] t2)).alloc (.cells #[.slice (some ⟨W.heap.size, 0, none⟩) 1 1, .slice (some ⟨W.heap.size + 1, 0, none⟩) 1 1] t3)).alloc (.cells #[.int .i64 b, .int .i64 d] t4)) :
    InS W4.heap.size W4 (.slice (some ⟨W.heap.size + 2, 0, none⟩) 2 2) [[a], [c]] ∧ InI W4.heap.size W4 (.slice (some ⟨W.heap.size + 3, 0, none⟩) 2 2) [b, d] ∧ Below W.heap.size W W4 := by
  have e1 := one_new W (.int .i64 a) t1
  have e2 := one_new (W.alloc (.cells #[.int .i64 a] t1)) (.int .i64 c) t2
  have e3 := v2_new ((W.alloc (.cells #[.int .i64 a] t1)).alloc (.cells #[.int .i64 c] t2)) (.slice (some ⟨W.heap.size, 0, none⟩) 1 1) (.slice (some ⟨W.heap.size + 1, 0, none⟩) 1 1) t3
  have e4 := v2_new (((W.alloc (.cells #[.int .i64 a] t1)).alloc (.cells #[.int .i64 c] t2)).alloc (.cells #[.slice (some ⟨W.heap.size, 0, none⟩) 1 1, .slice (some ⟨W.heap.size + 1, 0, none⟩) 1 1] t3)) (.int .i64 b) (.int .i64 d) t4
  rw [show (W.alloc (.cells #[.int .i64 a] t1)).heap.size = W.heap.size + 1 by simp] at e2
  rw [show ((W.alloc (.cells #[.int .i64 a] t1)).alloc (.cells #[.int .i64 c] t2)).heap.size = W.heap.size + 2 by simp] at e3
  rw [show (((W.alloc (.cells #[.int .i64 a] t1)).alloc (.cells #[.int .i64 c] t2)).alloc (.cells #[.slice (some ⟨W.heap.size, 0, none⟩) 1 1, .slice (some ⟨W.heap.size + 1, 0, none⟩) 1 1] t3)).heap.size = W.heap.size + 3 by simp] at e4
  have hr : Rw4 0 W4 (.agg #[.slice (some ⟨W.heap.size + 2, 0, none⟩) 2 2, .slice (some ⟨W.heap.size + 3, 0, none⟩) 2 2]) a b c d := by
    rw [h]
    exact ⟨_, _, _, _, rfl, ⟨Nat.zero_le _, Nat.zero_le _, Nat.zero_le _, Nat.zero_le _⟩, e3.below (ba _ _), ⟨e1.below (bt (bt (ba _ _) (ba _ _)) (ba _ _)), e2.below (bt (ba _ _) (ba _ _))⟩, e4.1, e4.2⟩
  refine ⟨hr.ins.1, hr.ins.2, ?_⟩
  rw [h]
  exact bt (bt (bt (ba _ _) (ba _ _)) (ba _ _)) (ba _ _)
set_option maxRecDepth 100000 in
set_option maxHeartbeats 3200000 in
theorem sVerifyEq_any (P Q G a b c d : Int) (hg : goodB P Q G = true) (s : ByteArray) (hs : s.size ≤ 1000000) (hel : allEl P Q [a, b, c, d] = true) {B : Nat} {v : Value} {p : PrD} (hpn : p.n ≤ 1048576) {w : World} (hP : InP B w v p) :
    Calls Try.prog 68 #[gv P Q G, .string s, ev4 a b c d, v] w (EqOut (.bool (svV P Q G s [[a], [c]] [b, d] p)) w) := by
  obtain ⟨a1, c1, a2, c2, a3, c3, rfl, _, _, _⟩ := hP.parts
  have hal := ba ((w.alloc (.cells #[.int .i64 P, .int .i64 Q, .int .i64 G] 32)).alloc (.cells #[.int .i64 a, .int .i64 b, .int .i64 c, .int .i64 d] 47)) (.cells #[.slice a1 p.c.length c1, .slice a2 p.h.length c2, .slice a3 p.r.length c3] 36)
  have hae := bt (ba (w.alloc (.cells #[.int .i64 P, .int .i64 Q, .int .i64 G] 32)) (.cells #[.int .i64 a, .int .i64 b, .int .i64 c, .int .i64 d] 47)) hal
  have HB_0 := Lib.hid (bt (ba w (.cells #[.int .i64 P, .int .i64 Q, .int .i64 G] 32)) hae)
  have G_0 := Lib.hid (GR.below (gr_new w P Q G 32) hae)
  have hw := v4_new (w.alloc (.cells #[.int .i64 P, .int .i64 Q, .int .i64 G] 32)) a b c d 47
  rw [show (w.alloc (.cells #[.int .i64 P, .int .i64 Q, .int .i64 G] 32)).heap.size = w.heap.size + 1 by simp] at hw
  have W_0 := Lib.hid (V4.below hw hal)
  have hv := b3_new ((w.alloc (.cells #[.int .i64 P, .int .i64 Q, .int .i64 G] 32)).alloc (.cells #[.int .i64 a, .int .i64 b, .int .i64 c, .int .i64 d] 47)) (.slice a1 p.c.length c1) (.slice a2 p.h.length c2) (.slice a3 p.r.length c3) 36
  rw [show ((w.alloc (.cells #[.int .i64 P, .int .i64 Q, .int .i64 G] 32)).alloc (.cells #[.int .i64 a, .int .i64 b, .int .i64 c, .int .i64 d] 47)).heap.size = w.heap.size + 2 by simp] at hv
  have V_0 := Lib.hid hv
  have P_0 := Lib.hid (hP.below HB_0.out)
  clear hal hv hP hae hw
  have hok := (ok_eq P Q a b c d).trans hel
  simp only [St.ok, Bool.and_eq_true, decide_eq_true_eq] at hok
  obtain ⟨hk1, hk2, hk3⟩ := hok
  generalize hrs : ([[a], [c]] : List (List Int)) = rs at hk1 hk2 ⊢
  generalize his : ([b, d] : List Int) = is at hk2 hk3 ⊢
  have HRS := Lib.hid hrs
  have HIS := Lib.hid his
  have K1 := Lib.hid hk1
  have K2 := Lib.hid hk2
  have K3 := Lib.hid hk3
  clear hrs his hk1 hk2 hk3 hel
  go_enter Try.func68, Try.ntmps68
  generalize hW : ((w.alloc (.cells #[.int .i64 P, .int .i64 Q, .int .i64 G] 32)).alloc (.cells #[.int .i64 a, .int .i64 b, .int .i64 c, .int .i64 d] 47)).alloc (.cells #[.slice a1 p.c.length c1, .slice a2 p.h.length c2, .slice a3 p.r.length c3] 36) = W at *
  have hk := eq_lit W a b c d 3 3 25 3 _ rfl
  rw [HRS.out, HIS.out] at hk
  have HKL := Lib.hid hk
  have hp3 := Lib.hid (P_0.out.below hk.2.2)
  have HB3 := Lib.hid (bt HB_0.out hk.2.2)
  obtain ⟨bV0, bV1, bV2, _⟩ := V_0.out.below hk.2.2
  clear hk
  obtain ⟨gG0, gG1, gG2⟩ := G_0.out
  obtain ⟨eW0, eW1, eW2, eW3⟩ := W_0.out
  obtain ⟨fW0, fW1, fW2, fW3⟩ := W_0.out.below (ba W (.cells #[.int .i64 a] 3))
  obtain ⟨iW0, iW1, iW2, iW3⟩ := W_0.out.below (bt (bt (ba W (.cells #[.int .i64 a] 3)) (ba _ (.cells #[.int .i64 c] 3))) (ba _ (.cells #[.slice (some ⟨W.heap.size, 0, none⟩) 1 1, .slice (some ⟨W.heap.size + 1, 0, none⟩) 1 1] 25)))
  go_wp2_with fail
  refine (sVerify_any P Q G hg s hs K1.out K2.out K3.out hpn HKL.out.1 HKL.out.2.1 hp3.out).mono ?_
  rintro e v9 ⟨rfl, hb⟩
  have HB_9 := Lib.hid (bt HB3.out hb)
  clear hb
  go_wp2
  go_ret
  exact ⟨rfl, HB_9.out⟩

set_option maxRecDepth 100000 in
set_option maxHeartbeats 3200000 in
theorem sVerifyEqual_any (P Q G a b c d : Int) (s : ByteArray) (hs : s.size ≤ 1048576) {B : Nat} {v : Value} {p : PrD} (hpn : p.n ≤ 1048576) {w : World} (hP : InP B w v p) :
    Calls Try.prog 28 #[gv P Q G, .string s, ev4 a b c d, v] w (EqOut (.tuple #[.bool (vrV P Q G s (St.lin [[a], [c]] [b, d]) p), .bool (vrB P Q G s (St.lin [[a], [c]] [b, d]))]) w) := by
  obtain ⟨a1, c1, a2, c2, a3, c3, rfl, _, _, _⟩ := hP.parts
  have hal := ba ((w.alloc (.cells #[.int .i64 P, .int .i64 Q, .int .i64 G] 32)).alloc (.cells #[.int .i64 a, .int .i64 b, .int .i64 c, .int .i64 d] 47)) (.cells #[.slice a1 p.c.length c1, .slice a2 p.h.length c2, .slice a3 p.r.length c3] 36)
  have hae := bt (ba (w.alloc (.cells #[.int .i64 P, .int .i64 Q, .int .i64 G] 32)) (.cells #[.int .i64 a, .int .i64 b, .int .i64 c, .int .i64 d] 47)) hal
  have HB_0 := Lib.hid (bt (ba w (.cells #[.int .i64 P, .int .i64 Q, .int .i64 G] 32)) hae)
  have G_0 := Lib.hid (GR.below (gr_new w P Q G 32) hae)
  have hw := v4_new (w.alloc (.cells #[.int .i64 P, .int .i64 Q, .int .i64 G] 32)) a b c d 47
  rw [show (w.alloc (.cells #[.int .i64 P, .int .i64 Q, .int .i64 G] 32)).heap.size = w.heap.size + 1 by simp] at hw
  have W_0 := Lib.hid (V4.below hw hal)
  have hv := b3_new ((w.alloc (.cells #[.int .i64 P, .int .i64 Q, .int .i64 G] 32)).alloc (.cells #[.int .i64 a, .int .i64 b, .int .i64 c, .int .i64 d] 47)) (.slice a1 p.c.length c1) (.slice a2 p.h.length c2) (.slice a3 p.r.length c3) 36
  rw [show ((w.alloc (.cells #[.int .i64 P, .int .i64 Q, .int .i64 G] 32)).alloc (.cells #[.int .i64 a, .int .i64 b, .int .i64 c, .int .i64 d] 47)).heap.size = w.heap.size + 2 by simp] at hv
  have V_0 := Lib.hid hv
  have P_0 := Lib.hid (hP.below HB_0.out)
  clear hal hv hP hae hw
  cases h0 : (goodB P Q G && decide (s.size ≤ 40))
  · have K0 := Lib.hid (show (goodB P Q G && decide (s.size ≤ 40)) = false from h0)
    have E1 := Lib.hid (show vrB P Q G s (St.lin [[a], [c]] [b, d]) = false from by rw [vrB_eq, h0]; rfl)
    have E2 := Lib.hid (vrV_off (p := p) E1.out)
    rw [E1.out, E2.out]
    clear h0
    obtain ⟨gG0, gG1, gG2⟩ := G_0.out
    obtain ⟨eW0, eW1, eW2, eW3⟩ := W_0.out
    obtain ⟨bV0, bV1, bV2, _⟩ := V_0.out
    go_enter Try.func28, Try.ntmps28
    go_wp2_with fail
    refine (sLabel_any P Q G s hs _).mono ?_
    rw [K0.out]
    rintro e v1 ⟨rfl, hb⟩
    have HB_1 := Lib.hid (bt HB_0.out hb)
    have G_1 := Lib.hid (G_0.out.below hb)
    have W_1 := Lib.hid (W_0.out.below hb)
    have V_1 := Lib.hid (V_0.out.below hb)
    have P_1 := Lib.hid (P_0.out.below hb)
    clear hb gG0 gG1 gG2 eW0 eW1 eW2 eW3 bV0 bV1 bV2
    obtain ⟨gG0, gG1, gG2⟩ := G_1.out
    obtain ⟨eW0, eW1, eW2, eW3⟩ := W_1.out
    obtain ⟨bV0, bV1, bV2, _⟩ := V_1.out
    go_wp2
    go_ret2
    exact ⟨rfl, HB_1.out⟩
  have K0 := Lib.hid (show (goodB P Q G && decide (s.size ≤ 40)) = true from h0)
  have HGd := Lib.hid (show goodB P Q G = true from ((Bool.and_eq_true _ _).mp h0).1)
  have hs40 : s.size ≤ 1000000 := by have := of_decide_eq_true ((Bool.and_eq_true _ _).mp h0).2; omega
  cases h1 : allEl P Q [a, b, c, d]
  · have K1 := Lib.hid (show allEl P Q [a, b, c, d] = false from h1)
    have E1 := Lib.hid (show vrB P Q G s (St.lin [[a], [c]] [b, d]) = false from by rw [vrB_eq, h0]; simp [ok_eq, h1])
    have E2 := Lib.hid (vrV_off (p := p) E1.out)
    rw [E1.out, E2.out]
    clear h0 h1
    obtain ⟨gG0, gG1, gG2⟩ := G_0.out
    obtain ⟨eW0, eW1, eW2, eW3⟩ := W_0.out
    obtain ⟨bV0, bV1, bV2, _⟩ := V_0.out
    go_enter Try.func28, Try.ntmps28
    go_wp2_with fail
    refine (sLabel_any P Q G s hs _).mono ?_
    rw [K0.out]
    rintro e v1 ⟨rfl, hb⟩
    have HB_1 := Lib.hid (bt HB_0.out hb)
    have G_1 := Lib.hid (G_0.out.below hb)
    have W_1 := Lib.hid (W_0.out.below hb)
    have V_1 := Lib.hid (V_0.out.below hb)
    have P_1 := Lib.hid (P_0.out.below hb)
    clear hb gG0 gG1 gG2 eW0 eW1 eW2 eW3 bV0 bV1 bV2
    obtain ⟨gG0, gG1, gG2⟩ := G_1.out
    obtain ⟨eW0, eW1, eW2, eW3⟩ := W_1.out
    obtain ⟨bV0, bV1, bV2, _⟩ := V_1.out
    go_wp2_with fail
    refine (sElements_any P Q G a b c d (good_mo HGd.out) _).mono ?_
    rw [K1.out]
    rintro e v2 ⟨rfl, hb⟩
    have HB_2 := Lib.hid (bt HB_1.out hb)
    have G_2 := Lib.hid (G_1.out.below hb)
    have W_2 := Lib.hid (W_1.out.below hb)
    have V_2 := Lib.hid (V_1.out.below hb)
    have P_2 := Lib.hid (P_1.out.below hb)
    clear hb gG0 gG1 gG2 eW0 eW1 eW2 eW3 bV0 bV1 bV2
    obtain ⟨gG0, gG1, gG2⟩ := G_2.out
    obtain ⟨eW0, eW1, eW2, eW3⟩ := W_2.out
    obtain ⟨bV0, bV1, bV2, _⟩ := V_2.out
    go_wp2
    go_ret2
    exact ⟨rfl, HB_2.out⟩
  have K1 := Lib.hid (show allEl P Q [a, b, c, d] = true from h1)
  have hvb : vrB P Q G s (St.lin [[a], [c]] [b, d]) = true := by rw [vrB_eq, h0, ok_eq, h1]; rfl
  have E1 := Lib.hid hvb
  have E2 := Lib.hid (vr_lin (p := p) hvb)
  rw [E1.out, E2.out]
  have K1b := Lib.hid h1
  clear hvb h0 h1
  obtain ⟨gG0, gG1, gG2⟩ := G_0.out
  obtain ⟨eW0, eW1, eW2, eW3⟩ := W_0.out
  obtain ⟨bV0, bV1, bV2, _⟩ := V_0.out
  go_enter Try.func28, Try.ntmps28
  go_wp2_with fail
  refine (sLabel_any P Q G s hs _).mono ?_
  rw [K0.out]
  rintro e v1 ⟨rfl, hb⟩
  have HB_1 := Lib.hid (bt HB_0.out hb)
  have G_1 := Lib.hid (G_0.out.below hb)
  have W_1 := Lib.hid (W_0.out.below hb)
  have V_1 := Lib.hid (V_0.out.below hb)
  have P_1 := Lib.hid (P_0.out.below hb)
  clear hb gG0 gG1 gG2 eW0 eW1 eW2 eW3 bV0 bV1 bV2
  obtain ⟨gG0, gG1, gG2⟩ := G_1.out
  obtain ⟨eW0, eW1, eW2, eW3⟩ := W_1.out
  obtain ⟨bV0, bV1, bV2, _⟩ := V_1.out
  go_wp2_with fail
  refine (sElements_any P Q G a b c d (good_mo HGd.out) _).mono ?_
  rw [K1.out]
  rintro e v2 ⟨rfl, hb⟩
  have HB_2 := Lib.hid (bt HB_1.out hb)
  have G_2 := Lib.hid (G_1.out.below hb)
  have W_2 := Lib.hid (W_1.out.below hb)
  have V_2 := Lib.hid (V_1.out.below hb)
  have P_2 := Lib.hid (P_1.out.below hb)
  clear hb gG0 gG1 gG2 eW0 eW1 eW2 eW3 bV0 bV1 bV2
  obtain ⟨gG0, gG1, gG2⟩ := G_2.out
  obtain ⟨eW0, eW1, eW2, eW3⟩ := W_2.out
  obtain ⟨bV0, bV1, bV2, _⟩ := V_2.out
  go_wp2_with fail
  refine (sVerifyEq_any P Q G a b c d HGd.out s hs40 K1b.out hpn P_2.out).mono ?_
  rintro e v9 ⟨rfl, hb⟩
  have HB_9 := Lib.hid (bt HB_2.out hb)
  clear hb
  go_wp2
  go_ret2
  exact ⟨rfl, HB_9.out⟩

set_option maxRecDepth 100000 in
set_option maxHeartbeats 3200000 in
theorem verifyEqual_any (P Q G a b c d : Int) (s : ByteArray) (hs : s.size ≤ 1048576) {B : Nat} {v : Value} {p : PrD} (hpn : p.n ≤ 1048576) {w : World} (hP : InP B w v p) :
    Calls Try.prog 30 #[gv P Q G, .string s, ev4 a b c d, v] w (EqOut (.tuple #[.bool (vrV P Q G s (St.lin [[a], [c]] [b, d]) p), .bool (vrB P Q G s (St.lin [[a], [c]] [b, d]))]) w) := by
  obtain ⟨a1, c1, a2, c2, a3, c3, rfl, _, _, _⟩ := hP.parts
  have hal := ba ((w.alloc (.cells #[.int .i64 P, .int .i64 Q, .int .i64 G] 32)).alloc (.cells #[.int .i64 a, .int .i64 b, .int .i64 c, .int .i64 d] 47)) (.cells #[.slice a1 p.c.length c1, .slice a2 p.h.length c2, .slice a3 p.r.length c3] 36)
  have hae := bt (ba (w.alloc (.cells #[.int .i64 P, .int .i64 Q, .int .i64 G] 32)) (.cells #[.int .i64 a, .int .i64 b, .int .i64 c, .int .i64 d] 47)) hal
  have HB_0 := Lib.hid (bt (ba w (.cells #[.int .i64 P, .int .i64 Q, .int .i64 G] 32)) hae)
  have G_0 := Lib.hid (GR.below (gr_new w P Q G 32) hae)
  have hw := v4_new (w.alloc (.cells #[.int .i64 P, .int .i64 Q, .int .i64 G] 32)) a b c d 47
  rw [show (w.alloc (.cells #[.int .i64 P, .int .i64 Q, .int .i64 G] 32)).heap.size = w.heap.size + 1 by simp] at hw
  have W_0 := Lib.hid (V4.below hw hal)
  have hv := b3_new ((w.alloc (.cells #[.int .i64 P, .int .i64 Q, .int .i64 G] 32)).alloc (.cells #[.int .i64 a, .int .i64 b, .int .i64 c, .int .i64 d] 47)) (.slice a1 p.c.length c1) (.slice a2 p.h.length c2) (.slice a3 p.r.length c3) 36
  rw [show ((w.alloc (.cells #[.int .i64 P, .int .i64 Q, .int .i64 G] 32)).alloc (.cells #[.int .i64 a, .int .i64 b, .int .i64 c, .int .i64 d] 47)).heap.size = w.heap.size + 2 by simp] at hv
  have V_0 := Lib.hid hv
  have P_0 := Lib.hid (hP.below HB_0.out)
  clear hal hv hP hae hw
  generalize hrs : ([[a], [c]] : List (List Int)) = rs
  generalize his : ([b, d] : List Int) = is
  have HRS := Lib.hid hrs
  have HIS := Lib.hid his
  clear hrs his
  have hl : rs.length ≤ 1048576 := by rw [← HRS.out]; simp
  have hi8 : is.length ≤ 17592186044416 := by rw [← HIS.out]; simp
  have HRL := Lib.hid (show ∀ z ∈ rs, z.length ≤ 17592186044416 from by
    rw [← HRS.out]; intro z hz
    rcases List.mem_cons.1 hz with rfl | hz
    · simp
    · rw [List.mem_singleton.1 hz]; simp)
  go_enter Try.func30, Try.ntmps30
  go_wp2_with fail
  generalize hW : ((w.alloc (.cells #[.int .i64 P, .int .i64 Q, .int .i64 G] 32)).alloc (.cells #[.int .i64 a, .int .i64 b, .int .i64 c, .int .i64 d] 47)).alloc (.cells #[.slice a1 p.c.length c1, .slice a2 p.h.length c2, .slice a3 p.r.length c3] 36) = W at *
  have HK := Lib.hid (show ∀ w', Below W.heap.size W w' → ((w'.cell? ⟨w.heap.size, 0, none⟩ = some (.int .i64 P) ∧ w'.cell? ⟨w.heap.size, 1, none⟩ = some (.int .i64 Q) ∧ w'.cell? ⟨w.heap.size, 2, none⟩ = some (.int .i64 G)) ∧ (w'.cell? ⟨w.heap.size + 1, 0, none⟩ = some (.int .i64 a) ∧ w'.cell? ⟨w.heap.size + 1, 1, none⟩ = some (.int .i64 b) ∧ w'.cell? ⟨w.heap.size + 1, 2, none⟩ = some (.int .i64 c) ∧ w'.cell? ⟨w.heap.size + 1, 3, none⟩ = some (.int .i64 d)) ∧ w'.cell? ⟨w.heap.size + 2, 0, none⟩ = some (.slice a1 p.c.length c1) ∧ w'.cell? ⟨w.heap.size + 2, 1, none⟩ = some (.slice a2 p.h.length c2) ∧ w'.cell? ⟨w.heap.size + 2, 2, none⟩ = some (.slice a3 p.r.length c3)) from fun w' hk => ⟨G_0.out.below hk, W_0.out.below hk, (V_0.out.below hk).1, (V_0.out.below hk).2.1, (V_0.out.below hk).2.2.1⟩)
  clear hW
  go_region_held3 (fun w' => (w'.cell? ⟨w.heap.size, 0, none⟩ = some (.int .i64 P) ∧ w'.cell? ⟨w.heap.size, 1, none⟩ = some (.int .i64 Q) ∧ w'.cell? ⟨w.heap.size, 2, none⟩ = some (.int .i64 G)) ∧ (w'.cell? ⟨w.heap.size + 1, 0, none⟩ = some (.int .i64 a) ∧ w'.cell? ⟨w.heap.size + 1, 1, none⟩ = some (.int .i64 b) ∧ w'.cell? ⟨w.heap.size + 1, 2, none⟩ = some (.int .i64 c) ∧ w'.cell? ⟨w.heap.size + 1, 3, none⟩ = some (.int .i64 d)) ∧ w'.cell? ⟨w.heap.size + 2, 0, none⟩ = some (.slice a1 p.c.length c1) ∧ w'.cell? ⟨w.heap.size + 2, 1, none⟩ = some (.slice a2 p.h.length c2) ∧ w'.cell? ⟨w.heap.size + 2, 2, none⟩ = some (.slice a3 p.r.length c3)) (first | exact HK.out _ (Below.refl _ W).drew | exact HK.out _ HBr.out | exact HK.out _ HBs.out) ((first
    | (go_at_call 69; refine (rows_any a b c d _).mono ?_; rintro e vr ⟨r1, r2, rfl, hrw, hb⟩; have hin := hrw.ins; rw [HRS.out, HIS.out] at hin; have HIN := Lib.hid hin; have HBr := Lib.hid (bt (Below.refl _ W).drew hb); have Pr := Lib.hid (P_0.out.below HBr.out); clear hb hrw hin)
    | (go_at_call 66; refine (verifyLin_any P Q G s hs hl HRL.out hi8 hpn HIN.out.1 HIN.out.2 Pr.out).mono ?_; rintro e vs ⟨rfl, hb⟩; have HBs := Lib.hid (bt HBr.out hb); clear hb)
    | fail))
  all_goals (
    go_wp2
    go_ret2
    exact ⟨rfl, bt HB_0.out HBs.out⟩)

end Go.Proofs.Ytlgdcfficemebaa

