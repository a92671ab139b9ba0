/- ElGamal: the reference's EncryptElement, EncryptExp, DecryptElement, DecryptExp. -/
import Derived.Test.YtmihnohnfdjcaaaElJ
namespace Go.Proofs.Ytmihnohnfdjcaaa
open Go.RowKit

theorem enc_parts (P Q G key m r : Int) : encB P Q G key m r = (kgB P Q G key && elB P Q m && exB Q r) := rfl

set_option maxHeartbeats 1600000 in
theorem sEncryptElement_any (P Q G key m r : Int) (w : World) :
    Calls Try.prog 23 #[gv P Q G, .int .i64 key, .int .i64 m, .int .i64 r] w fun e w' => e = .returned (.tuple #[cv (encA P Q G key m r) (encM P Q G key m r), .bool (encB P Q G key m r)]) ∧ Below w.heap.size w w' := by
  cases h1 : kgB P Q G key
  · skip
    have e0 : encB P Q G key m r = false := by simp [enc_parts, h1]
    obtain ⟨e1, e2⟩ := enc_off e0
    rw [e0, e1, e2]
    clear e0 e1 e2
    have H1 := Lib.hid h1
    clear h1
    have G_0 := Lib.hid ((gr_at w (w.heap.size) (by simp) P Q G 24).below (ba (w.alloc (.cells #[.int .i64 P, .int .i64 Q, .int .i64 G] 24)) (.cells #[.int .i64 0, .int .i64 0] 26)))
    have R_0 := Lib.hid (c2_at (w.alloc (.cells #[.int .i64 P, .int .i64 Q, .int .i64 G] 24)) (w.heap.size + 1) (by simp) 0 0 26)
    have HB_0 := Lib.hid (show Below w.heap.size w ((w.alloc (.cells #[.int .i64 P, .int .i64 Q, .int .i64 G] 24)).alloc (.cells #[.int .i64 0, .int .i64 0] 26)) from bt (ba _ _) (ba _ _))
    go_enter Try.func23, Try.ntmps23
    go_wp2_with fail
    refine (eKey_any _ _ _ _ _).mono ?_
    rw [H1.out]
    rintro e v1 ⟨rfl, hb⟩
    have HB_1 := Lib.hid (bt HB_0.out hb)
    have G_1 := Lib.hid (G_0.out.below hb)
    have R_1 := Lib.hid (R_0.out.below hb)
    clear hb
    obtain ⟨gG0, gG1, gG2⟩ := G_1.out
    obtain ⟨rR0, rR1, rfR⟩ := R_1.out
    have rfR0 := rfR 0
    have rfR1 := rfR 1
    go_wp2
    (try simp only [Exit.inBlock, Exit.then])
    refine bodyPost_ret (v := .tuple #[cv 0 0, .bool false]) ?_ rfl ⟨rfl, ?_⟩
    · rw [results_cell_tmp rfl]; go_simp
    · first | exact HB_1.out | exact set_below HB_1.out (w.heap.size + 1) (by omega) _ _
  cases h2 : elB P Q m
  · skip
    have e0 : encB P Q G key m r = false := by simp [enc_parts, h2]
    obtain ⟨e1, e2⟩ := enc_off e0
    rw [e0, e1, e2]
    clear e0 e1 e2
    have hgk := Bool.and_eq_true_iff.1 (show (goodB P Q G && elB P Q key) = true from h1)
    have hmo := good_mo hgk.1
    have hP : 2 ≤ P ∧ P ≤ 2000000000 := hmo.1
    have hQr : 0 ≤ Q ∧ Q ≤ 2000000000 := hmo.2
    have hQ2 : 2 ≤ Q := by have := goodB_true.1 hgk.1; omega
    have hG := el_rng (good_el hgk.1)
    have hky := el_rng hgk.2
    clear hgk
    have H1 := Lib.hid h1
    have H2 := Lib.hid h2
    clear h1 h2
    have G_0 := Lib.hid ((gr_at w (w.heap.size) (by simp) P Q G 24).below (ba (w.alloc (.cells #[.int .i64 P, .int .i64 Q, .int .i64 G] 24)) (.cells #[.int .i64 0, .int .i64 0] 26)))
    have R_0 := Lib.hid (c2_at (w.alloc (.cells #[.int .i64 P, .int .i64 Q, .int .i64 G] 24)) (w.heap.size + 1) (by simp) 0 0 26)
    have HB_0 := Lib.hid (show Below w.heap.size w ((w.alloc (.cells #[.int .i64 P, .int .i64 Q, .int .i64 G] 24)).alloc (.cells #[.int .i64 0, .int .i64 0] 26)) from bt (ba _ _) (ba _ _))
    go_enter Try.func23, Try.ntmps23
    go_wp2_with fail
    refine (eKey_any _ _ _ _ _).mono ?_
    rw [H1.out]
    rintro e v1 ⟨rfl, hb⟩
    have HB_1 := Lib.hid (bt HB_0.out hb)
    have G_1 := Lib.hid (G_0.out.below hb)
    have R_1 := Lib.hid (R_0.out.below hb)
    clear hb
    obtain ⟨gG0, gG1, gG2⟩ := G_1.out
    obtain ⟨rR0, rR1, rfR⟩ := R_1.out
    have rfR0 := rfR 0
    have rfR1 := rfR 1
    go_wp2_with fail
    refine (gIs_any P Q G hmo _ 1 1 [m] rfl (by decide) _ (ints_lit v1 [m] 3)).mono ?_
    rw [(allEl_one P Q m).trans H2.out]
    rintro e v2 ⟨rfl, hbl⟩
    have hb := bt (ba v1 (.cells #[.int .i64 m] 3)) hbl
    clear hbl
    have HB_2 := Lib.hid (bt HB_1.out hb)
    have G_2 := Lib.hid (G_1.out.below hb)
    have R_2 := Lib.hid (R_1.out.below hb)
    clear hb
    clear gG0 gG1 gG2 rR0 rR1 rfR rfR0 rfR1
    obtain ⟨gG0, gG1, gG2⟩ := G_2.out
    obtain ⟨rR0, rR1, rfR⟩ := R_2.out
    have rfR0 := rfR 0
    have rfR1 := rfR 1
    go_wp2
    (try simp only [Exit.inBlock, Exit.then])
    refine bodyPost_ret (v := .tuple #[cv 0 0, .bool false]) ?_ rfl ⟨rfl, ?_⟩
    · rw [results_cell_tmp rfl]; go_simp
    · first | exact HB_2.out | exact set_below HB_2.out (w.heap.size + 1) (by omega) _ _
  cases h3 : exB Q r
  · skip
    have e0 : encB P Q G key m r = false := by simp [enc_parts, h3]
    obtain ⟨e1, e2⟩ := enc_off e0
    rw [e0, e1, e2]
    clear e0 e1 e2
    have hgk := Bool.and_eq_true_iff.1 (show (goodB P Q G && elB P Q key) = true from h1)
    have hmo := good_mo hgk.1
    have hP : 2 ≤ P ∧ P ≤ 2000000000 := hmo.1
    have hQr : 0 ≤ Q ∧ Q ≤ 2000000000 := hmo.2
    have hQ2 : 2 ≤ Q := by have := goodB_true.1 hgk.1; omega
    have hG := el_rng (good_el hgk.1)
    have hky := el_rng hgk.2
    clear hgk
    have hmr := el_rng h2
    have H1 := Lib.hid h1
    have H2 := Lib.hid h2
    have H3 := Lib.hid h3
    clear h1 h2 h3
    have G_0 := Lib.hid ((gr_at w (w.heap.size) (by simp) P Q G 24).below (ba (w.alloc (.cells #[.int .i64 P, .int .i64 Q, .int .i64 G] 24)) (.cells #[.int .i64 0, .int .i64 0] 26)))
    have R_0 := Lib.hid (c2_at (w.alloc (.cells #[.int .i64 P, .int .i64 Q, .int .i64 G] 24)) (w.heap.size + 1) (by simp) 0 0 26)
    have HB_0 := Lib.hid (show Below w.heap.size w ((w.alloc (.cells #[.int .i64 P, .int .i64 Q, .int .i64 G] 24)).alloc (.cells #[.int .i64 0, .int .i64 0] 26)) from bt (ba _ _) (ba _ _))
    go_enter Try.func23, Try.ntmps23
    go_wp2_with fail
    refine (eKey_any _ _ _ _ _).mono ?_
    rw [H1.out]
    rintro e v1 ⟨rfl, hb⟩
    have HB_1 := Lib.hid (bt HB_0.out hb)
    have G_1 := Lib.hid (G_0.out.below hb)
    have R_1 := Lib.hid (R_0.out.below hb)
    clear hb
    obtain ⟨gG0, gG1, gG2⟩ := G_1.out
    obtain ⟨rR0, rR1, rfR⟩ := R_1.out
    have rfR0 := rfR 0
    have rfR1 := rfR 1
    go_wp2_with fail
    refine (gIs_any P Q G hmo _ 1 1 [m] rfl (by decide) _ (ints_lit v1 [m] 3)).mono ?_
    rw [(allEl_one P Q m).trans H2.out]
    rintro e v2 ⟨rfl, hbl⟩
    have hb := bt (ba v1 (.cells #[.int .i64 m] 3)) hbl
    clear hbl
    have HB_2 := Lib.hid (bt HB_1.out hb)
    have G_2 := Lib.hid (G_1.out.below hb)
    have R_2 := Lib.hid (R_1.out.below hb)
    clear hb
    clear gG0 gG1 gG2 rR0 rR1 rfR rfR0 rfR1
    obtain ⟨gG0, gG1, gG2⟩ := G_2.out
    obtain ⟨rR0, rR1, rfR⟩ := R_2.out
    have rfR0 := rfR 0
    have rfR1 := rfR 1
    go_wp2_with fail
    refine (gExps_any P Q G hQr _ 1 1 [r] rfl (by decide) _ (ints_lit v2 [r] 3)).mono ?_
    rw [(exs_one Q r).trans H3.out]
    rintro e v3 ⟨rfl, hbl⟩
    have hb := bt (ba v2 (.cells #[.int .i64 r] 3)) hbl
    clear hbl
    have HB_3 := Lib.hid (bt HB_2.out hb)
    have G_3 := Lib.hid (G_2.out.below hb)
    have R_3 := Lib.hid (R_2.out.below hb)
    clear hb
    clear gG0 gG1 gG2 rR0 rR1 rfR rfR0 rfR1
    obtain ⟨gG0, gG1, gG2⟩ := G_3.out
    obtain ⟨rR0, rR1, rfR⟩ := R_3.out
    have rfR0 := rfR 0
    have rfR1 := rfR 1
    go_wp2
    (try simp only [Exit.inBlock, Exit.then])
    refine bodyPost_ret (v := .tuple #[cv 0 0, .bool false]) ?_ rfl ⟨rfl, ?_⟩
    · rw [results_cell_tmp rfl]; go_simp
    · first | exact HB_3.out | exact set_below HB_3.out (w.heap.size + 1) (by omega) _ _
  have e0 : encB P Q G key m r = true := by simp [enc_parts, h1, h2, h3]
  obtain ⟨e1, e2⟩ := enc_on e0
  rw [e0, e1, e2]
  clear e0 e1 e2
  have hgk := Bool.and_eq_true_iff.1 (show (goodB P Q G && elB P Q key) = true from h1)
  have hmo := good_mo hgk.1
  have hP : 2 ≤ P ∧ P ≤ 2000000000 := hmo.1
  have hQr : 0 ≤ Q ∧ Q ≤ 2000000000 := hmo.2
  have hQ2 : 2 ≤ Q := by have := goodB_true.1 hgk.1; omega
  have hG := el_rng (good_el hgk.1)
  have hky := el_rng hgk.2
  clear hgk
  have hmr := el_rng h2
  have hr := exB_true.1 h3
  have H1 := Lib.hid h1
  have H2 := Lib.hid h2
  have H3 := Lib.hid h3
  clear h1 h2 h3
  have G_0 := Lib.hid ((gr_at w (w.heap.size) (by simp) P Q G 24).below (ba (w.alloc (.cells #[.int .i64 P, .int .i64 Q, .int .i64 G] 24)) (.cells #[.int .i64 0, .int .i64 0] 26)))
  have R_0 := Lib.hid (c2_at (w.alloc (.cells #[.int .i64 P, .int .i64 Q, .int .i64 G] 24)) (w.heap.size + 1) (by simp) 0 0 26)
  have HB_0 := Lib.hid (show Below w.heap.size w ((w.alloc (.cells #[.int .i64 P, .int .i64 Q, .int .i64 G] 24)).alloc (.cells #[.int .i64 0, .int .i64 0] 26)) from bt (ba _ _) (ba _ _))
  go_enter Try.func23, Try.ntmps23
  go_wp2_with fail
  refine (eKey_any _ _ _ _ _).mono ?_
  rw [H1.out]
  rintro e v1 ⟨rfl, hb⟩
  have HB_1 := Lib.hid (bt HB_0.out hb)
  have G_1 := Lib.hid (G_0.out.below hb)
  have R_1 := Lib.hid (R_0.out.below hb)
  clear hb
  obtain ⟨gG0, gG1, gG2⟩ := G_1.out
  obtain ⟨rR0, rR1, rfR⟩ := R_1.out
  have rfR0 := rfR 0
  have rfR1 := rfR 1
  go_wp2_with fail
  refine (gIs_any P Q G hmo _ 1 1 [m] rfl (by decide) _ (ints_lit v1 [m] 3)).mono ?_
  rw [(allEl_one P Q m).trans H2.out]
  rintro e v2 ⟨rfl, hbl⟩
  have hb := bt (ba v1 (.cells #[.int .i64 m] 3)) hbl
  clear hbl
  have HB_2 := Lib.hid (bt HB_1.out hb)
  have G_2 := Lib.hid (G_1.out.below hb)
  have R_2 := Lib.hid (R_1.out.below hb)
  clear hb
  clear gG0 gG1 gG2 rR0 rR1 rfR rfR0 rfR1
  obtain ⟨gG0, gG1, gG2⟩ := G_2.out
  obtain ⟨rR0, rR1, rfR⟩ := R_2.out
  have rfR0 := rfR 0
  have rfR1 := rfR 1
  go_wp2_with fail
  refine (gExps_any P Q G hQr _ 1 1 [r] rfl (by decide) _ (ints_lit v2 [r] 3)).mono ?_
  rw [(exs_one Q r).trans H3.out]
  rintro e v3 ⟨rfl, hbl⟩
  have hb := bt (ba v2 (.cells #[.int .i64 r] 3)) hbl
  clear hbl
  have HB_3 := Lib.hid (bt HB_2.out hb)
  have G_3 := Lib.hid (G_2.out.below hb)
  have R_3 := Lib.hid (R_2.out.below hb)
  clear hb
  clear gG0 gG1 gG2 rR0 rR1 rfR rfR0 rfR1
  obtain ⟨gG0, gG1, gG2⟩ := G_3.out
  obtain ⟨rR0, rR1, rfR⟩ := R_3.out
  have rfR0 := rfR 0
  have rfR1 := rfR 1
  go_wp2_with fail
  refine (eEnc_any P Q G key m r hP hQ2 hQr.2 hG hky hmr hr _).mono ?_
  rintro e v4 ⟨rfl, hb⟩
  have HB_4 := Lib.hid (bt HB_3.out hb)
  have G_4 := Lib.hid (G_3.out.below hb)
  have R_4 := Lib.hid (R_3.out.below hb)
  clear hb
  clear gG0 gG1 gG2 rR0 rR1 rfR rfR0 rfR1
  obtain ⟨gG0, gG1, gG2⟩ := G_4.out
  obtain ⟨rR0, rR1, rfR⟩ := R_4.out
  have rfR0 := rfR 0
  have rfR1 := rfR 1
  go_wp2
  (try simp only [Exit.inBlock, Exit.then])
  refine bodyPost_ret (v := .tuple #[cv (Num.pow G r P) (m * Num.pow key r P % P), .bool true]) ?_ rfl ⟨rfl, ?_⟩
  · rw [results_cell_tmp rfl]; go_simp
  · first | exact HB_4.out | exact set_below HB_4.out (w.heap.size + 1) (by omega) _ _

theorem ee_iff (P Q G key v r : Int) : eeB P Q G key v r = (kgB P Q G key && (exB Q v && exB Q r)) := by
  unfold eeB keyB encB kgB
  cases hg : goodB P Q G
  · simp
  cases hv : exB Q v
  · simp
  rw [el_pow hg (good_el hg) (exB_true.1 hv).1]
  simp

theorem ee_zero {P Q G key v r : Int} (h : eeB P Q G key v r = false) : eeA P Q G key v r = 0 ∧ eeM P Q G key v r = 0 := by
  cases hk : keyB P Q G v
  · exact (ee_off hk).2
  · obtain ⟨e0, e1, e2⟩ := ee_on (key := key) (r := r) hk
    rw [e0] at h
    rw [e1, e2]
    exact enc_off h

set_option maxRecDepth 100000 in
set_option maxHeartbeats 3200000 in
theorem sEncryptExp_any (P Q G key v r : Int) (w : World) :
    Calls Try.prog 50 #[gv P Q G, .int .i64 key, .int .i64 v, .int .i64 r] w fun e w' => e = .returned (.tuple #[cv (eeA P Q G key v r) (eeM P Q G key v r), .bool (eeB P Q G key v r)]) ∧ Below w.heap.size w w' := by
  cases h1 : kgB P Q G key
  · skip
    have e0 : eeB P Q G key v r = false := by rw [ee_iff, h1]; simp
    obtain ⟨e1, e2⟩ := ee_zero e0
    rw [e0, e1, e2]
    clear e0 e1 e2
    have H1 := Lib.hid h1
    clear h1
    have G_0 := Lib.hid ((gr_at w (w.heap.size) (by simp) P Q G 24).below (ba (w.alloc (.cells #[.int .i64 P, .int .i64 Q, .int .i64 G] 24)) (.cells #[.int .i64 0, .int .i64 0] 26)))
    have R_0 := Lib.hid (c2_at (w.alloc (.cells #[.int .i64 P, .int .i64 Q, .int .i64 G] 24)) (w.heap.size + 1) (by simp) 0 0 26)
    have HB_0 := Lib.hid (show Below w.heap.size w ((w.alloc (.cells #[.int .i64 P, .int .i64 Q, .int .i64 G] 24)).alloc (.cells #[.int .i64 0, .int .i64 0] 26)) from bt (ba _ _) (ba _ _))
    go_enter Try.func50, Try.ntmps50
    go_wp2_with fail
    refine (eKey_any _ _ _ _ _).mono ?_
    rw [H1.out]
    rintro e v1 ⟨rfl, hb⟩
    have HB_1 := Lib.hid (bt HB_0.out hb)
    have G_1 := Lib.hid (G_0.out.below hb)
    have R_1 := Lib.hid (R_0.out.below hb)
    clear hb
    obtain ⟨gG0, gG1, gG2⟩ := G_1.out
    obtain ⟨rR0, rR1, rfR⟩ := R_1.out
    have rfR0 := rfR 0
    have rfR1 := rfR 1
    go_wp2
    (try simp only [Exit.inBlock, Exit.then])
    refine bodyPost_ret (v := .tuple #[cv 0 0, .bool false]) ?_ rfl ⟨rfl, ?_⟩
    · rw [results_cell_tmp rfl]; go_simp
    · first | exact HB_1.out | exact set_below HB_1.out (w.heap.size + 1) (by omega) _ _
  cases h2 : (exB Q v && exB Q r)
  · skip
    have e0 : eeB P Q G key v r = false := by rw [ee_iff, h2]; simp
    obtain ⟨e1, e2⟩ := ee_zero e0
    rw [e0, e1, e2]
    clear e0 e1 e2
    have hgk := Bool.and_eq_true_iff.1 (show (goodB P Q G && elB P Q key) = true from h1)
    have hmo := good_mo hgk.1
    have hP : 2 ≤ P ∧ P ≤ 2000000000 := hmo.1
    have hQr : 0 ≤ Q ∧ Q ≤ 2000000000 := hmo.2
    have hQ2 : 2 ≤ Q := by have := goodB_true.1 hgk.1; omega
    have hG := el_rng (good_el hgk.1)
    have hky := el_rng hgk.2
    clear hgk
    have H1 := Lib.hid h1
    have H2 := Lib.hid h2
    clear h1 h2
    have G_0 := Lib.hid ((gr_at w (w.heap.size) (by simp) P Q G 24).below (ba (w.alloc (.cells #[.int .i64 P, .int .i64 Q, .int .i64 G] 24)) (.cells #[.int .i64 0, .int .i64 0] 26)))
    have R_0 := Lib.hid (c2_at (w.alloc (.cells #[.int .i64 P, .int .i64 Q, .int .i64 G] 24)) (w.heap.size + 1) (by simp) 0 0 26)
    have HB_0 := Lib.hid (show Below w.heap.size w ((w.alloc (.cells #[.int .i64 P, .int .i64 Q, .int .i64 G] 24)).alloc (.cells #[.int .i64 0, .int .i64 0] 26)) from bt (ba _ _) (ba _ _))
    go_enter Try.func50, Try.ntmps50
    go_wp2_with fail
    refine (eKey_any _ _ _ _ _).mono ?_
    rw [H1.out]
    rintro e v1 ⟨rfl, hb⟩
    have HB_1 := Lib.hid (bt HB_0.out hb)
    have G_1 := Lib.hid (G_0.out.below hb)
    have R_1 := Lib.hid (R_0.out.below hb)
    clear hb
    obtain ⟨gG0, gG1, gG2⟩ := G_1.out
    obtain ⟨rR0, rR1, rfR⟩ := R_1.out
    have rfR0 := rfR 0
    have rfR1 := rfR 1
    go_wp2_with fail
    refine (gExps_any P Q G hQr _ 2 2 [v, r] rfl (by decide) _ (ints_lit v1 [v, r] 3)).mono ?_
    rw [(exs_two Q v r).trans H2.out]
    rintro e v2 ⟨rfl, hbl⟩
    have hb := bt (ba v1 (.cells #[.int .i64 v, .int .i64 r] 3)) hbl
    clear hbl
    have HB_2 := Lib.hid (bt HB_1.out hb)
    have G_2 := Lib.hid (G_1.out.below hb)
    have R_2 := Lib.hid (R_1.out.below hb)
    clear hb
    clear gG0 gG1 gG2 rR0 rR1 rfR rfR0 rfR1
    obtain ⟨gG0, gG1, gG2⟩ := G_2.out
    obtain ⟨rR0, rR1, rfR⟩ := R_2.out
    have rfR0 := rfR 0
    have rfR1 := rfR 1
    go_wp2
    (try simp only [Exit.inBlock, Exit.then])
    refine bodyPost_ret (v := .tuple #[cv 0 0, .bool false]) ?_ rfl ⟨rfl, ?_⟩
    · rw [results_cell_tmp rfl]; go_simp
    · first | exact HB_2.out | exact set_below HB_2.out (w.heap.size + 1) (by omega) _ _
  have e0 : eeB P Q G key v r = true := by rw [ee_iff, h1, h2]; rfl
  have hkb : keyB P Q G v = true ∧ encB P Q G key (Num.pow G v P) r = true := by simpa [eeB] using e0
  have e1 : eeA P Q G key v r = Num.pow G r P := by simp [eeA, hkb.1, (enc_on hkb.2).1]
  have e2 : eeM P Q G key v r = Num.pow G v P * Num.pow key r P % P := by simp [eeM, hkb.1, (enc_on hkb.2).2]
  rw [e0, e1, e2]
  clear e0 e1 e2 hkb
  have hgk := Bool.and_eq_true_iff.1 (show (goodB P Q G && elB P Q key) = true from h1)
  have hmo := good_mo hgk.1
  have hP : 2 ≤ P ∧ P ≤ 2000000000 := hmo.1
  have hQr : 0 ≤ Q ∧ Q ≤ 2000000000 := hmo.2
  have hQ2 : 2 ≤ Q := by have := goodB_true.1 hgk.1; omega
  have hG := el_rng (good_el hgk.1)
  have hky := el_rng hgk.2
  clear hgk
  have hvr := (Bool.and_eq_true_iff.1 h2).imp exB_true.1 exB_true.1
  have H1 := Lib.hid h1
  have H2 := Lib.hid h2
  clear h1 h2
  have G_0 := Lib.hid ((gr_at w (w.heap.size) (by simp) P Q G 24).below (ba (w.alloc (.cells #[.int .i64 P, .int .i64 Q, .int .i64 G] 24)) (.cells #[.int .i64 0, .int .i64 0] 26)))
  have R_0 := Lib.hid (c2_at (w.alloc (.cells #[.int .i64 P, .int .i64 Q, .int .i64 G] 24)) (w.heap.size + 1) (by simp) 0 0 26)
  have HB_0 := Lib.hid (show Below w.heap.size w ((w.alloc (.cells #[.int .i64 P, .int .i64 Q, .int .i64 G] 24)).alloc (.cells #[.int .i64 0, .int .i64 0] 26)) from bt (ba _ _) (ba _ _))
  go_enter Try.func50, Try.ntmps50
  go_wp2_with fail
  refine (eKey_any _ _ _ _ _).mono ?_
  rw [H1.out]
  rintro e v1 ⟨rfl, hb⟩
  have HB_1 := Lib.hid (bt HB_0.out hb)
  have G_1 := Lib.hid (G_0.out.below hb)
  have R_1 := Lib.hid (R_0.out.below hb)
  clear hb
  obtain ⟨gG0, gG1, gG2⟩ := G_1.out
  obtain ⟨rR0, rR1, rfR⟩ := R_1.out
  have rfR0 := rfR 0
  have rfR1 := rfR 1
  go_wp2_with fail
  refine (gExps_any P Q G hQr _ 2 2 [v, r] rfl (by decide) _ (ints_lit v1 [v, r] 3)).mono ?_
  rw [(exs_two Q v r).trans H2.out]
  rintro e v2 ⟨rfl, hbl⟩
  have hb := bt (ba v1 (.cells #[.int .i64 v, .int .i64 r] 3)) hbl
  clear hbl
  have HB_2 := Lib.hid (bt HB_1.out hb)
  have G_2 := Lib.hid (G_1.out.below hb)
  have R_2 := Lib.hid (R_1.out.below hb)
  clear hb
  clear gG0 gG1 gG2 rR0 rR1 rfR rfR0 rfR1
  obtain ⟨gG0, gG1, gG2⟩ := G_2.out
  obtain ⟨rR0, rR1, rfR⟩ := R_2.out
  have rfR0 := rfR 0
  have rfR1 := rfR 1
  obtain ⟨y0, y1⟩ := pow_lt G v P hP.1
  go_wp2_with fail
  go_region_held3 (fun w' => w'.cell? ⟨w.heap.size, 0, none⟩ = some (.int .i64 P) ∧ w'.cell? ⟨w.heap.size, 1, none⟩ = some (.int .i64 Q) ∧ w'.cell? ⟨w.heap.size, 2, none⟩ = some (.int .i64 G)) (first | with_reducible exact ⟨x0z, x1z, x2z⟩ | with_reducible exact ⟨x0p, x1p, x2p⟩ | with_reducible exact ⟨gG0, gG1, gG2⟩ | exact ⟨(gr_pair HGz.out (by omega) _ _).1, (gr_pair HGz.out (by omega) _ _).2.1, (gr_pair HGz.out (by omega) _ _).2.2⟩ | exact ⟨gG0, gG1, gG2⟩) ((first
    | (go_at_call 90; refine (gExp_any P Q G G v hG.1 (by omega) hvr.1.1 hvr.1.2 hP.1 hP.2 hQ2 hQr.2 _).mono ?_; rintro e vp ⟨rfl, hp⟩; have HBp := Lib.hid (bt_drop HB_2.out hp); have HGp := Lib.hid (gr_drop G_2.out hp); have HRp := Lib.hid (c2_drop R_2.out hp); clear hp; obtain ⟨x0p, x1p, x2p⟩ := HGp.out; obtain ⟨d0p, d1p, dfp⟩ := HRp.out; have df0p := dfp 0; have df1p := dfp 1; clear dfp)
    | (go_at_call 79; refine (eEnc_any P Q G key (Num.pow G v P) r hP hQ2 hQr.2 hG hky ⟨y0, y1⟩ hvr.2 _).mono ?_; rintro e vz ⟨rfl, hz⟩; have HBz := Lib.hid (bt HBp.out hz); have HGz := Lib.hid (HGp.out.below hz); have HRz := Lib.hid (HRp.out.below hz); clear hz; obtain ⟨x0z, x1z, x2z⟩ := HGz.out; obtain ⟨d0z, d1z, dfz⟩ := HRz.out; have df0z := dfz 0; have df1z := dfz 1; clear dfz)
    | fail))
  all_goals (
    go_wp2
    (try simp only [Exit.inBlock, Exit.then])
    refine bodyPost_ret (v := .tuple #[cv (Num.pow G r P) (Num.pow G v P * Num.pow key r P % P), .bool true]) ?_ rfl ⟨rfl, ?_⟩
    · rw [results_cell_tmp rfl]; go_simp
    · first | exact set_below HBz.out (w.heap.size + 1) (by omega) _ _ | exact set_below HBz.out.drew (w.heap.size + 1) (by omega) _ _)

set_option maxHeartbeats 1600000 in
theorem sDecryptElement_any (P Q G s a b : Int) (w : World) :
    Calls Try.prog 20 #[gv P Q G, .int .i64 s, cv a b] w fun e w' => e = .returned (.tuple #[.int .i64 (decV P Q G s a b), .bool (decB P Q G s a b)]) ∧ Below w.heap.size w w' := by
  cases h1 : goodB P Q G
  · skip
    have e0 : decB P Q G s a b = false := by simp [decB, vcB, h1]
    rw [e0, dec_off e0]
    clear e0
    have H1 := Lib.hid h1
    clear h1
    have G_0 := Lib.hid ((gr_at w (w.heap.size) (by simp) P Q G 24).below (ba (w.alloc (.cells #[.int .i64 P, .int .i64 Q, .int .i64 G] 24)) (.cells #[.int .i64 a, .int .i64 b] 26)))
    have C_0 := Lib.hid (c2_at (w.alloc (.cells #[.int .i64 P, .int .i64 Q, .int .i64 G] 24)) (w.heap.size + 1) (by simp) a b 26)
    have HB_0 := Lib.hid (show Below w.heap.size w ((w.alloc (.cells #[.int .i64 P, .int .i64 Q, .int .i64 G] 24)).alloc (.cells #[.int .i64 a, .int .i64 b] 26)) from bt (ba _ _) (ba _ _))
    go_enter Try.func20, Try.ntmps20
    go_wp2_with fail
    refine (l2Good_any _ _ _ _).mono ?_
    rw [H1.out]
    rintro e v1 ⟨rfl, hb⟩
    have HB_1 := Lib.hid (bt HB_0.out hb)
    have G_1 := Lib.hid (G_0.out.below hb)
    have C_1 := Lib.hid (C_0.out.below hb)
    clear hb
    obtain ⟨gG0, gG1, gG2⟩ := G_1.out
    obtain ⟨cC0, cC1, cfC⟩ := C_1.out
    go_wp2
    go_ret2
    exact ⟨rfl, HB_1.out⟩
  cases h2 : cipB P Q a b
  · skip
    have e0 : decB P Q G s a b = false := by simp [decB, vcB, h2]
    rw [e0, dec_off e0]
    clear e0
    have hmo := good_mo h1
    have hP : 2 ≤ P ∧ P ≤ 2000000000 := hmo.1
    have hQr : 0 ≤ Q ∧ Q ≤ 2000000000 := hmo.2
    have hQ2 : 2 ≤ Q := by have := goodB_true.1 h1; omega
    have hG := el_rng (good_el h1)
    have H1 := Lib.hid h1
    have H2 := Lib.hid h2
    clear h1 h2
    have G_0 := Lib.hid ((gr_at w (w.heap.size) (by simp) P Q G 24).below (ba (w.alloc (.cells #[.int .i64 P, .int .i64 Q, .int .i64 G] 24)) (.cells #[.int .i64 a, .int .i64 b] 26)))
    have C_0 := Lib.hid (c2_at (w.alloc (.cells #[.int .i64 P, .int .i64 Q, .int .i64 G] 24)) (w.heap.size + 1) (by simp) a b 26)
    have HB_0 := Lib.hid (show Below w.heap.size w ((w.alloc (.cells #[.int .i64 P, .int .i64 Q, .int .i64 G] 24)).alloc (.cells #[.int .i64 a, .int .i64 b] 26)) from bt (ba _ _) (ba _ _))
    go_enter Try.func20, Try.ntmps20
    go_wp2_with fail
    refine (l2Good_any _ _ _ _).mono ?_
    rw [H1.out]
    rintro e v1 ⟨rfl, hb⟩
    have HB_1 := Lib.hid (bt HB_0.out hb)
    have G_1 := Lib.hid (G_0.out.below hb)
    have C_1 := Lib.hid (C_0.out.below hb)
    clear hb
    obtain ⟨gG0, gG1, gG2⟩ := G_1.out
    obtain ⟨cC0, cC1, cfC⟩ := C_1.out
    go_wp2_with fail
    refine (eGood_any P Q G hmo _ 1 1 [a, b] rfl (by decide) _ (ints_lit v1 [a, b] 26)).mono ?_
    rw [(cs_one P Q a b).trans H2.out]
    rintro e v2 ⟨rfl, hbl⟩
    have hb := bt (ba v1 (.cells #[.int .i64 a, .int .i64 b] 26)) hbl
    clear hbl
    have HB_2 := Lib.hid (bt HB_1.out hb)
    have G_2 := Lib.hid (G_1.out.below hb)
    have C_2 := Lib.hid (C_1.out.below hb)
    clear hb
    clear gG0 gG1 gG2 cC0 cC1 cfC
    obtain ⟨gG0, gG1, gG2⟩ := G_2.out
    obtain ⟨cC0, cC1, cfC⟩ := C_2.out
    go_wp2
    go_ret2
    exact ⟨rfl, HB_2.out⟩
  cases h3 : exB Q s
  · skip
    have e0 : decB P Q G s a b = false := by simp [decB, vcB, h3]
    rw [e0, dec_off e0]
    clear e0
    have hmo := good_mo h1
    have hP : 2 ≤ P ∧ P ≤ 2000000000 := hmo.1
    have hQr : 0 ≤ Q ∧ Q ≤ 2000000000 := hmo.2
    have hQ2 : 2 ≤ Q := by have := goodB_true.1 h1; omega
    have hG := el_rng (good_el h1)
    have hcp := Bool.and_eq_true_iff.1 (show (elB P Q a && elB P Q b) = true from h2)
    have ha := el_rng hcp.1
    have hbb := el_rng hcp.2
    clear hcp
    have H1 := Lib.hid h1
    have H2 := Lib.hid h2
    have H3 := Lib.hid h3
    clear h1 h2 h3
    have G_0 := Lib.hid ((gr_at w (w.heap.size) (by simp) P Q G 24).below (ba (w.alloc (.cells #[.int .i64 P, .int .i64 Q, .int .i64 G] 24)) (.cells #[.int .i64 a, .int .i64 b] 26)))
    have C_0 := Lib.hid (c2_at (w.alloc (.cells #[.int .i64 P, .int .i64 Q, .int .i64 G] 24)) (w.heap.size + 1) (by simp) a b 26)
    have HB_0 := Lib.hid (show Below w.heap.size w ((w.alloc (.cells #[.int .i64 P, .int .i64 Q, .int .i64 G] 24)).alloc (.cells #[.int .i64 a, .int .i64 b] 26)) from bt (ba _ _) (ba _ _))
    go_enter Try.func20, Try.ntmps20
    go_wp2_with fail
    refine (l2Good_any _ _ _ _).mono ?_
    rw [H1.out]
    rintro e v1 ⟨rfl, hb⟩
    have HB_1 := Lib.hid (bt HB_0.out hb)
    have G_1 := Lib.hid (G_0.out.below hb)
    have C_1 := Lib.hid (C_0.out.below hb)
    clear hb
    obtain ⟨gG0, gG1, gG2⟩ := G_1.out
    obtain ⟨cC0, cC1, cfC⟩ := C_1.out
    go_wp2_with fail
    refine (eGood_any P Q G hmo _ 1 1 [a, b] rfl (by decide) _ (ints_lit v1 [a, b] 26)).mono ?_
    rw [(cs_one P Q a b).trans H2.out]
    rintro e v2 ⟨rfl, hbl⟩
    have hb := bt (ba v1 (.cells #[.int .i64 a, .int .i64 b] 26)) hbl
    clear hbl
    have HB_2 := Lib.hid (bt HB_1.out hb)
    have G_2 := Lib.hid (G_1.out.below hb)
    have C_2 := Lib.hid (C_1.out.below hb)
    clear hb
    clear gG0 gG1 gG2 cC0 cC1 cfC
    obtain ⟨gG0, gG1, gG2⟩ := G_2.out
    obtain ⟨cC0, cC1, cfC⟩ := C_2.out
    go_wp2_with fail
    refine (gExps_any P Q G hQr _ 1 1 [s] rfl (by decide) _ (ints_lit v2 [s] 3)).mono ?_
    rw [(exs_one Q s).trans H3.out]
    rintro e v3 ⟨rfl, hbl⟩
    have hb := bt (ba v2 (.cells #[.int .i64 s] 3)) hbl
    clear hbl
    have HB_3 := Lib.hid (bt HB_2.out hb)
    have G_3 := Lib.hid (G_2.out.below hb)
    have C_3 := Lib.hid (C_2.out.below hb)
    clear hb
    clear gG0 gG1 gG2 cC0 cC1 cfC
    obtain ⟨gG0, gG1, gG2⟩ := G_3.out
    obtain ⟨cC0, cC1, cfC⟩ := C_3.out
    go_wp2
    go_ret2
    exact ⟨rfl, HB_3.out⟩
  have e0 : decB P Q G s a b = true := by simp [decB, vcB, h1, h2, h3]
  rw [e0, dec_on e0]
  clear e0
  have hmo := good_mo h1
  have hP : 2 ≤ P ∧ P ≤ 2000000000 := hmo.1
  have hQr : 0 ≤ Q ∧ Q ≤ 2000000000 := hmo.2
  have hQ2 : 2 ≤ Q := by have := goodB_true.1 h1; omega
  have hG := el_rng (good_el h1)
  have hcp := Bool.and_eq_true_iff.1 (show (elB P Q a && elB P Q b) = true from h2)
  have ha := el_rng hcp.1
  have hbb := el_rng hcp.2
  clear hcp
  have hr := exB_true.1 h3
  have H1 := Lib.hid h1
  have H2 := Lib.hid h2
  have H3 := Lib.hid h3
  clear h1 h2 h3
  have G_0 := Lib.hid ((gr_at w (w.heap.size) (by simp) P Q G 24).below (ba (w.alloc (.cells #[.int .i64 P, .int .i64 Q, .int .i64 G] 24)) (.cells #[.int .i64 a, .int .i64 b] 26)))
  have C_0 := Lib.hid (c2_at (w.alloc (.cells #[.int .i64 P, .int .i64 Q, .int .i64 G] 24)) (w.heap.size + 1) (by simp) a b 26)
  have HB_0 := Lib.hid (show Below w.heap.size w ((w.alloc (.cells #[.int .i64 P, .int .i64 Q, .int .i64 G] 24)).alloc (.cells #[.int .i64 a, .int .i64 b] 26)) from bt (ba _ _) (ba _ _))
  go_enter Try.func20, Try.ntmps20
  go_wp2_with fail
  refine (l2Good_any _ _ _ _).mono ?_
  rw [H1.out]
  rintro e v1 ⟨rfl, hb⟩
  have HB_1 := Lib.hid (bt HB_0.out hb)
  have G_1 := Lib.hid (G_0.out.below hb)
  have C_1 := Lib.hid (C_0.out.below hb)
  clear hb
  obtain ⟨gG0, gG1, gG2⟩ := G_1.out
  obtain ⟨cC0, cC1, cfC⟩ := C_1.out
  go_wp2_with fail
  refine (eGood_any P Q G hmo _ 1 1 [a, b] rfl (by decide) _ (ints_lit v1 [a, b] 26)).mono ?_
  rw [(cs_one P Q a b).trans H2.out]
  rintro e v2 ⟨rfl, hbl⟩
  have hb := bt (ba v1 (.cells #[.int .i64 a, .int .i64 b] 26)) hbl
  clear hbl
  have HB_2 := Lib.hid (bt HB_1.out hb)
  have G_2 := Lib.hid (G_1.out.below hb)
  have C_2 := Lib.hid (C_1.out.below hb)
  clear hb
  clear gG0 gG1 gG2 cC0 cC1 cfC
  obtain ⟨gG0, gG1, gG2⟩ := G_2.out
  obtain ⟨cC0, cC1, cfC⟩ := C_2.out
  go_wp2_with fail
  refine (gExps_any P Q G hQr _ 1 1 [s] rfl (by decide) _ (ints_lit v2 [s] 3)).mono ?_
  rw [(exs_one Q s).trans H3.out]
  rintro e v3 ⟨rfl, hbl⟩
  have hb := bt (ba v2 (.cells #[.int .i64 s] 3)) hbl
  clear hbl
  have HB_3 := Lib.hid (bt HB_2.out hb)
  have G_3 := Lib.hid (G_2.out.below hb)
  have C_3 := Lib.hid (C_2.out.below hb)
  clear hb
  clear gG0 gG1 gG2 cC0 cC1 cfC
  obtain ⟨gG0, gG1, gG2⟩ := G_3.out
  obtain ⟨cC0, cC1, cfC⟩ := C_3.out
  go_wp2_with fail
  refine (eDec_any P Q G s a b hP hQ2 hQr.2 ha hbb hr _).mono ?_
  rintro e v4 ⟨rfl, hb⟩
  have HB_4 := Lib.hid (bt HB_3.out hb)
  have G_4 := Lib.hid (G_3.out.below hb)
  have C_4 := Lib.hid (C_3.out.below hb)
  clear hb
  clear gG0 gG1 gG2 cC0 cC1 cfC
  obtain ⟨gG0, gG1, gG2⟩ := G_4.out
  obtain ⟨cC0, cC1, cfC⟩ := C_4.out
  go_wp2
  go_ret2
  exact ⟨rfl, HB_4.out⟩

theorem gLog_any (P Q G b x most : Int) (h : logC P Q G b x most = true) (w : World) :
    Calls Try.prog 95 #[gv P Q G, .int .i64 b, .int .i64 x, .int .i64 most] w fun e w' => e = .returned (.tuple #[.int .i64 (logV P Q G b x most), .bool (logB P Q G b x most)]) ∧ Below w.heap.size w w' := by
  obtain ⟨p, q, g, b', x', m, rfl, rfl, rfl, rfl, rfl, rfl, k1, k2, k3, k4, k5, k6, k7, k8⟩ := log_nat h
  have e1 : logV p q g b' x' m = optV (Num.lgs p b' x' (m + 1)) := by unfold logV logR; rw [h]; rfl
  have e2 : logB p q g b' x' m = optB (Num.lgs p b' x' (m + 1)) := by unfold logB logR; rw [h]; rfl
  rw [e1, e2]
  exact gLog_nat p q g b' x' m k1 k2 k5 k6 k7 w
theorem dx_logC {P Q G s a b most : Int} (h : decB P Q G s a b = true) (hm : inB most 0 1000000 = true) : logC P Q G G (decW P Q a b s) most = true := by
  unfold decB vcB cipB at h
  simp only [Bool.and_eq_true] at h
  obtain ⟨⟨hg, ha, hb⟩, hs⟩ := h
  exact logC_true.2 ⟨inB_true.1 hm, hg, good_el hg, dec_el hg ha hb (exB_true.1 hs).1⟩
theorem dx_most {P Q G s a b most : Int} (h : decB P Q G s a b = true) (hm : inB most 0 1000000 = false) : dxB P Q G s a b most = false ∧ dxV P Q G s a b most = 0 := by
  have hc : logC P Q G G (decW P Q a b s) most = false := by unfold logC; rw [hm]; rfl
  obtain ⟨e1, e2⟩ := log_off hc
  obtain ⟨f1, f2⟩ := dx_on (most := most) h
  rw [f1, f2, e1, e2]; exact ⟨rfl, rfl⟩

set_option maxHeartbeats 1600000 in
theorem sDecryptExp_any (P Q G s a b most : Int) (w : World) :
    Calls Try.prog 33 #[gv P Q G, .int .i64 s, cv a b, .int .i64 most] w fun e w' => e = .returned (.tuple #[.int .i64 (dxV P Q G s a b most), .bool (dxB P Q G s a b most)]) ∧ Below w.heap.size w w' := by
  cases h1 : decB P Q G s a b
  · obtain ⟨e0, e1⟩ := dx_off (most := most) h1
    have HV := Lib.hid (dec_off h1)
    rw [e0, e1]
    have H1 := Lib.hid h1
    clear e0 e1 h1
    have G_0 := Lib.hid ((gr_at w (w.heap.size) (by simp) P Q G 24).below (ba (w.alloc (.cells #[.int .i64 P, .int .i64 Q, .int .i64 G] 24)) (.cells #[.int .i64 a, .int .i64 b] 26)))
    have C_0 := Lib.hid (c2_at (w.alloc (.cells #[.int .i64 P, .int .i64 Q, .int .i64 G] 24)) (w.heap.size + 1) (by simp) a b 26)
    have HB_0 := Lib.hid (show Below w.heap.size w ((w.alloc (.cells #[.int .i64 P, .int .i64 Q, .int .i64 G] 24)).alloc (.cells #[.int .i64 a, .int .i64 b] 26)) from bt (ba _ _) (ba _ _))
    go_enter Try.func33, Try.ntmps33
    go_wp2_with fail
    refine (sDecryptElement_any P Q G s a b _).mono ?_
    rw [H1.out, HV.out]
    rintro e v1 ⟨rfl, hb⟩
    have HB_1 := Lib.hid (bt HB_0.out hb)
    have G_1 := Lib.hid (G_0.out.below hb)
    have C_1 := Lib.hid (C_0.out.below hb)
    clear hb
    obtain ⟨gG0, gG1, gG2⟩ := G_1.out
    obtain ⟨cC0, cC1, cfC⟩ := C_1.out
    go_wp2
    go_ret2
    exact ⟨rfl, HB_1.out⟩
  cases h2 : inB most 0 1000000
  · obtain ⟨e0, e1⟩ := dx_most h1 h2
    have HV := Lib.hid (dec_on h1)
    rw [e0, e1]
    have H1 := Lib.hid h1
    have H2 := Lib.hid h2
    clear e0 e1 h1 h2
    have G_0 := Lib.hid ((gr_at w (w.heap.size) (by simp) P Q G 24).below (ba (w.alloc (.cells #[.int .i64 P, .int .i64 Q, .int .i64 G] 24)) (.cells #[.int .i64 a, .int .i64 b] 26)))
    have C_0 := Lib.hid (c2_at (w.alloc (.cells #[.int .i64 P, .int .i64 Q, .int .i64 G] 24)) (w.heap.size + 1) (by simp) a b 26)
    have HB_0 := Lib.hid (show Below w.heap.size w ((w.alloc (.cells #[.int .i64 P, .int .i64 Q, .int .i64 G] 24)).alloc (.cells #[.int .i64 a, .int .i64 b] 26)) from bt (ba _ _) (ba _ _))
    go_enter Try.func33, Try.ntmps33
    go_wp2_with fail
    refine (sDecryptElement_any P Q G s a b _).mono ?_
    rw [H1.out, HV.out]
    rintro e v1 ⟨rfl, hb⟩
    have HB_1 := Lib.hid (bt HB_0.out hb)
    have G_1 := Lib.hid (G_0.out.below hb)
    have C_1 := Lib.hid (C_0.out.below hb)
    clear hb
    obtain ⟨gG0, gG1, gG2⟩ := G_1.out
    obtain ⟨cC0, cC1, cfC⟩ := C_1.out
    go_wp2_with fail
    refine (l1In_any _ _ _ _).mono ?_; rintro e w' ⟨rfl, rfl⟩; rw [H2.out]
    go_wp2
    go_ret2
    exact ⟨rfl, HB_1.out⟩
  · obtain ⟨e0, e1⟩ := dx_on (most := most) h1
    have HV := Lib.hid (dec_on h1)
    have HC := Lib.hid (dx_logC h1 h2)
    rw [e0, e1]
    have H1 := Lib.hid h1
    have H2 := Lib.hid h2
    clear e0 e1 h1 h2
    have G_0 := Lib.hid ((gr_at w (w.heap.size) (by simp) P Q G 24).below (ba (w.alloc (.cells #[.int .i64 P, .int .i64 Q, .int .i64 G] 24)) (.cells #[.int .i64 a, .int .i64 b] 26)))
    have C_0 := Lib.hid (c2_at (w.alloc (.cells #[.int .i64 P, .int .i64 Q, .int .i64 G] 24)) (w.heap.size + 1) (by simp) a b 26)
    have HB_0 := Lib.hid (show Below w.heap.size w ((w.alloc (.cells #[.int .i64 P, .int .i64 Q, .int .i64 G] 24)).alloc (.cells #[.int .i64 a, .int .i64 b] 26)) from bt (ba _ _) (ba _ _))
    go_enter Try.func33, Try.ntmps33
    go_wp2_with fail
    refine (sDecryptElement_any P Q G s a b _).mono ?_
    rw [H1.out, HV.out]
    rintro e v1 ⟨rfl, hb⟩
    have HB_1 := Lib.hid (bt HB_0.out hb)
    have G_1 := Lib.hid (G_0.out.below hb)
    have C_1 := Lib.hid (C_0.out.below hb)
    clear hb
    obtain ⟨gG0, gG1, gG2⟩ := G_1.out
    obtain ⟨cC0, cC1, cfC⟩ := C_1.out
    go_wp2_with fail
    refine (l1In_any _ _ _ _).mono ?_; rintro e w' ⟨rfl, rfl⟩; rw [H2.out]
    go_wp2_with fail
    refine (gLog_any P Q G G (decW P Q a b s) most HC.out _).mono ?_
    rintro e v2 ⟨rfl, hb⟩
    have HB_2 := Lib.hid (bt HB_1.out hb)
    have G_2 := Lib.hid (G_1.out.below hb)
    have C_2 := Lib.hid (C_1.out.below hb)
    clear hb
    clear gG0 gG1 gG2 cC0 cC1 cfC
    obtain ⟨gG0, gG1, gG2⟩ := G_2.out
    obtain ⟨cC0, cC1, cfC⟩ := C_2.out
    go_wp2
    go_ret2
    exact ⟨rfl, HB_2.out⟩

end Go.Proofs.Ytmihnohnfdjcaaa

