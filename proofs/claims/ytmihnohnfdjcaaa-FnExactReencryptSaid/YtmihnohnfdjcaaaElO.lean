/- ElGamal: the reference's Reencrypt, MulCiphers, CipherSum, WeightedProduct, ReencryptAll. -/
import Derived.Test.YtmihnohnfdjcaaaElN
namespace Go.Proofs.Ytmihnohnfdjcaaa
open Go.RowKit


theorem re_parts (P Q G key a b r : Int) : reB P Q G key a b r = (kgB P Q G key && cipB P Q a b && exB Q r) := by
  unfold reB encB kgB
  cases hg : goodB P Q G
  · simp
  rw [one_el hg]
  cases elB P Q key <;> cases cipB P Q a b <;> cases exB Q r <;> rfl

set_option maxHeartbeats 1600000 in
theorem sReencrypt_any (P Q G key a b r : Int) (w : World) :
    Calls Try.prog 52 #[gv P Q G, .int .i64 key, cv a b, .int .i64 r] w fun e w' => e = .returned (.tuple #[cv (rrA P Q G key a b r) (rrM P Q G key a b r), .bool (reB P Q G key a b r)]) ∧ Below w.heap.size w w' := by
  cases h1 : kgB P Q G key
  · skip
    have e0 : reB P Q G key a b r = false := by simp [re_parts, h1]
    obtain ⟨e1, e2⟩ := rr_off e0
    rw [e0, e1, e2]
    clear e0 e1 e2
    have H1 := Lib.hid h1
    clear h1
    have G_0 := Lib.hid (((gr_at w (w.heap.size) (by simp) P Q G 24).below (ba (w.alloc (.cells #[.int .i64 P, .int .i64 Q, .int .i64 G] 24)) (.cells #[.int .i64 a, .int .i64 b] 26))).below (ba ((w.alloc (.cells #[.int .i64 P, .int .i64 Q, .int .i64 G] 24)).alloc (.cells #[.int .i64 a, .int .i64 b] 26)) (.cells #[.int .i64 0, .int .i64 0] 26)))
    have C_0 := Lib.hid ((c2_at (w.alloc (.cells #[.int .i64 P, .int .i64 Q, .int .i64 G] 24)) (w.heap.size + 1) (by simp) a b 26).below (ba ((w.alloc (.cells #[.int .i64 P, .int .i64 Q, .int .i64 G] 24)).alloc (.cells #[.int .i64 a, .int .i64 b] 26)) (.cells #[.int .i64 0, .int .i64 0] 26)))
    have R_0 := Lib.hid (c2_at ((w.alloc (.cells #[.int .i64 P, .int .i64 Q, .int .i64 G] 24)).alloc (.cells #[.int .i64 a, .int .i64 b] 26)) (w.heap.size + 1 + 1) (by simp) 0 0 26)
    have HB_0 := Lib.hid (show Below w.heap.size w (((w.alloc (.cells #[.int .i64 P, .int .i64 Q, .int .i64 G] 24)).alloc (.cells #[.int .i64 a, .int .i64 b] 26)).alloc (.cells #[.int .i64 0, .int .i64 0] 26)) from bt (bt (ba _ _) (ba _ _)) (ba _ _))
    go_enter Try.func52, Try.ntmps52
    go_wp2_with fail
    refine (eKey_any _ _ _ _ _).mono ?_
    rw [H1.out]
    rintro e v1 ⟨rfl, hb⟩
    have HB_1 := Lib.hid (bt HB_0.out hb)
    have G_1 := Lib.hid (G_0.out.below hb)
    have C_1 := Lib.hid (C_0.out.below hb)
    have R_1 := Lib.hid (R_0.out.below hb)
    clear hb
    obtain ⟨gG0, gG1, gG2⟩ := G_1.out
    obtain ⟨cC0, cC1, cfC⟩ := C_1.out
    obtain ⟨rR0, rR1, rfR⟩ := R_1.out
    have rfR0 := rfR 0
    have rfR1 := rfR 1
    go_wp2
    (try simp only [Exit.inBlock, Exit.then])
    refine bodyPost_ret (v := .tuple #[cv 0 0, .bool false]) ?_ rfl ⟨rfl, ?_⟩
    · rw [results_cell_tmp rfl]; go_simp
    · first | exact HB_1.out | exact set_below HB_1.out (w.heap.size + 1 + 1) (by omega) _ _
  cases h2 : cipB P Q a b
  · skip
    have e0 : reB P Q G key a b r = false := by simp [re_parts, h2]
    obtain ⟨e1, e2⟩ := rr_off e0
    rw [e0, e1, e2]
    clear e0 e1 e2
    have hgk := Bool.and_eq_true_iff.1 (show (goodB P Q G && elB P Q key) = true from h1)
    have hgd := hgk.1
    have hmo := good_mo hgk.1
    have hP : 2 ≤ P ∧ P ≤ 2000000000 := hmo.1
    have hQr : 0 ≤ Q ∧ Q ≤ 2000000000 := hmo.2
    have hQ2 : 2 ≤ Q := by have := goodB_true.1 hgk.1; omega
    have hG := el_rng (good_el hgk.1)
    have hky := el_rng hgk.2
    clear hgk hgd
    have H1 := Lib.hid h1
    have H2 := Lib.hid h2
    clear h1 h2
    have G_0 := Lib.hid (((gr_at w (w.heap.size) (by simp) P Q G 24).below (ba (w.alloc (.cells #[.int .i64 P, .int .i64 Q, .int .i64 G] 24)) (.cells #[.int .i64 a, .int .i64 b] 26))).below (ba ((w.alloc (.cells #[.int .i64 P, .int .i64 Q, .int .i64 G] 24)).alloc (.cells #[.int .i64 a, .int .i64 b] 26)) (.cells #[.int .i64 0, .int .i64 0] 26)))
    have C_0 := Lib.hid ((c2_at (w.alloc (.cells #[.int .i64 P, .int .i64 Q, .int .i64 G] 24)) (w.heap.size + 1) (by simp) a b 26).below (ba ((w.alloc (.cells #[.int .i64 P, .int .i64 Q, .int .i64 G] 24)).alloc (.cells #[.int .i64 a, .int .i64 b] 26)) (.cells #[.int .i64 0, .int .i64 0] 26)))
    have R_0 := Lib.hid (c2_at ((w.alloc (.cells #[.int .i64 P, .int .i64 Q, .int .i64 G] 24)).alloc (.cells #[.int .i64 a, .int .i64 b] 26)) (w.heap.size + 1 + 1) (by simp) 0 0 26)
    have HB_0 := Lib.hid (show Below w.heap.size w (((w.alloc (.cells #[.int .i64 P, .int .i64 Q, .int .i64 G] 24)).alloc (.cells #[.int .i64 a, .int .i64 b] 26)).alloc (.cells #[.int .i64 0, .int .i64 0] 26)) from bt (bt (ba _ _) (ba _ _)) (ba _ _))
    go_enter Try.func52, Try.ntmps52
    go_wp2_with fail
    refine (eKey_any _ _ _ _ _).mono ?_
    rw [H1.out]
    rintro e v1 ⟨rfl, hb⟩
    have HB_1 := Lib.hid (bt HB_0.out hb)
    have G_1 := Lib.hid (G_0.out.below hb)
    have C_1 := Lib.hid (C_0.out.below hb)
    have R_1 := Lib.hid (R_0.out.below hb)
    clear hb
    obtain ⟨gG0, gG1, gG2⟩ := G_1.out
    obtain ⟨cC0, cC1, cfC⟩ := C_1.out
    obtain ⟨rR0, rR1, rfR⟩ := R_1.out
    have rfR0 := rfR 0
    have rfR1 := rfR 1
    go_wp2_with fail
    refine (eGood_any P Q G hmo _ 1 1 [a, b] rfl (by decide) _ (ints_lit v1 [a, b] 26)).mono ?_
    rw [(cs_one P Q a b).trans H2.out]
    rintro e v2 ⟨rfl, hbl⟩
    have hb := bt (ba v1 (.cells #[.int .i64 a, .int .i64 b] 26)) hbl
    clear hbl
    have HB_2 := Lib.hid (bt HB_1.out hb)
    have G_2 := Lib.hid (G_1.out.below hb)
    have C_2 := Lib.hid (C_1.out.below hb)
    have R_2 := Lib.hid (R_1.out.below hb)
    clear hb
    clear gG0 gG1 gG2 cC0 cC1 cfC rR0 rR1 rfR rfR0 rfR1
    obtain ⟨gG0, gG1, gG2⟩ := G_2.out
    obtain ⟨cC0, cC1, cfC⟩ := C_2.out
    obtain ⟨rR0, rR1, rfR⟩ := R_2.out
    have rfR0 := rfR 0
    have rfR1 := rfR 1
    go_wp2
    (try simp only [Exit.inBlock, Exit.then])
    refine bodyPost_ret (v := .tuple #[cv 0 0, .bool false]) ?_ rfl ⟨rfl, ?_⟩
    · rw [results_cell_tmp rfl]; go_simp
    · first | exact HB_2.out | exact set_below HB_2.out (w.heap.size + 1 + 1) (by omega) _ _
  cases h3 : exB Q r
  · skip
    have e0 : reB P Q G key a b r = false := by simp [re_parts, h3]
    obtain ⟨e1, e2⟩ := rr_off e0
    rw [e0, e1, e2]
    clear e0 e1 e2
    have hgk := Bool.and_eq_true_iff.1 (show (goodB P Q G && elB P Q key) = true from h1)
    have hgd := hgk.1
    have hmo := good_mo hgk.1
    have hP : 2 ≤ P ∧ P ≤ 2000000000 := hmo.1
    have hQr : 0 ≤ Q ∧ Q ≤ 2000000000 := hmo.2
    have hQ2 : 2 ≤ Q := by have := goodB_true.1 hgk.1; omega
    have hG := el_rng (good_el hgk.1)
    have hky := el_rng hgk.2
    clear hgk hgd
    have hcp := Bool.and_eq_true_iff.1 (show (elB P Q a && elB P Q b) = true from h2)
    have ha := el_rng hcp.1
    have hbb := el_rng hcp.2
    clear hcp
    have H1 := Lib.hid h1
    have H2 := Lib.hid h2
    have H3 := Lib.hid h3
    clear h1 h2 h3
    have G_0 := Lib.hid (((gr_at w (w.heap.size) (by simp) P Q G 24).below (ba (w.alloc (.cells #[.int .i64 P, .int .i64 Q, .int .i64 G] 24)) (.cells #[.int .i64 a, .int .i64 b] 26))).below (ba ((w.alloc (.cells #[.int .i64 P, .int .i64 Q, .int .i64 G] 24)).alloc (.cells #[.int .i64 a, .int .i64 b] 26)) (.cells #[.int .i64 0, .int .i64 0] 26)))
    have C_0 := Lib.hid ((c2_at (w.alloc (.cells #[.int .i64 P, .int .i64 Q, .int .i64 G] 24)) (w.heap.size + 1) (by simp) a b 26).below (ba ((w.alloc (.cells #[.int .i64 P, .int .i64 Q, .int .i64 G] 24)).alloc (.cells #[.int .i64 a, .int .i64 b] 26)) (.cells #[.int .i64 0, .int .i64 0] 26)))
    have R_0 := Lib.hid (c2_at ((w.alloc (.cells #[.int .i64 P, .int .i64 Q, .int .i64 G] 24)).alloc (.cells #[.int .i64 a, .int .i64 b] 26)) (w.heap.size + 1 + 1) (by simp) 0 0 26)
    have HB_0 := Lib.hid (show Below w.heap.size w (((w.alloc (.cells #[.int .i64 P, .int .i64 Q, .int .i64 G] 24)).alloc (.cells #[.int .i64 a, .int .i64 b] 26)).alloc (.cells #[.int .i64 0, .int .i64 0] 26)) from bt (bt (ba _ _) (ba _ _)) (ba _ _))
    go_enter Try.func52, Try.ntmps52
    go_wp2_with fail
    refine (eKey_any _ _ _ _ _).mono ?_
    rw [H1.out]
    rintro e v1 ⟨rfl, hb⟩
    have HB_1 := Lib.hid (bt HB_0.out hb)
    have G_1 := Lib.hid (G_0.out.below hb)
    have C_1 := Lib.hid (C_0.out.below hb)
    have R_1 := Lib.hid (R_0.out.below hb)
    clear hb
    obtain ⟨gG0, gG1, gG2⟩ := G_1.out
    obtain ⟨cC0, cC1, cfC⟩ := C_1.out
    obtain ⟨rR0, rR1, rfR⟩ := R_1.out
    have rfR0 := rfR 0
    have rfR1 := rfR 1
    go_wp2_with fail
    refine (eGood_any P Q G hmo _ 1 1 [a, b] rfl (by decide) _ (ints_lit v1 [a, b] 26)).mono ?_
    rw [(cs_one P Q a b).trans H2.out]
    rintro e v2 ⟨rfl, hbl⟩
    have hb := bt (ba v1 (.cells #[.int .i64 a, .int .i64 b] 26)) hbl
    clear hbl
    have HB_2 := Lib.hid (bt HB_1.out hb)
    have G_2 := Lib.hid (G_1.out.below hb)
    have C_2 := Lib.hid (C_1.out.below hb)
    have R_2 := Lib.hid (R_1.out.below hb)
    clear hb
    clear gG0 gG1 gG2 cC0 cC1 cfC rR0 rR1 rfR rfR0 rfR1
    obtain ⟨gG0, gG1, gG2⟩ := G_2.out
    obtain ⟨cC0, cC1, cfC⟩ := C_2.out
    obtain ⟨rR0, rR1, rfR⟩ := R_2.out
    have rfR0 := rfR 0
    have rfR1 := rfR 1
    go_wp2_with fail
    refine (gExps_any P Q G hQr _ 1 1 [r] rfl (by decide) _ (ints_lit v2 [r] 3)).mono ?_
    rw [(exs_one Q r).trans H3.out]
    rintro e v3 ⟨rfl, hbl⟩
    have hb := bt (ba v2 (.cells #[.int .i64 r] 3)) hbl
    clear hbl
    have HB_3 := Lib.hid (bt HB_2.out hb)
    have G_3 := Lib.hid (G_2.out.below hb)
    have C_3 := Lib.hid (C_2.out.below hb)
    have R_3 := Lib.hid (R_2.out.below hb)
    clear hb
    clear gG0 gG1 gG2 cC0 cC1 cfC rR0 rR1 rfR rfR0 rfR1
    obtain ⟨gG0, gG1, gG2⟩ := G_3.out
    obtain ⟨cC0, cC1, cfC⟩ := C_3.out
    obtain ⟨rR0, rR1, rfR⟩ := R_3.out
    have rfR0 := rfR 0
    have rfR1 := rfR 1
    go_wp2
    (try simp only [Exit.inBlock, Exit.then])
    refine bodyPost_ret (v := .tuple #[cv 0 0, .bool false]) ?_ rfl ⟨rfl, ?_⟩
    · rw [results_cell_tmp rfl]; go_simp
    · first | exact HB_3.out | exact set_below HB_3.out (w.heap.size + 1 + 1) (by omega) _ _
  have e0 : reB P Q G key a b r = true := by simp [re_parts, h1, h2, h3]
  obtain ⟨e1, e2⟩ := rr_on e0
  rw [e0, e1, e2]
  clear e0 e1 e2
  have hgk := Bool.and_eq_true_iff.1 (show (goodB P Q G && elB P Q key) = true from h1)
  have hgd := hgk.1
  have hmo := good_mo hgk.1
  have hP : 2 ≤ P ∧ P ≤ 2000000000 := hmo.1
  have hQr : 0 ≤ Q ∧ Q ≤ 2000000000 := hmo.2
  have hQ2 : 2 ≤ Q := by have := goodB_true.1 hgk.1; omega
  have hG := el_rng (good_el hgk.1)
  have hky := el_rng hgk.2
  clear hgk hgd
  have hcp := Bool.and_eq_true_iff.1 (show (elB P Q a && elB P Q b) = true from h2)
  have ha := el_rng hcp.1
  have hbb := el_rng hcp.2
  clear hcp
  have hr := exB_true.1 h3
  have H1 := Lib.hid h1
  have H2 := Lib.hid h2
  have H3 := Lib.hid h3
  clear h1 h2 h3
  have G_0 := Lib.hid (((gr_at w (w.heap.size) (by simp) P Q G 24).below (ba (w.alloc (.cells #[.int .i64 P, .int .i64 Q, .int .i64 G] 24)) (.cells #[.int .i64 a, .int .i64 b] 26))).below (ba ((w.alloc (.cells #[.int .i64 P, .int .i64 Q, .int .i64 G] 24)).alloc (.cells #[.int .i64 a, .int .i64 b] 26)) (.cells #[.int .i64 0, .int .i64 0] 26)))
  have C_0 := Lib.hid ((c2_at (w.alloc (.cells #[.int .i64 P, .int .i64 Q, .int .i64 G] 24)) (w.heap.size + 1) (by simp) a b 26).below (ba ((w.alloc (.cells #[.int .i64 P, .int .i64 Q, .int .i64 G] 24)).alloc (.cells #[.int .i64 a, .int .i64 b] 26)) (.cells #[.int .i64 0, .int .i64 0] 26)))
  have R_0 := Lib.hid (c2_at ((w.alloc (.cells #[.int .i64 P, .int .i64 Q, .int .i64 G] 24)).alloc (.cells #[.int .i64 a, .int .i64 b] 26)) (w.heap.size + 1 + 1) (by simp) 0 0 26)
  have HB_0 := Lib.hid (show Below w.heap.size w (((w.alloc (.cells #[.int .i64 P, .int .i64 Q, .int .i64 G] 24)).alloc (.cells #[.int .i64 a, .int .i64 b] 26)).alloc (.cells #[.int .i64 0, .int .i64 0] 26)) from bt (bt (ba _ _) (ba _ _)) (ba _ _))
  go_enter Try.func52, Try.ntmps52
  go_wp2_with fail
  refine (eKey_any _ _ _ _ _).mono ?_
  rw [H1.out]
  rintro e v1 ⟨rfl, hb⟩
  have HB_1 := Lib.hid (bt HB_0.out hb)
  have G_1 := Lib.hid (G_0.out.below hb)
  have C_1 := Lib.hid (C_0.out.below hb)
  have R_1 := Lib.hid (R_0.out.below hb)
  clear hb
  obtain ⟨gG0, gG1, gG2⟩ := G_1.out
  obtain ⟨cC0, cC1, cfC⟩ := C_1.out
  obtain ⟨rR0, rR1, rfR⟩ := R_1.out
  have rfR0 := rfR 0
  have rfR1 := rfR 1
  go_wp2_with fail
  refine (eGood_any P Q G hmo _ 1 1 [a, b] rfl (by decide) _ (ints_lit v1 [a, b] 26)).mono ?_
  rw [(cs_one P Q a b).trans H2.out]
  rintro e v2 ⟨rfl, hbl⟩
  have hb := bt (ba v1 (.cells #[.int .i64 a, .int .i64 b] 26)) hbl
  clear hbl
  have HB_2 := Lib.hid (bt HB_1.out hb)
  have G_2 := Lib.hid (G_1.out.below hb)
  have C_2 := Lib.hid (C_1.out.below hb)
  have R_2 := Lib.hid (R_1.out.below hb)
  clear hb
  clear gG0 gG1 gG2 cC0 cC1 cfC rR0 rR1 rfR rfR0 rfR1
  obtain ⟨gG0, gG1, gG2⟩ := G_2.out
  obtain ⟨cC0, cC1, cfC⟩ := C_2.out
  obtain ⟨rR0, rR1, rfR⟩ := R_2.out
  have rfR0 := rfR 0
  have rfR1 := rfR 1
  go_wp2_with fail
  refine (gExps_any P Q G hQr _ 1 1 [r] rfl (by decide) _ (ints_lit v2 [r] 3)).mono ?_
  rw [(exs_one Q r).trans H3.out]
  rintro e v3 ⟨rfl, hbl⟩
  have hb := bt (ba v2 (.cells #[.int .i64 r] 3)) hbl
  clear hbl
  have HB_3 := Lib.hid (bt HB_2.out hb)
  have G_3 := Lib.hid (G_2.out.below hb)
  have C_3 := Lib.hid (C_2.out.below hb)
  have R_3 := Lib.hid (R_2.out.below hb)
  clear hb
  clear gG0 gG1 gG2 cC0 cC1 cfC rR0 rR1 rfR rfR0 rfR1
  obtain ⟨gG0, gG1, gG2⟩ := G_3.out
  obtain ⟨cC0, cC1, cfC⟩ := C_3.out
  obtain ⟨rR0, rR1, rfR⟩ := R_3.out
  have rfR0 := rfR 0
  have rfR1 := rfR 1
  go_wp2_with fail
  refine (eRe_any P Q G key a b r hP hQ2 hQr.2 hG hky ha hbb hr _).mono ?_
  rintro e v4 ⟨rfl, hb⟩
  have HB_4 := Lib.hid (bt HB_3.out hb)
  have G_4 := Lib.hid (G_3.out.below hb)
  have C_4 := Lib.hid (C_3.out.below hb)
  have R_4 := Lib.hid (R_3.out.below hb)
  clear hb
  clear gG0 gG1 gG2 cC0 cC1 cfC rR0 rR1 rfR rfR0 rfR1
  obtain ⟨gG0, gG1, gG2⟩ := G_4.out
  obtain ⟨cC0, cC1, cfC⟩ := C_4.out
  obtain ⟨rR0, rR1, rfR⟩ := R_4.out
  have rfR0 := rfR 0
  have rfR1 := rfR 1
  go_wp2
  (try simp only [Exit.inBlock, Exit.then])
  refine bodyPost_ret (v := .tuple #[cv (reA P G a r) (reM P key b r), .bool true]) ?_ rfl ⟨rfl, ?_⟩
  · rw [results_cell_tmp rfl]; go_simp
  · first | exact HB_4.out | exact set_below HB_4.out (w.heap.size + 1 + 1) (by omega) _ _

set_option maxHeartbeats 1600000 in
theorem sMulCiphers_any (P Q G : Int) (ad : Option Addr) (n cap : Nat) (zs : List Int) (hn : zs.length = n * 2) (hl : n ≤ 2000000) (w : World) (hz : IsInts w ad zs) :
    Calls Try.prog 61 #[gv P Q G, .slice ad n cap] w fun e w' => e = .returned (.tuple #[cv (mcA P Q G zs) (mcM P Q G zs), .bool (mcB P Q G zs)]) ∧ Below w.heap.size w w' := by
  have HN := Lib.hid hn
  clear hn
  cases h1 : goodB P Q G
  · skip
    have e0 : mcB P Q G zs = false := by simp [mcB, h1]
    obtain ⟨e1, e2⟩ := mc_off e0
    rw [e0, e1, e2]
    clear e0 e1 e2
    have H1 := Lib.hid h1
    clear h1
    have G_0 := Lib.hid ((gr_at w (w.heap.size) (by simp) P Q G 24).below (ba (w.alloc (.cells #[.int .i64 P, .int .i64 Q, .int .i64 G] 24)) (.cells #[.int .i64 0, .int .i64 0] 26)))
    have R_0 := Lib.hid (c2_at (w.alloc (.cells #[.int .i64 P, .int .i64 Q, .int .i64 G] 24)) (w.heap.size + 1) (by simp) 0 0 26)
    have HB_0 := Lib.hid (show Below w.heap.size w ((w.alloc (.cells #[.int .i64 P, .int .i64 Q, .int .i64 G] 24)).alloc (.cells #[.int .i64 0, .int .i64 0] 26)) from bt (ba _ _) (ba _ _))
    have Z_0 := Lib.hid (hz.below HB_0.out (Nat.le_refl _))
    go_enter Try.func61, Try.ntmps61
    go_wp2_with fail
    refine (l2Good_any _ _ _ _).mono ?_
    rw [H1.out]
    rintro e v1 ⟨rfl, hb⟩
    have HB_1 := Lib.hid (bt HB_0.out hb)
    have G_1 := Lib.hid (G_0.out.below hb)
    have R_1 := Lib.hid (R_0.out.below hb)
    have Z_1 := Lib.hid (Z_0.out.below hb (Nat.le_refl _))
    clear hb
    obtain ⟨gG0, gG1, gG2⟩ := G_1.out
    obtain ⟨rR0, rR1, rfR⟩ := R_1.out
    have rfR0 := rfR 0
    have rfR1 := rfR 1
    go_wp2
    (try simp only [Exit.inBlock, Exit.then])
    refine bodyPost_ret (v := .tuple #[cv 0 0, .bool false]) ?_ rfl ⟨rfl, ?_⟩
    · rw [results_cell_tmp rfl]; go_simp
    · first | exact HB_1.out | exact set_below HB_1.out (w.heap.size + 1) (by omega) _ _
  cases h2 : csB P Q zs
  · skip
    have e0 : mcB P Q G zs = false := by simp [mcB, h2]
    obtain ⟨e1, e2⟩ := mc_off e0
    rw [e0, e1, e2]
    clear e0 e1 e2
    have hmo := good_mo h1
    have hP : 2 ≤ P ∧ P ≤ 2000000000 := hmo.1
    have hQr : 0 ≤ Q ∧ Q ≤ 2000000000 := hmo.2
    have hQ2 : 2 ≤ Q := by have := goodB_true.1 h1; omega
    have hG := el_rng (good_el h1)
    have H1 := Lib.hid h1
    have H2 := Lib.hid h2
    clear h1 h2
    have G_0 := Lib.hid ((gr_at w (w.heap.size) (by simp) P Q G 24).below (ba (w.alloc (.cells #[.int .i64 P, .int .i64 Q, .int .i64 G] 24)) (.cells #[.int .i64 0, .int .i64 0] 26)))
    have R_0 := Lib.hid (c2_at (w.alloc (.cells #[.int .i64 P, .int .i64 Q, .int .i64 G] 24)) (w.heap.size + 1) (by simp) 0 0 26)
    have HB_0 := Lib.hid (show Below w.heap.size w ((w.alloc (.cells #[.int .i64 P, .int .i64 Q, .int .i64 G] 24)).alloc (.cells #[.int .i64 0, .int .i64 0] 26)) from bt (ba _ _) (ba _ _))
    have Z_0 := Lib.hid (hz.below HB_0.out (Nat.le_refl _))
    go_enter Try.func61, Try.ntmps61
    go_wp2_with fail
    refine (l2Good_any _ _ _ _).mono ?_
    rw [H1.out]
    rintro e v1 ⟨rfl, hb⟩
    have HB_1 := Lib.hid (bt HB_0.out hb)
    have G_1 := Lib.hid (G_0.out.below hb)
    have R_1 := Lib.hid (R_0.out.below hb)
    have Z_1 := Lib.hid (Z_0.out.below hb (Nat.le_refl _))
    clear hb
    obtain ⟨gG0, gG1, gG2⟩ := G_1.out
    obtain ⟨rR0, rR1, rfR⟩ := R_1.out
    have rfR0 := rfR 0
    have rfR1 := rfR 1
    go_wp2_with fail
    refine (eGood_any P Q G hmo _ _ _ zs HN.out (by omega) _ Z_1.out).mono ?_
    rw [H2.out]
    rintro e v2 ⟨rfl, hb⟩
    have HB_2 := Lib.hid (bt HB_1.out hb)
    have G_2 := Lib.hid (G_1.out.below hb)
    have R_2 := Lib.hid (R_1.out.below hb)
    have Z_2 := Lib.hid (Z_1.out.below hb (Nat.le_refl _))
    clear hb
    clear gG0 gG1 gG2 rR0 rR1 rfR rfR0 rfR1
    obtain ⟨gG0, gG1, gG2⟩ := G_2.out
    obtain ⟨rR0, rR1, rfR⟩ := R_2.out
    have rfR0 := rfR 0
    have rfR1 := rfR 1
    go_wp2
    (try simp only [Exit.inBlock, Exit.then])
    refine bodyPost_ret (v := .tuple #[cv 0 0, .bool false]) ?_ rfl ⟨rfl, ?_⟩
    · rw [results_cell_tmp rfl]; go_simp
    · first | exact HB_2.out | exact set_below HB_2.out (w.heap.size + 1) (by omega) _ _
  have e0 : mcB P Q G zs = true := by simp [mcB, h1, h2]
  obtain ⟨e1, e2⟩ := mc_on e0
  rw [e0, e1, e2]
  clear e0 e1 e2
  have hmo := good_mo h1
  have hP : 2 ≤ P ∧ P ≤ 2000000000 := hmo.1
  have hQr : 0 ≤ Q ∧ Q ≤ 2000000000 := hmo.2
  have hQ2 : 2 ≤ Q := by have := goodB_true.1 h1; omega
  have hG := el_rng (good_el h1)
  have HCR := Lib.hid (cs_rng h2).2
  have H1 := Lib.hid h1
  have H2 := Lib.hid h2
  clear h1 h2
  have G_0 := Lib.hid ((gr_at w (w.heap.size) (by simp) P Q G 24).below (ba (w.alloc (.cells #[.int .i64 P, .int .i64 Q, .int .i64 G] 24)) (.cells #[.int .i64 0, .int .i64 0] 26)))
  have R_0 := Lib.hid (c2_at (w.alloc (.cells #[.int .i64 P, .int .i64 Q, .int .i64 G] 24)) (w.heap.size + 1) (by simp) 0 0 26)
  have HB_0 := Lib.hid (show Below w.heap.size w ((w.alloc (.cells #[.int .i64 P, .int .i64 Q, .int .i64 G] 24)).alloc (.cells #[.int .i64 0, .int .i64 0] 26)) from bt (ba _ _) (ba _ _))
  have Z_0 := Lib.hid (hz.below HB_0.out (Nat.le_refl _))
  go_enter Try.func61, Try.ntmps61
  go_wp2_with fail
  refine (l2Good_any _ _ _ _).mono ?_
  rw [H1.out]
  rintro e v1 ⟨rfl, hb⟩
  have HB_1 := Lib.hid (bt HB_0.out hb)
  have G_1 := Lib.hid (G_0.out.below hb)
  have R_1 := Lib.hid (R_0.out.below hb)
  have Z_1 := Lib.hid (Z_0.out.below hb (Nat.le_refl _))
  clear hb
  obtain ⟨gG0, gG1, gG2⟩ := G_1.out
  obtain ⟨rR0, rR1, rfR⟩ := R_1.out
  have rfR0 := rfR 0
  have rfR1 := rfR 1
  go_wp2_with fail
  refine (eGood_any P Q G hmo _ _ _ zs HN.out (by omega) _ Z_1.out).mono ?_
  rw [H2.out]
  rintro e v2 ⟨rfl, hb⟩
  have HB_2 := Lib.hid (bt HB_1.out hb)
  have G_2 := Lib.hid (G_1.out.below hb)
  have R_2 := Lib.hid (R_1.out.below hb)
  have Z_2 := Lib.hid (Z_1.out.below hb (Nat.le_refl _))
  clear hb
  clear gG0 gG1 gG2 rR0 rR1 rfR rfR0 rfR1
  obtain ⟨gG0, gG1, gG2⟩ := G_2.out
  obtain ⟨rR0, rR1, rfR⟩ := R_2.out
  have rfR0 := rfR 0
  have rfR1 := rfR 1
  go_wp2_with fail
  refine (eMul_any P Q G hP.1 hP.2 _ _ _ zs HN.out hl HCR.out _ Z_2.out).mono ?_
  rintro e v3 ⟨rfl, hb⟩
  have HB_3 := Lib.hid (bt HB_2.out hb)
  have G_3 := Lib.hid (G_2.out.below hb)
  have R_3 := Lib.hid (R_2.out.below hb)
  have Z_3 := Lib.hid (Z_2.out.below hb (Nat.le_refl _))
  clear hb
  clear gG0 gG1 gG2 rR0 rR1 rfR rfR0 rfR1
  obtain ⟨gG0, gG1, gG2⟩ := G_3.out
  obtain ⟨rR0, rR1, rfR⟩ := R_3.out
  have rfR0 := rfR 0
  have rfR1 := rfR 1
  go_wp2
  (try simp only [Exit.inBlock, Exit.then])
  refine bodyPost_ret (v := .tuple #[cv (mulFrom P 1 (evens zs)) (mulFrom P 1 (odds zs)), .bool true]) ?_ rfl ⟨rfl, ?_⟩
  · rw [results_cell_tmp rfl]; go_simp
  · first | exact HB_3.out | exact set_below HB_3.out (w.heap.size + 1) (by omega) _ _

theorem sCipherSum_any (P Q G : Int) (ad : Option Addr) (n cap : Nat) (zs : List Int) (hn : zs.length = n * 2) (hl : n ≤ 2000000) (w : World) (hz : IsInts w ad zs) :
    Calls Try.prog 62 #[gv P Q G, .slice ad n cap] w fun e w' => e = .returned (.tuple #[cv (suA P Q G zs) (suM P Q G zs), .bool (suB P Q G zs)]) ∧ Below w.heap.size w w' := by
  by_cases h0 : n = 0
  · have e0 : suB P Q G zs = false := by simp [suB, hn, h0]
    have e1 : suA P Q G zs = 0 := by simp [suA, hn, h0]
    have e2 : suM P Q G zs = 0 := by simp [suM, hn, h0]
    rw [e0, e1, e2]
    subst h0
    clear e0 e1 e2 hn
    have G_0 := Lib.hid ((gr_at w (w.heap.size) (by simp) P Q G 24).below (ba (w.alloc (.cells #[.int .i64 P, .int .i64 Q, .int .i64 G] 24)) (.cells #[.int .i64 0, .int .i64 0] 26)))
    have R_0 := Lib.hid (c2_at (w.alloc (.cells #[.int .i64 P, .int .i64 Q, .int .i64 G] 24)) (w.heap.size + 1) (by simp) 0 0 26)
    have HB_0 := Lib.hid (show Below w.heap.size w ((w.alloc (.cells #[.int .i64 P, .int .i64 Q, .int .i64 G] 24)).alloc (.cells #[.int .i64 0, .int .i64 0] 26)) from bt (ba _ _) (ba _ _))
    go_enter Try.func62, Try.ntmps62
    go_wp2
    (try simp only [Exit.inBlock, Exit.then])
    refine bodyPost_ret (v := .tuple #[cv 0 0, .bool false]) ?_ rfl ⟨rfl, ?_⟩
    · rw [results_cell_tmp rfl]; go_simp
    · first | exact HB_0.out | exact set_below HB_0.out (w.heap.size + 1) (by omega) _ _
  · have e0 : suB P Q G zs = mcB P Q G zs := by unfold suB; rw [decide_eq_true (by omega)]; rfl
    have e1 : suA P Q G zs = mcA P Q G zs := by unfold suA; rw [if_neg (by omega)]
    have e2 : suM P Q G zs = mcM P Q G zs := by unfold suM; rw [if_neg (by omega)]
    rw [e0, e1, e2]
    have HN := Lib.hid hn
    have hni : ¬ (n : Int) = 0 := by omega
    have hnb : ((n : Int) == 0) = false := by simp; omega
    clear e0 e1 e2 hn
    have G_0 := Lib.hid ((gr_at w (w.heap.size) (by simp) P Q G 24).below (ba (w.alloc (.cells #[.int .i64 P, .int .i64 Q, .int .i64 G] 24)) (.cells #[.int .i64 0, .int .i64 0] 26)))
    have R_0 := Lib.hid (c2_at (w.alloc (.cells #[.int .i64 P, .int .i64 Q, .int .i64 G] 24)) (w.heap.size + 1) (by simp) 0 0 26)
    have HB_0 := Lib.hid (show Below w.heap.size w ((w.alloc (.cells #[.int .i64 P, .int .i64 Q, .int .i64 G] 24)).alloc (.cells #[.int .i64 0, .int .i64 0] 26)) from bt (ba _ _) (ba _ _))
    go_enter Try.func62, Try.ntmps62
    have Z_0 := Lib.hid (hz.below HB_0.out (Nat.le_refl _))
    go_wp2_with fail
    refine (sMulCiphers_any P Q G _ _ _ zs HN.out hl _ Z_0.out).mono ?_
    rintro e v1 ⟨rfl, hb⟩
    have HB_1 := Lib.hid (bt HB_0.out hb)
    have G_1 := Lib.hid (G_0.out.below hb)
    have R_1 := Lib.hid (R_0.out.below hb)
    have Z_1 := Lib.hid (Z_0.out.below hb (Nat.le_refl _))
    clear hb
    obtain ⟨gG0, gG1, gG2⟩ := G_1.out
    obtain ⟨rR0, rR1, rfR⟩ := R_1.out
    have rfR0 := rfR 0
    have rfR1 := rfR 1
    go_wp2
    (try simp only [Exit.inBlock, Exit.then])
    refine bodyPost_ret (v := .tuple #[cv (mcA P Q G zs) (mcM P Q G zs), .bool (mcB P Q G zs)]) ?_ rfl ⟨rfl, ?_⟩
    · rw [results_cell_tmp rfl]; go_simp
    · first | exact HB_1.out | exact set_below HB_1.out (w.heap.size + 1) (by omega) _ _

theorem wp_iff (P Q G : Int) (zs es : List Int) : wpB P Q G zs es = (goodB P Q G && csB P Q zs && decide (zs.length = es.length * 2) && allIn es 0 (Q - 1)) := rfl

set_option maxHeartbeats 3200000 in
theorem sWeightedProduct_any (P Q G : Int) (ad ad' : Option Addr) (n n' cap cap' : Nat) (zs es : List Int) (hn : zs.length = n * 2) (hn' : es.length = n') (hl : n ≤ 2000000) (hl' : n' ≤ 2000000) (w : World) (hz : IsInts w ad zs) (hz' : IsInts w ad' es) :
    Calls Try.prog 30 #[gv P Q G, .slice ad n cap, .slice ad' n' cap'] w fun e w' => e = .returned (.tuple #[cv (wpA P Q G zs es) (wpM P Q G zs es), .bool (wpB P Q G zs es)]) ∧ Below w.heap.size w w' := by
  have HN := Lib.hid hn
  have HN' := Lib.hid hn'
  have HZ0 := Lib.hid hz
  have HE0 := Lib.hid hz'
  clear hz hz'
  cases h1 : goodB P Q G
  · skip
    have e0 : wpB P Q G zs es = false := by simp [wp_iff, h1]
    obtain ⟨e1, e2⟩ := wp_off e0
    rw [e0, e1, e2]
    clear e0 e1 e2
    have H1 := Lib.hid h1
    clear hn hn' h1
    have G_0 := Lib.hid ((gr_at w (w.heap.size) (by simp) P Q G 24).below (ba (w.alloc (.cells #[.int .i64 P, .int .i64 Q, .int .i64 G] 24)) (.cells #[.int .i64 0, .int .i64 0] 26)))
    have R_0 := Lib.hid (c2_at (w.alloc (.cells #[.int .i64 P, .int .i64 Q, .int .i64 G] 24)) (w.heap.size + 1) (by simp) 0 0 26)
    have HB_0 := Lib.hid (show Below w.heap.size w ((w.alloc (.cells #[.int .i64 P, .int .i64 Q, .int .i64 G] 24)).alloc (.cells #[.int .i64 0, .int .i64 0] 26)) from bt (ba _ _) (ba _ _))
    have Z_0 := Lib.hid (HZ0.out.below HB_0.out (Nat.le_refl _))
    have E_0 := Lib.hid (HE0.out.below HB_0.out (Nat.le_refl _))
    go_enter Try.func30, Try.ntmps30
    go_wp2_with fail
    refine (l2Good_any _ _ _ _).mono ?_
    rw [H1.out]
    rintro e v1 ⟨rfl, hb⟩
    have HB_1 := Lib.hid (bt HB_0.out hb)
    have G_1 := Lib.hid (G_0.out.below hb)
    have R_1 := Lib.hid (R_0.out.below hb)
    have Z_1 := Lib.hid (Z_0.out.below hb (Nat.le_refl _))
    have E_1 := Lib.hid (E_0.out.below hb (Nat.le_refl _))
    clear hb
    obtain ⟨gG0, gG1, gG2⟩ := G_1.out
    obtain ⟨rR0, rR1, rfR⟩ := R_1.out
    have rfR0 := rfR 0
    have rfR1 := rfR 1
    go_wp2
    (try simp only [Exit.inBlock, Exit.then])
    refine bodyPost_ret (v := .tuple #[cv 0 0, .bool false]) ?_ rfl ⟨rfl, ?_⟩
    · rw [results_cell_tmp rfl]; go_simp
    · first | exact HB_1.out | exact set_below HB_1.out (w.heap.size + 1) (by omega) _ _
  cases h2 : csB P Q zs
  · skip
    have e0 : wpB P Q G zs es = false := by simp [wp_iff, h2]
    obtain ⟨e1, e2⟩ := wp_off e0
    rw [e0, e1, e2]
    clear e0 e1 e2
    have hmo := good_mo h1
    have hP : 2 ≤ P ∧ P ≤ 2000000000 := hmo.1
    have hQr : 0 ≤ Q ∧ Q ≤ 2000000000 := hmo.2
    have hQ2 : 2 ≤ Q := by have := goodB_true.1 h1; omega
    have hG := el_rng (good_el h1)
    have H1 := Lib.hid h1
    have H2 := Lib.hid h2
    clear hn hn' h1 h2
    have G_0 := Lib.hid ((gr_at w (w.heap.size) (by simp) P Q G 24).below (ba (w.alloc (.cells #[.int .i64 P, .int .i64 Q, .int .i64 G] 24)) (.cells #[.int .i64 0, .int .i64 0] 26)))
    have R_0 := Lib.hid (c2_at (w.alloc (.cells #[.int .i64 P, .int .i64 Q, .int .i64 G] 24)) (w.heap.size + 1) (by simp) 0 0 26)
    have HB_0 := Lib.hid (show Below w.heap.size w ((w.alloc (.cells #[.int .i64 P, .int .i64 Q, .int .i64 G] 24)).alloc (.cells #[.int .i64 0, .int .i64 0] 26)) from bt (ba _ _) (ba _ _))
    have Z_0 := Lib.hid (HZ0.out.below HB_0.out (Nat.le_refl _))
    have E_0 := Lib.hid (HE0.out.below HB_0.out (Nat.le_refl _))
    go_enter Try.func30, Try.ntmps30
    go_wp2_with fail
    refine (l2Good_any _ _ _ _).mono ?_
    rw [H1.out]
    rintro e v1 ⟨rfl, hb⟩
    have HB_1 := Lib.hid (bt HB_0.out hb)
    have G_1 := Lib.hid (G_0.out.below hb)
    have R_1 := Lib.hid (R_0.out.below hb)
    have Z_1 := Lib.hid (Z_0.out.below hb (Nat.le_refl _))
    have E_1 := Lib.hid (E_0.out.below hb (Nat.le_refl _))
    clear hb
    obtain ⟨gG0, gG1, gG2⟩ := G_1.out
    obtain ⟨rR0, rR1, rfR⟩ := R_1.out
    have rfR0 := rfR 0
    have rfR1 := rfR 1
    go_wp2_with fail
    refine (eGood_any P Q G hmo _ _ _ zs HN.out (by omega) _ Z_1.out).mono ?_
    rw [H2.out]
    rintro e v2 ⟨rfl, hb⟩
    have HB_2 := Lib.hid (bt HB_1.out hb)
    have G_2 := Lib.hid (G_1.out.below hb)
    have R_2 := Lib.hid (R_1.out.below hb)
    have Z_2 := Lib.hid (Z_1.out.below hb (Nat.le_refl _))
    have E_2 := Lib.hid (E_1.out.below hb (Nat.le_refl _))
    clear hb
    clear gG0 gG1 gG2 rR0 rR1 rfR rfR0 rfR1
    obtain ⟨gG0, gG1, gG2⟩ := G_2.out
    obtain ⟨rR0, rR1, rfR⟩ := R_2.out
    have rfR0 := rfR 0
    have rfR1 := rfR 1
    go_wp2
    (try simp only [Exit.inBlock, Exit.then])
    refine bodyPost_ret (v := .tuple #[cv 0 0, .bool false]) ?_ rfl ⟨rfl, ?_⟩
    · rw [results_cell_tmp rfl]; go_simp
    · first | exact HB_2.out | exact set_below HB_2.out (w.heap.size + 1) (by omega) _ _
  by_cases h9 : ¬ n' = n
  · skip
    have e0 : wpB P Q G zs es = false := by rw [wp_iff, decide_eq_false (show ¬ zs.length = es.length * 2 by omega)]; simp
    obtain ⟨e1, e2⟩ := wp_off e0
    rw [e0, e1, e2]
    clear e0 e1 e2
    have hmo := good_mo h1
    have hP : 2 ≤ P ∧ P ≤ 2000000000 := hmo.1
    have hQr : 0 ≤ Q ∧ Q ≤ 2000000000 := hmo.2
    have hQ2 : 2 ≤ Q := by have := goodB_true.1 h1; omega
    have hG := el_rng (good_el h1)
    have HCR := Lib.hid (cs_rng h2)
    have H1 := Lib.hid h1
    have H2 := Lib.hid h2
    have hnn : ((n' : Int) != (n : Int)) = true := by simp; omega
    have hni : ¬ (n' : Int) = (n : Int) := by omega
    clear hn hn' h1 h2
    have G_0 := Lib.hid ((gr_at w (w.heap.size) (by simp) P Q G 24).below (ba (w.alloc (.cells #[.int .i64 P, .int .i64 Q, .int .i64 G] 24)) (.cells #[.int .i64 0, .int .i64 0] 26)))
    have R_0 := Lib.hid (c2_at (w.alloc (.cells #[.int .i64 P, .int .i64 Q, .int .i64 G] 24)) (w.heap.size + 1) (by simp) 0 0 26)
    have HB_0 := Lib.hid (show Below w.heap.size w ((w.alloc (.cells #[.int .i64 P, .int .i64 Q, .int .i64 G] 24)).alloc (.cells #[.int .i64 0, .int .i64 0] 26)) from bt (ba _ _) (ba _ _))
    have Z_0 := Lib.hid (HZ0.out.below HB_0.out (Nat.le_refl _))
    have E_0 := Lib.hid (HE0.out.below HB_0.out (Nat.le_refl _))
    go_enter Try.func30, Try.ntmps30
    go_wp2_with fail
    refine (l2Good_any _ _ _ _).mono ?_
    rw [H1.out]
    rintro e v1 ⟨rfl, hb⟩
    have HB_1 := Lib.hid (bt HB_0.out hb)
    have G_1 := Lib.hid (G_0.out.below hb)
    have R_1 := Lib.hid (R_0.out.below hb)
    have Z_1 := Lib.hid (Z_0.out.below hb (Nat.le_refl _))
    have E_1 := Lib.hid (E_0.out.below hb (Nat.le_refl _))
    clear hb
    obtain ⟨gG0, gG1, gG2⟩ := G_1.out
    obtain ⟨rR0, rR1, rfR⟩ := R_1.out
    have rfR0 := rfR 0
    have rfR1 := rfR 1
    go_wp2_with fail
    refine (eGood_any P Q G hmo _ _ _ zs HN.out (by omega) _ Z_1.out).mono ?_
    rw [H2.out]
    rintro e v2 ⟨rfl, hb⟩
    have HB_2 := Lib.hid (bt HB_1.out hb)
    have G_2 := Lib.hid (G_1.out.below hb)
    have R_2 := Lib.hid (R_1.out.below hb)
    have Z_2 := Lib.hid (Z_1.out.below hb (Nat.le_refl _))
    have E_2 := Lib.hid (E_1.out.below hb (Nat.le_refl _))
    clear hb
    clear gG0 gG1 gG2 rR0 rR1 rfR rfR0 rfR1
    obtain ⟨gG0, gG1, gG2⟩ := G_2.out
    obtain ⟨rR0, rR1, rfR⟩ := R_2.out
    have rfR0 := rfR 0
    have rfR1 := rfR 1
    go_wp2
    (try simp only [Exit.inBlock, Exit.then])
    refine bodyPost_ret (v := .tuple #[cv 0 0, .bool false]) ?_ rfl ⟨rfl, ?_⟩
    · rw [results_cell_tmp rfl]; go_simp
    · first | exact HB_2.out | exact set_below HB_2.out (w.heap.size + 1) (by omega) _ _
  have h9 := Decidable.not_not.1 h9
  subst h9
  cases h3 : allIn es 0 (Q - 1)
  · skip
    have e0 : wpB P Q G zs es = false := by simp [wp_iff, h3]
    obtain ⟨e1, e2⟩ := wp_off e0
    rw [e0, e1, e2]
    clear e0 e1 e2
    have hmo := good_mo h1
    have hP : 2 ≤ P ∧ P ≤ 2000000000 := hmo.1
    have hQr : 0 ≤ Q ∧ Q ≤ 2000000000 := hmo.2
    have hQ2 : 2 ≤ Q := by have := goodB_true.1 h1; omega
    have hG := el_rng (good_el h1)
    have HCR := Lib.hid (cs_rng h2)
    have H1 := Lib.hid h1
    have H2 := Lib.hid h2
    have H3 := Lib.hid h3
    clear hn hn' h1 h2 h3
    have G_0 := Lib.hid ((gr_at w (w.heap.size) (by simp) P Q G 24).below (ba (w.alloc (.cells #[.int .i64 P, .int .i64 Q, .int .i64 G] 24)) (.cells #[.int .i64 0, .int .i64 0] 26)))
    have R_0 := Lib.hid (c2_at (w.alloc (.cells #[.int .i64 P, .int .i64 Q, .int .i64 G] 24)) (w.heap.size + 1) (by simp) 0 0 26)
    have HB_0 := Lib.hid (show Below w.heap.size w ((w.alloc (.cells #[.int .i64 P, .int .i64 Q, .int .i64 G] 24)).alloc (.cells #[.int .i64 0, .int .i64 0] 26)) from bt (ba _ _) (ba _ _))
    have Z_0 := Lib.hid (HZ0.out.below HB_0.out (Nat.le_refl _))
    have E_0 := Lib.hid (HE0.out.below HB_0.out (Nat.le_refl _))
    go_enter Try.func30, Try.ntmps30
    go_wp2_with fail
    refine (l2Good_any _ _ _ _).mono ?_
    rw [H1.out]
    rintro e v1 ⟨rfl, hb⟩
    have HB_1 := Lib.hid (bt HB_0.out hb)
    have G_1 := Lib.hid (G_0.out.below hb)
    have R_1 := Lib.hid (R_0.out.below hb)
    have Z_1 := Lib.hid (Z_0.out.below hb (Nat.le_refl _))
    have E_1 := Lib.hid (E_0.out.below hb (Nat.le_refl _))
    clear hb
    obtain ⟨gG0, gG1, gG2⟩ := G_1.out
    obtain ⟨rR0, rR1, rfR⟩ := R_1.out
    have rfR0 := rfR 0
    have rfR1 := rfR 1
    go_wp2_with fail
    refine (eGood_any P Q G hmo _ _ _ zs HN.out (by omega) _ Z_1.out).mono ?_
    rw [H2.out]
    rintro e v2 ⟨rfl, hb⟩
    have HB_2 := Lib.hid (bt HB_1.out hb)
    have G_2 := Lib.hid (G_1.out.below hb)
    have R_2 := Lib.hid (R_1.out.below hb)
    have Z_2 := Lib.hid (Z_1.out.below hb (Nat.le_refl _))
    have E_2 := Lib.hid (E_1.out.below hb (Nat.le_refl _))
    clear hb
    clear gG0 gG1 gG2 rR0 rR1 rfR rfR0 rfR1
    obtain ⟨gG0, gG1, gG2⟩ := G_2.out
    obtain ⟨rR0, rR1, rfR⟩ := R_2.out
    have rfR0 := rfR 0
    have rfR1 := rfR 1
    go_wp2_with fail
    refine (gExps_any P Q G hQr _ _ _ es HN'.out (by omega) _ E_2.out).mono ?_
    rw [H3.out]
    rintro e v3 ⟨rfl, hb⟩
    have HB_3 := Lib.hid (bt HB_2.out hb)
    have G_3 := Lib.hid (G_2.out.below hb)
    have R_3 := Lib.hid (R_2.out.below hb)
    have Z_3 := Lib.hid (Z_2.out.below hb (Nat.le_refl _))
    have E_3 := Lib.hid (E_2.out.below hb (Nat.le_refl _))
    clear hb
    clear gG0 gG1 gG2 rR0 rR1 rfR rfR0 rfR1
    obtain ⟨gG0, gG1, gG2⟩ := G_3.out
    obtain ⟨rR0, rR1, rfR⟩ := R_3.out
    have rfR0 := rfR 0
    have rfR1 := rfR 1
    go_wp2
    (try simp only [Exit.inBlock, Exit.then])
    refine bodyPost_ret (v := .tuple #[cv 0 0, .bool false]) ?_ rfl ⟨rfl, ?_⟩
    · rw [results_cell_tmp rfl]; go_simp
    · first | exact HB_3.out | exact set_below HB_3.out (w.heap.size + 1) (by omega) _ _
  have e0 : wpB P Q G zs es = true := by rw [wp_iff, h1, h2, h3, decide_eq_true (by omega)]; rfl
  obtain ⟨e1, e2⟩ := wp_on e0
  rw [e0, e1, e2]
  clear e0 e1 e2
  have hmo := good_mo h1
  have hP : 2 ≤ P ∧ P ≤ 2000000000 := hmo.1
  have hQr : 0 ≤ Q ∧ Q ≤ 2000000000 := hmo.2
  have hQ2 : 2 ≤ Q := by have := goodB_true.1 h1; omega
  have hG := el_rng (good_el h1)
  have HCR := Lib.hid (cs_rng h2)
  have HEX := Lib.hid (exps_iff h3)
  have n24 : n' ≤ 24 := by have := HCR.out.1; have := HN.out; omega
  have H1 := Lib.hid h1
  have H2 := Lib.hid h2
  have H3 := Lib.hid h3
  clear hn hn' h1 h2 h3
  have G_0 := Lib.hid ((gr_at w (w.heap.size) (by simp) P Q G 24).below (ba (w.alloc (.cells #[.int .i64 P, .int .i64 Q, .int .i64 G] 24)) (.cells #[.int .i64 0, .int .i64 0] 26)))
  have R_0 := Lib.hid (c2_at (w.alloc (.cells #[.int .i64 P, .int .i64 Q, .int .i64 G] 24)) (w.heap.size + 1) (by simp) 0 0 26)
  have HB_0 := Lib.hid (show Below w.heap.size w ((w.alloc (.cells #[.int .i64 P, .int .i64 Q, .int .i64 G] 24)).alloc (.cells #[.int .i64 0, .int .i64 0] 26)) from bt (ba _ _) (ba _ _))
  have Z_0 := Lib.hid (HZ0.out.below HB_0.out (Nat.le_refl _))
  have E_0 := Lib.hid (HE0.out.below HB_0.out (Nat.le_refl _))
  go_enter Try.func30, Try.ntmps30
  go_wp2_with fail
  refine (l2Good_any _ _ _ _).mono ?_
  rw [H1.out]
  rintro e v1 ⟨rfl, hb⟩
  have HB_1 := Lib.hid (bt HB_0.out hb)
  have G_1 := Lib.hid (G_0.out.below hb)
  have R_1 := Lib.hid (R_0.out.below hb)
  have Z_1 := Lib.hid (Z_0.out.below hb (Nat.le_refl _))
  have E_1 := Lib.hid (E_0.out.below hb (Nat.le_refl _))
  clear hb
  obtain ⟨gG0, gG1, gG2⟩ := G_1.out
  obtain ⟨rR0, rR1, rfR⟩ := R_1.out
  have rfR0 := rfR 0
  have rfR1 := rfR 1
  go_wp2_with fail
  refine (eGood_any P Q G hmo _ _ _ zs HN.out (by omega) _ Z_1.out).mono ?_
  rw [H2.out]
  rintro e v2 ⟨rfl, hb⟩
  have HB_2 := Lib.hid (bt HB_1.out hb)
  have G_2 := Lib.hid (G_1.out.below hb)
  have R_2 := Lib.hid (R_1.out.below hb)
  have Z_2 := Lib.hid (Z_1.out.below hb (Nat.le_refl _))
  have E_2 := Lib.hid (E_1.out.below hb (Nat.le_refl _))
  clear hb
  clear gG0 gG1 gG2 rR0 rR1 rfR rfR0 rfR1
  obtain ⟨gG0, gG1, gG2⟩ := G_2.out
  obtain ⟨rR0, rR1, rfR⟩ := R_2.out
  have rfR0 := rfR 0
  have rfR1 := rfR 1
  go_wp2_with fail
  refine (gExps_any P Q G hQr _ _ _ es HN'.out (by omega) _ E_2.out).mono ?_
  rw [H3.out]
  rintro e v3 ⟨rfl, hb⟩
  have HB_3 := Lib.hid (bt HB_2.out hb)
  have G_3 := Lib.hid (G_2.out.below hb)
  have R_3 := Lib.hid (R_2.out.below hb)
  have Z_3 := Lib.hid (Z_2.out.below hb (Nat.le_refl _))
  have E_3 := Lib.hid (E_2.out.below hb (Nat.le_refl _))
  clear hb
  clear gG0 gG1 gG2 rR0 rR1 rfR rfR0 rfR1
  obtain ⟨gG0, gG1, gG2⟩ := G_3.out
  obtain ⟨rR0, rR1, rfR⟩ := R_3.out
  have rfR0 := rfR 0
  have rfR1 := rfR 1
  go_wp2_with fail
  refine (eProd_any P Q G hP hQ2 hQr.2 _ _ _ _ _ zs es HN.out HN'.out (by omega) HCR.out.2 HEX.out _ Z_3.out E_3.out).mono ?_
  rintro e v4 ⟨rfl, hb⟩
  have HB_4 := Lib.hid (bt HB_3.out hb)
  have G_4 := Lib.hid (G_3.out.below hb)
  have R_4 := Lib.hid (R_3.out.below hb)
  have Z_4 := Lib.hid (Z_3.out.below hb (Nat.le_refl _))
  have E_4 := Lib.hid (E_3.out.below hb (Nat.le_refl _))
  clear hb
  clear gG0 gG1 gG2 rR0 rR1 rfR rfR0 rfR1
  obtain ⟨gG0, gG1, gG2⟩ := G_4.out
  obtain ⟨rR0, rR1, rfR⟩ := R_4.out
  have rfR0 := rfR 0
  have rfR1 := rfR 1
  go_wp2
  (try simp only [Exit.inBlock, Exit.then])
  refine bodyPost_ret (v := .tuple #[cv (powsFrom P 1 (evens zs) es) (powsFrom P 1 (odds zs) es), .bool true]) ?_ rfl ⟨rfl, ?_⟩
  · rw [results_cell_tmp rfl]; go_simp
  · first | exact HB_4.out | exact set_below HB_4.out (w.heap.size + 1) (by omega) _ _

theorem ra_iff (P Q G key : Int) (zs es : List Int) : raB P Q G key zs es = (kgB P Q G key && csB P Q zs && decide (zs.length = es.length * 2) && allIn es 0 (Q - 1)) := rfl
theorem take_re {P G key : Int} {zs es : List Int} {p q x : Int} {k : Nat} (hd : zs.drop (k * 2) = p :: q :: zs.drop ((k + 1) * 2)) (he : es.drop k = x :: es.drop (k + 1)) :
    (flatRe P G key zs es).take ((k + 1) * 2) = (flatRe P G key zs es).take (k * 2) ++ [reA P G p x, reM P key q x] := by
  have h := re_step2 (P := P) (G := G) (key := key) hd he
  rw [show (k + 1) * 2 = k * 2 + 2 by omega, List.take_add, h]
  rfl
theorem step_append_cip {P : Program} {w : World} {ops : Array Oper} {o : Oper} {a : Act} {K : Act → World → Prop} {Q : Exit → Act → World → Prop} {E : Prop} (hgd : o.guard = none) (s x : Operand) (t : TypeId)
    (ho : o.op = .call { callee := .builtin .append, args := #[s, x], argTypes := #[t, t] })
    (base : Nat) (e : TypeId) (i : TypeInfo) (ht : P.underlying t = some (.slice e)) (hi : P.info? e = some i) (hz : i.zero = some (.agg #[.int .i64 0, .int .i64 0]))
    (hsize : i.size = 2) (hby : i.bytes = 16)
    (v : Value) (n : Nat) (xs : List Int) (hs : a.eval s = v) (hown : w.ownsRow base e 2 v n (xs.map (Value.int .i64)))
    (g : Nat) (p q : Int) (hx : a.eval x = .slice (some ⟨g, 0, none⟩) 1 1) (h0 : w.cell? ⟨g, 0, none⟩ = some (.int .i64 p)) (h1 : w.cell? ⟨g, 1, none⟩ = some (.int .i64 q))
    (h63 : n ≤ 2000000) (hbase : base ≤ w.heap.size)
    (h : ∀ v' w', w'.ownsRow base e 2 v' (n + 1) ((xs ++ [p, q]).map (Value.int .i64)) → w.grownBy w' v.ownBlock → K (a.put o.dst v') w') :
    if Region.wanted o (yielded ops a.tmps) = true then Oper.wp P o a w K Q else E := by
  have hw : Region.wanted o (yielded ops a.tmps) = true := by simp [Region.wanted, hgd]
  rw [if_pos hw]
  refine wp_append_own w s x t ho base e i (.agg #[.int .i64 0, .int .i64 0]) 2 16 ht hi hz hsize hby rfl (by decide) v n (xs.map (Value.int .i64)) hs hown ⟨g, 0, none⟩ 1 1 [.int .i64 p, .int .i64 q] hx rfl ?_ ?_ (by unfold maxLen; omega) (by omega) hbase ?_
  · intro j u hj
    match j, hj with
    | 0, hj => simp at hj; subst hj; exact h0
    | 1, hj => simp at hj; subst hj; exact h1
    | n + 2, hj => simp at hj
  · intro u hu; simp at hu; rcases hu with rfl | rfl <;> rfl
  · intro v' w' k1 k2 _
    refine h v' w' ?_ k2
    rw [List.map_append]
    exact k1

set_option maxRecDepth 100000 in
set_option maxHeartbeats 6400000 in
theorem sReencryptAll_any (P Q G key : Int) (ad ad' : Option Addr) (n n' cap cap' : Nat) (zs es : List Int) (hn : zs.length = n * 2) (hn' : es.length = n') (hl : n ≤ 2000000) (hl' : n' ≤ 2000000) (w : World) (hz : IsInts w ad zs) (hz' : IsInts w ad' es) :
    Calls Try.prog 40 #[gv P Q G, .int .i64 key, .slice ad n cap, .slice ad' n' cap'] w (AnsE w (raV P Q G key zs es) (raB P Q G key zs es)) := by
  have HN := Lib.hid hn
  have HN' := Lib.hid hn'
  have HZ0 := Lib.hid hz
  have HE0 := Lib.hid hz'
  obtain ⟨i0, hi, hz0, hz1, hi2⟩ := info_parts Try.infoCC
  clear hz hz'
  cases h1 : kgB P Q G key
  · skip
    have e0 : raB P Q G key zs es = false := by simp [ra_iff, h1]
    rw [ra_off e0, e0]
    clear e0
    have H1 := Lib.hid h1
    clear hn hn' h1
    have G_0 := Lib.hid (gr_at w (w.heap.size) (by simp) P Q G 24)
    have HB_0 := Lib.hid (show Below w.heap.size w (w.alloc (.cells #[.int .i64 P, .int .i64 Q, .int .i64 G] 24)) from ba _ _)
    have Z_0 := Lib.hid (HZ0.out.below HB_0.out (Nat.le_refl _))
    have E_0 := Lib.hid (HE0.out.below HB_0.out (Nat.le_refl _))
    go_enter Try.func40, Try.ntmps40
    go_wp2_with fail
    refine (eKey_any _ _ _ _ _).mono ?_
    rw [H1.out]
    rintro e v1 ⟨rfl, hb⟩
    have HB_1 := Lib.hid (bt HB_0.out hb)
    have G_1 := Lib.hid (G_0.out.below hb)
    have Z_1 := Lib.hid (Z_0.out.below hb (Nat.le_refl _))
    have E_1 := Lib.hid (E_0.out.below hb (Nat.le_refl _))
    clear hb
    obtain ⟨gG0, gG1, gG2⟩ := G_1.out
    go_wp2
    go_ret2
    exact ansE_nil HB_1.out
  cases h2 : csB P Q zs
  · skip
    have e0 : raB P Q G key zs es = false := by simp [ra_iff, h2]
    rw [ra_off e0, e0]
    clear e0
    have hgk := Bool.and_eq_true_iff.1 (show (goodB P Q G && elB P Q key) = true from h1)
    have hgd := hgk.1
    have hmo := good_mo hgk.1
    have hP : 2 ≤ P ∧ P ≤ 2000000000 := hmo.1
    have hQr : 0 ≤ Q ∧ Q ≤ 2000000000 := hmo.2
    have hQ2 : 2 ≤ Q := by have := goodB_true.1 hgk.1; omega
    have hG := el_rng (good_el hgk.1)
    have hky := el_rng hgk.2
    clear hgk hgd
    have H1 := Lib.hid h1
    have H2 := Lib.hid h2
    clear hn hn' h1 h2
    have G_0 := Lib.hid (gr_at w (w.heap.size) (by simp) P Q G 24)
    have HB_0 := Lib.hid (show Below w.heap.size w (w.alloc (.cells #[.int .i64 P, .int .i64 Q, .int .i64 G] 24)) from ba _ _)
    have Z_0 := Lib.hid (HZ0.out.below HB_0.out (Nat.le_refl _))
    have E_0 := Lib.hid (HE0.out.below HB_0.out (Nat.le_refl _))
    go_enter Try.func40, Try.ntmps40
    go_wp2_with fail
    refine (eKey_any _ _ _ _ _).mono ?_
    rw [H1.out]
    rintro e v1 ⟨rfl, hb⟩
    have HB_1 := Lib.hid (bt HB_0.out hb)
    have G_1 := Lib.hid (G_0.out.below hb)
    have Z_1 := Lib.hid (Z_0.out.below hb (Nat.le_refl _))
    have E_1 := Lib.hid (E_0.out.below hb (Nat.le_refl _))
    clear hb
    obtain ⟨gG0, gG1, gG2⟩ := G_1.out
    go_wp2_with fail
    refine (eGood_any P Q G hmo _ _ _ zs HN.out (by omega) _ Z_1.out).mono ?_
    rw [H2.out]
    rintro e v2 ⟨rfl, hb⟩
    have HB_2 := Lib.hid (bt HB_1.out hb)
    have G_2 := Lib.hid (G_1.out.below hb)
    have Z_2 := Lib.hid (Z_1.out.below hb (Nat.le_refl _))
    have E_2 := Lib.hid (E_1.out.below hb (Nat.le_refl _))
    clear hb
    clear gG0 gG1 gG2
    obtain ⟨gG0, gG1, gG2⟩ := G_2.out
    go_wp2
    go_ret2
    exact ansE_nil HB_2.out
  by_cases h9 : ¬ n' = n
  · skip
    have e0 : raB P Q G key zs es = false := by rw [ra_iff, decide_eq_false (show ¬ zs.length = es.length * 2 by omega)]; simp
    rw [ra_off e0, e0]
    clear e0
    have hgk := Bool.and_eq_true_iff.1 (show (goodB P Q G && elB P Q key) = true from h1)
    have hgd := hgk.1
    have hmo := good_mo hgk.1
    have hP : 2 ≤ P ∧ P ≤ 2000000000 := hmo.1
    have hQr : 0 ≤ Q ∧ Q ≤ 2000000000 := hmo.2
    have hQ2 : 2 ≤ Q := by have := goodB_true.1 hgk.1; omega
    have hG := el_rng (good_el hgk.1)
    have hky := el_rng hgk.2
    clear hgk hgd
    have HCR := Lib.hid (cs_rng h2)
    have H1 := Lib.hid h1
    have H2 := Lib.hid h2
    have hnn : ((n' : Int) != (n : Int)) = true := by simp; omega
    have hni : ¬ (n' : Int) = (n : Int) := by omega
    clear hn hn' h1 h2
    have G_0 := Lib.hid (gr_at w (w.heap.size) (by simp) P Q G 24)
    have HB_0 := Lib.hid (show Below w.heap.size w (w.alloc (.cells #[.int .i64 P, .int .i64 Q, .int .i64 G] 24)) from ba _ _)
    have Z_0 := Lib.hid (HZ0.out.below HB_0.out (Nat.le_refl _))
    have E_0 := Lib.hid (HE0.out.below HB_0.out (Nat.le_refl _))
    go_enter Try.func40, Try.ntmps40
    go_wp2_with fail
    refine (eKey_any _ _ _ _ _).mono ?_
    rw [H1.out]
    rintro e v1 ⟨rfl, hb⟩
    have HB_1 := Lib.hid (bt HB_0.out hb)
    have G_1 := Lib.hid (G_0.out.below hb)
    have Z_1 := Lib.hid (Z_0.out.below hb (Nat.le_refl _))
    have E_1 := Lib.hid (E_0.out.below hb (Nat.le_refl _))
    clear hb
    obtain ⟨gG0, gG1, gG2⟩ := G_1.out
    go_wp2_with fail
    refine (eGood_any P Q G hmo _ _ _ zs HN.out (by omega) _ Z_1.out).mono ?_
    rw [H2.out]
    rintro e v2 ⟨rfl, hb⟩
    have HB_2 := Lib.hid (bt HB_1.out hb)
    have G_2 := Lib.hid (G_1.out.below hb)
    have Z_2 := Lib.hid (Z_1.out.below hb (Nat.le_refl _))
    have E_2 := Lib.hid (E_1.out.below hb (Nat.le_refl _))
    clear hb
    clear gG0 gG1 gG2
    obtain ⟨gG0, gG1, gG2⟩ := G_2.out
    go_wp2
    go_ret2
    exact ansE_nil HB_2.out
  have h9 := Decidable.not_not.1 h9
  subst h9
  cases h3 : allIn es 0 (Q - 1)
  · skip
    have e0 : raB P Q G key zs es = false := by simp [ra_iff, h3]
    rw [ra_off e0, e0]
    clear e0
    have hgk := Bool.and_eq_true_iff.1 (show (goodB P Q G && elB P Q key) = true from h1)
    have hgd := hgk.1
    have hmo := good_mo hgk.1
    have hP : 2 ≤ P ∧ P ≤ 2000000000 := hmo.1
    have hQr : 0 ≤ Q ∧ Q ≤ 2000000000 := hmo.2
    have hQ2 : 2 ≤ Q := by have := goodB_true.1 hgk.1; omega
    have hG := el_rng (good_el hgk.1)
    have hky := el_rng hgk.2
    clear hgk hgd
    have HCR := Lib.hid (cs_rng h2)
    have H1 := Lib.hid h1
    have H2 := Lib.hid h2
    have H3 := Lib.hid h3
    clear hn hn' h1 h2 h3
    have G_0 := Lib.hid (gr_at w (w.heap.size) (by simp) P Q G 24)
    have HB_0 := Lib.hid (show Below w.heap.size w (w.alloc (.cells #[.int .i64 P, .int .i64 Q, .int .i64 G] 24)) from ba _ _)
    have Z_0 := Lib.hid (HZ0.out.below HB_0.out (Nat.le_refl _))
    have E_0 := Lib.hid (HE0.out.below HB_0.out (Nat.le_refl _))
    go_enter Try.func40, Try.ntmps40
    go_wp2_with fail
    refine (eKey_any _ _ _ _ _).mono ?_
    rw [H1.out]
    rintro e v1 ⟨rfl, hb⟩
    have HB_1 := Lib.hid (bt HB_0.out hb)
    have G_1 := Lib.hid (G_0.out.below hb)
    have Z_1 := Lib.hid (Z_0.out.below hb (Nat.le_refl _))
    have E_1 := Lib.hid (E_0.out.below hb (Nat.le_refl _))
    clear hb
    obtain ⟨gG0, gG1, gG2⟩ := G_1.out
    go_wp2_with fail
    refine (eGood_any P Q G hmo _ _ _ zs HN.out (by omega) _ Z_1.out).mono ?_
    rw [H2.out]
    rintro e v2 ⟨rfl, hb⟩
    have HB_2 := Lib.hid (bt HB_1.out hb)
    have G_2 := Lib.hid (G_1.out.below hb)
    have Z_2 := Lib.hid (Z_1.out.below hb (Nat.le_refl _))
    have E_2 := Lib.hid (E_1.out.below hb (Nat.le_refl _))
    clear hb
    clear gG0 gG1 gG2
    obtain ⟨gG0, gG1, gG2⟩ := G_2.out
    go_wp2_with fail
    refine (gExps_any P Q G hQr _ _ _ es HN'.out (by omega) _ E_2.out).mono ?_
    rw [H3.out]
    rintro e v3 ⟨rfl, hb⟩
    have HB_3 := Lib.hid (bt HB_2.out hb)
    have G_3 := Lib.hid (G_2.out.below hb)
    have Z_3 := Lib.hid (Z_2.out.below hb (Nat.le_refl _))
    have E_3 := Lib.hid (E_2.out.below hb (Nat.le_refl _))
    clear hb
    clear gG0 gG1 gG2
    obtain ⟨gG0, gG1, gG2⟩ := G_3.out
    go_wp2
    go_ret2
    exact ansE_nil HB_3.out
  have e0 : raB P Q G key zs es = true := by rw [ra_iff, h1, h2, h3, decide_eq_true (by omega)]; rfl
  rw [ra_on e0, e0]
  clear e0
  have HFL := Lib.hid (flatRe_length P G key es zs (by omega))
  have hgk := Bool.and_eq_true_iff.1 (show (goodB P Q G && elB P Q key) = true from h1)
  have hgd := hgk.1
  have hmo := good_mo hgk.1
  have hP : 2 ≤ P ∧ P ≤ 2000000000 := hmo.1
  have hQr : 0 ≤ Q ∧ Q ≤ 2000000000 := hmo.2
  have hQ2 : 2 ≤ Q := by have := goodB_true.1 hgk.1; omega
  have hG := el_rng (good_el hgk.1)
  have hky := el_rng hgk.2
  clear hgk hgd
  have HCR := Lib.hid (cs_rng h2)
  have HEX := Lib.hid (exps_iff h3)
  have n24 : n' ≤ 24 := by have := HCR.out.1; have := HN.out; omega
  have H1 := Lib.hid h1
  have H2 := Lib.hid h2
  have H3 := Lib.hid h3
  clear hn hn' h1 h2 h3
  have G_0 := Lib.hid (gr_at w (w.heap.size) (by simp) P Q G 24)
  have HB_0 := Lib.hid (show Below w.heap.size w (w.alloc (.cells #[.int .i64 P, .int .i64 Q, .int .i64 G] 24)) from ba _ _)
  have Z_0 := Lib.hid (HZ0.out.below HB_0.out (Nat.le_refl _))
  have E_0 := Lib.hid (HE0.out.below HB_0.out (Nat.le_refl _))
  go_enter Try.func40, Try.ntmps40
  go_wp2_with fail
  refine (eKey_any _ _ _ _ _).mono ?_
  rw [H1.out]
  rintro e v1 ⟨rfl, hb⟩
  have HB_1 := Lib.hid (bt HB_0.out hb)
  have G_1 := Lib.hid (G_0.out.below hb)
  have Z_1 := Lib.hid (Z_0.out.below hb (Nat.le_refl _))
  have E_1 := Lib.hid (E_0.out.below hb (Nat.le_refl _))
  clear hb
  obtain ⟨gG0, gG1, gG2⟩ := G_1.out
  go_wp2_with fail
  refine (eGood_any P Q G hmo _ _ _ zs HN.out (by omega) _ Z_1.out).mono ?_
  rw [H2.out]
  rintro e v2 ⟨rfl, hb⟩
  have HB_2 := Lib.hid (bt HB_1.out hb)
  have G_2 := Lib.hid (G_1.out.below hb)
  have Z_2 := Lib.hid (Z_1.out.below hb (Nat.le_refl _))
  have E_2 := Lib.hid (E_1.out.below hb (Nat.le_refl _))
  clear hb
  clear gG0 gG1 gG2
  obtain ⟨gG0, gG1, gG2⟩ := G_2.out
  go_wp2_with fail
  refine (gExps_any P Q G hQr _ _ _ es HN'.out (by omega) _ E_2.out).mono ?_
  rw [H3.out]
  rintro e v3 ⟨rfl, hb⟩
  have HB_3 := Lib.hid (bt HB_2.out hb)
  have G_3 := Lib.hid (G_2.out.below hb)
  have Z_3 := Lib.hid (Z_2.out.below hb (Nat.le_refl _))
  have E_3 := Lib.hid (E_2.out.below hb (Nat.le_refl _))
  clear hb
  clear gG0 gG1 gG2
  obtain ⟨gG0, gG1, gG2⟩ := G_3.out
  go_wp2
  go_loopw [10, 11, 38] (fun V _ K wr => ∃ (k : Nat) (va : Option Addr) (vc : Nat), k ≤ n' ∧ K = .int .i64 k ∧ V = .slice va k vc ∧ wr.ownsRow v3.heap.size 26 2 (.slice va k vc) k (((flatRe P G key zs es).take (k * 2)).map (Value.int .i64)) ∧ Below v3.heap.size v3 wr) (fun _ _ K _ => n' - (intOf K).toNat)
  case atStart => exact ⟨0, none, 0, Nat.zero_le _, rfl, rfl, World.ownsRow_nil _ _ _ _, Below.refl _ _⟩
  case round =>
    obtain ⟨k, va, vc, hk, rfl, rfl, hown, hbel⟩ := hrel
    have HO := Lib.hid hown
    have HBk := Lib.hid hbel
    have G_r := Lib.hid (G_3.out.below hbel)
    have HBw := Lib.hid (HB_3.out.trans (hbel.mono HB_3.out.size))
    have hsr : v3.heap.size ≤ wr.heap.size := hbel.size
    clear hown hbel gG0 gG1 gG2
    by_cases hkn : k < n'
    · obtain ⟨b', off', x, hbb, hb', hc', hd'⟩ := HE0.out.at (k := k) (by have := HN'.out; omega)
      subst hbb
      obtain ⟨b, off, p, q, hba, hb, hc1, hc2, hd⟩ := (HZ0.out.below HBw.out (Nat.le_refl _)).pair hkn HN.out
      subst hba
      have HT := Lib.hid (take_re (P := P) (G := G) (key := key) hd hd')
      have hp := HCR.out.2 p (mem_drop hd)
      have hq := HCR.out.2 q (List.mem_of_mem_drop (i := k * 2) (by rw [hd]; simp))
      have hx := HEX.out x (mem_drop hd')
      have hal := ba wr (.cells #[.int .i64 p, .int .i64 q] 26)
      have HAL := Lib.hid hal
      have HALD := Lib.hid hal.drew
      have HC := Lib.hid (c2_new wr p q 26)
      have hbw' : b' < wr.heap.size := by have := HBw.out.size; omega
      have hce := (HBw.out.cell (p := ⟨b', off' + k, none⟩) hb').trans hc'
      have e0 := (hal.cell (p := ⟨b', off' + k, none⟩) hbw').trans hce
      have HCE := Lib.hid hce
      have hsg : w.heap.size < v3.heap.size := G_3.out.lt
      have HNG := Lib.hid (show some w.heap.size ≠ (Value.slice va k vc).ownBlock from fun hh => by have := (HO.out.lt _ hh.symm).1; omega)
      have HNC := Lib.hid (show some wr.heap.size ≠ (Value.slice va k vc).ownBlock from fun hh => by have := (HO.out.lt _ hh.symm).2; omega)
      have HNB := Lib.hid (show some b' ≠ (Value.slice va k vc).ownBlock from fun hh => by have := (HO.out.lt _ hh.symm).1; omega)
      obtain ⟨k0, k1, k2⟩ := G_r.out.below hal
      obtain ⟨y0, y1, _⟩ := HC.out
      have hki : (k : Int) < (n' : Int) := by omega
      clear hd hd' hc' hal hce
      go_wp2_with fail
      go_region_held3 (fun w' => w'.cell? ⟨w.heap.size, 0, none⟩ = some (.int .i64 P) ∧ w'.cell? ⟨w.heap.size, 1, none⟩ = some (.int .i64 Q) ∧ w'.cell? ⟨w.heap.size, 2, none⟩ = some (.int .i64 G) ∧ w'.cell? ⟨wr.heap.size, 0, none⟩ = some (.int .i64 p) ∧ w'.cell? ⟨wr.heap.size, 1, none⟩ = some (.int .i64 q) ∧ w'.cell? ⟨b', off' + k, none⟩ = some (.int .i64 x)) (first | with_reducible exact ⟨z0', z1', z2', zy0, zy1, ze0⟩ | with_reducible exact ⟨x0', x1', x2', xy0, xy1, xe0⟩ | with_reducible exact ⟨q0', q1', q2', qy0, qy1, qe0⟩ | exact ⟨k0, k1, k2, y0, y1, e0⟩) ((first
        | (go_at_call 98; refine (eRe_any P Q G key p q x hP hQ2 hQr.2 hG hky hp hq hx _).mono ?_; rintro e vx ⟨rfl, hpp⟩; have HX := Lib.hid (show Below wr.heap.size wr vx from bt HALD.out hpp); have Gx := Lib.hid (G_r.out.below HX.out); have Cx := Lib.hid (c2_drop HC.out hpp); have xe0 := (HX.out.cell (p := ⟨b', off' + k, none⟩) hbw').trans HCE.out; have HOx := Lib.hid (own_below HO.out HX.out); clear hpp; obtain ⟨x0', x1', x2'⟩ := Gx.out; obtain ⟨xy0, xy1, _⟩ := Cx.out; have halx := ba vx (.cells #[.int .i64 (reA P G p x), .int .i64 (reM P key q x)] 26); have HLx := Lib.hid (c2_new vx (reA P G p x) (reM P key q x) 26); have HXL := Lib.hid (bt HX.out halx); have HOL := Lib.hid (own_below HOx.out halx); have GL := Lib.hid (Gx.out.below halx); have CL := Lib.hid (Cx.out.below halx); have qe0 := (HXL.out.cell (p := ⟨b', off' + k, none⟩) hbw').trans HCE.out; clear halx; obtain ⟨q0', q1', q2'⟩ := GL.out; obtain ⟨qy0, qy1, _⟩ := CL.out)
        | ((refine step_append_cip (by rfl) (.tmp 43) (.tmp 52) _ (by rfl) v3.heap.size 26 i0 Try.underlying40 hi hz0 hz1 hi2 _ k ((flatRe P G key zs es).take (k * 2)) (by rfl) HOL.out vx.heap.size (reA P G p x) (reM P key q x) (by rfl) HLx.out.1 HLx.out.2.1 (by omega) (by have := HXL.out.size; omega) ?_); intro v' vz hown' hgrow; obtain ⟨va', vc', rfl⟩ := own_shape hown'; have HO2 := Lib.hid hown'; have HXZ := Lib.hid ((HBk.out.trans (HXL.out.mono HBk.out.size)).grown hgrow (by have := HXL.out.size; omega) (fun q hq => (HOL.out.lt q hq).1)); have z0' := hgrow.cell (a := ⟨w.heap.size, 0, none⟩) q0' HNG.out; have z1' := hgrow.cell (a := ⟨w.heap.size, 1, none⟩) q1' HNG.out; have z2' := hgrow.cell (a := ⟨w.heap.size, 2, none⟩) q2' HNG.out; have zy0 := hgrow.cell (a := ⟨wr.heap.size, 0, none⟩) qy0 HNC.out; have zy1 := hgrow.cell (a := ⟨wr.heap.size, 1, none⟩) qy1 HNC.out; have ze0 := hgrow.cell (a := ⟨b', off' + k, none⟩) qe0 HNB.out; clear hown' hgrow)
        | fail))
      all_goals (
        go_wp2
        go_roundw
        case rel => exact ⟨k + 1, va', vc', by omega, by go_num, rfl, by rw [HT.out]; exact HO2.out, HXZ.out⟩
        case measure => simp only [intOf]; omega)
    · obtain rfl : k = n' := by omega
      have hown2 := HO.out
      rw [List.take_of_length_le (by have := HFL.out; have := HN.out; omega)] at hown2
      have HO3 := Lib.hid hown2
      clear hown2
      go_wp2
      go_ret2
      exact ⟨_, rfl, owC_mk (own_rebase HO3.out (by intro g hg; have := (HO3.out.lt g hg).1; have := HB_3.out.size; omega)) HBw.out.size, HBw.out⟩

end Go.Proofs.Ytmihnohnfdjcaaa

