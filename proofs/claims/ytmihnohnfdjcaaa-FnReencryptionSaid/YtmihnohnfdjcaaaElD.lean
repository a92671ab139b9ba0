/- ElGamal: the program's functions on single ciphertexts. -/
import Derived.Test.YtmihnohnfdjcaaaElC
import Derived.Test.YtmihnohnfdjcaaaElG
import Derived.Test.YtmihnohnfdjcaaaG4
namespace Go.Proofs.Ytmihnohnfdjcaaa
open Go.RowKit

theorem keyOf_any (P Q G s : Int) (w : World) :
    Calls Try.prog 25 #[gv P Q G, .int .i64 s] w fun e w' => e = .returned (.tuple #[.int .i64 (keyV P Q G s), .bool (keyB P Q G s)]) ∧ Below w.heap.size w w' := by
  obtain ⟨e1, e2⟩ := key_exp P Q G s
  rw [← e1, ← e2]
  clear e1 e2
  have G_0 := Lib.hid (gr_at w (w.heap.size) (by simp) P Q G 24)
  have HB_0 := Lib.hid (show Below w.heap.size w (w.alloc (.cells #[.int .i64 P, .int .i64 Q, .int .i64 G] 24)) from ba _ _)
  go_enter Try.func25, Try.ntmps25
  go_wp2_with fail
  refine (expOf_any P Q G G s _).mono ?_
  rintro e v1 ⟨rfl, hb⟩
  have HB_1 := Lib.hid (bt HB_0.out hb)
  have G_1 := Lib.hid (G_0.out.below hb)
  clear hb
  go_wp2
  go_ret2
  exact ⟨rfl, HB_1.out⟩

set_option maxHeartbeats 3200000 in
theorem encryptElement_any (P Q G key m r : Int) (w : World) :
    Calls Try.prog 22 #[gv P Q G, .int .i64 key, .int .i64 m, .int .i64 r] w fun e w' => e = .returned (.tuple #[cv (encA P Q G key m r) (encM P Q G key m r), .bool (encB P Q G key m r)]) ∧ Below w.heap.size w w' := by
  cases h1 : goodB P Q G
  · skip
    have e0 : encB P Q G key m r = false := by simp [encB, h1]
    obtain ⟨e1, e2⟩ := enc_off e0
    rw [e0, e1, e2]
    clear e0 e1 e2
    have H1 := Lib.hid h1
    clear h1
    have G_0 := Lib.hid ((gr_at w (w.heap.size) (by simp) P Q G 24).below (ba (w.alloc (.cells #[.int .i64 P, .int .i64 Q, .int .i64 G] 24)) (.cells #[.int .i64 0, .int .i64 0] 26)))
    have R_0 := Lib.hid (c2_at (w.alloc (.cells #[.int .i64 P, .int .i64 Q, .int .i64 G] 24)) (w.heap.size + 1) (by simp) 0 0 26)
    have HB_0 := Lib.hid (show Below w.heap.size w ((w.alloc (.cells #[.int .i64 P, .int .i64 Q, .int .i64 G] 24)).alloc (.cells #[.int .i64 0, .int .i64 0] 26)) from bt (ba _ _) (ba _ _))
    go_enter Try.func22, Try.ntmps22
    go_wp2_with fail
    refine (isValidGroup_any _ _ _ _).mono ?_
    rw [H1.out]
    rintro e v1 ⟨rfl, hb⟩
    have HB_1 := Lib.hid (bt HB_0.out hb)
    have G_1 := Lib.hid (G_0.out.below hb)
    have R_1 := Lib.hid (R_0.out.below hb)
    clear hb
    obtain ⟨gG0, gG1, gG2⟩ := G_1.out
    obtain ⟨rR0, rR1, rfR⟩ := R_1.out
    have rfR0 := rfR 0
    have rfR1 := rfR 1
    go_wp2
    (try simp only [Exit.inBlock, Exit.then])
    refine bodyPost_ret (v := .tuple #[cv 0 0, .bool false]) ?_ rfl ⟨rfl, ?_⟩
    · rw [results_cell_tmp rfl]; go_simp
    · first | exact HB_1.out | exact set_below HB_1.out (w.heap.size + 1) (by omega) _ _
  cases h2 : elB P Q key
  · skip
    have e0 : encB P Q G key m r = false := by simp [encB, h2]
    obtain ⟨e1, e2⟩ := enc_off e0
    rw [e0, e1, e2]
    clear e0 e1 e2
    have hmo := good_mo h1
    have hP : 2 ≤ P ∧ P ≤ 2000000000 := by have := goodB_true.1 h1; omega
    have hG := el_rng (good_el h1)
    have H1 := Lib.hid h1
    have H2 := Lib.hid h2
    clear h1 h2
    have G_0 := Lib.hid ((gr_at w (w.heap.size) (by simp) P Q G 24).below (ba (w.alloc (.cells #[.int .i64 P, .int .i64 Q, .int .i64 G] 24)) (.cells #[.int .i64 0, .int .i64 0] 26)))
    have R_0 := Lib.hid (c2_at (w.alloc (.cells #[.int .i64 P, .int .i64 Q, .int .i64 G] 24)) (w.heap.size + 1) (by simp) 0 0 26)
    have HB_0 := Lib.hid (show Below w.heap.size w ((w.alloc (.cells #[.int .i64 P, .int .i64 Q, .int .i64 G] 24)).alloc (.cells #[.int .i64 0, .int .i64 0] 26)) from bt (ba _ _) (ba _ _))
    go_enter Try.func22, Try.ntmps22
    go_wp2_with fail
    refine (isValidGroup_any _ _ _ _).mono ?_
    rw [H1.out]
    rintro e v1 ⟨rfl, hb⟩
    have HB_1 := Lib.hid (bt HB_0.out hb)
    have G_1 := Lib.hid (G_0.out.below hb)
    have R_1 := Lib.hid (R_0.out.below hb)
    clear hb
    obtain ⟨gG0, gG1, gG2⟩ := G_1.out
    obtain ⟨rR0, rR1, rfR⟩ := R_1.out
    have rfR0 := rfR 0
    have rfR1 := rfR 1
    go_wp2_with fail
    refine (hasElement_any _ _ _ _ hmo _).mono ?_
    rw [H2.out]
    rintro e v2 ⟨rfl, hb⟩
    have HB_2 := Lib.hid (bt HB_1.out hb)
    have G_2 := Lib.hid (G_1.out.below hb)
    have R_2 := Lib.hid (R_1.out.below hb)
    clear hb
    clear gG0 gG1 gG2 rR0 rR1 rfR rfR0 rfR1
    obtain ⟨gG0, gG1, gG2⟩ := G_2.out
    obtain ⟨rR0, rR1, rfR⟩ := R_2.out
    have rfR0 := rfR 0
    have rfR1 := rfR 1
    go_wp2
    (try simp only [Exit.inBlock, Exit.then])
    refine bodyPost_ret (v := .tuple #[cv 0 0, .bool false]) ?_ rfl ⟨rfl, ?_⟩
    · rw [results_cell_tmp rfl]; go_simp
    · first | exact HB_2.out | exact set_below HB_2.out (w.heap.size + 1) (by omega) _ _
  cases h3 : elB P Q m
  · skip
    have e0 : encB P Q G key m r = false := by simp [encB, h3]
    obtain ⟨e1, e2⟩ := enc_off e0
    rw [e0, e1, e2]
    clear e0 e1 e2
    have hmo := good_mo h1
    have hP : 2 ≤ P ∧ P ≤ 2000000000 := by have := goodB_true.1 h1; omega
    have hG := el_rng (good_el h1)
    have hkr := el_rng h2
    have H1 := Lib.hid h1
    have H2 := Lib.hid h2
    have H3 := Lib.hid h3
    clear h1 h2 h3
    have G_0 := Lib.hid ((gr_at w (w.heap.size) (by simp) P Q G 24).below (ba (w.alloc (.cells #[.int .i64 P, .int .i64 Q, .int .i64 G] 24)) (.cells #[.int .i64 0, .int .i64 0] 26)))
    have R_0 := Lib.hid (c2_at (w.alloc (.cells #[.int .i64 P, .int .i64 Q, .int .i64 G] 24)) (w.heap.size + 1) (by simp) 0 0 26)
    have HB_0 := Lib.hid (show Below w.heap.size w ((w.alloc (.cells #[.int .i64 P, .int .i64 Q, .int .i64 G] 24)).alloc (.cells #[.int .i64 0, .int .i64 0] 26)) from bt (ba _ _) (ba _ _))
    go_enter Try.func22, Try.ntmps22
    go_wp2_with fail
    refine (isValidGroup_any _ _ _ _).mono ?_
    rw [H1.out]
    rintro e v1 ⟨rfl, hb⟩
    have HB_1 := Lib.hid (bt HB_0.out hb)
    have G_1 := Lib.hid (G_0.out.below hb)
    have R_1 := Lib.hid (R_0.out.below hb)
    clear hb
    obtain ⟨gG0, gG1, gG2⟩ := G_1.out
    obtain ⟨rR0, rR1, rfR⟩ := R_1.out
    have rfR0 := rfR 0
    have rfR1 := rfR 1
    go_wp2_with fail
    refine (hasElement_any _ _ _ _ hmo _).mono ?_
    rw [H2.out]
    rintro e v2 ⟨rfl, hb⟩
    have HB_2 := Lib.hid (bt HB_1.out hb)
    have G_2 := Lib.hid (G_1.out.below hb)
    have R_2 := Lib.hid (R_1.out.below hb)
    clear hb
    clear gG0 gG1 gG2 rR0 rR1 rfR rfR0 rfR1
    obtain ⟨gG0, gG1, gG2⟩ := G_2.out
    obtain ⟨rR0, rR1, rfR⟩ := R_2.out
    have rfR0 := rfR 0
    have rfR1 := rfR 1
    go_wp2_with fail
    refine (hasElement_any _ _ _ _ hmo _).mono ?_
    rw [H3.out]
    rintro e v3 ⟨rfl, hb⟩
    have HB_3 := Lib.hid (bt HB_2.out hb)
    have G_3 := Lib.hid (G_2.out.below hb)
    have R_3 := Lib.hid (R_2.out.below hb)
    clear hb
    clear gG0 gG1 gG2 rR0 rR1 rfR rfR0 rfR1
    obtain ⟨gG0, gG1, gG2⟩ := G_3.out
    obtain ⟨rR0, rR1, rfR⟩ := R_3.out
    have rfR0 := rfR 0
    have rfR1 := rfR 1
    go_wp2
    (try simp only [Exit.inBlock, Exit.then])
    refine bodyPost_ret (v := .tuple #[cv 0 0, .bool false]) ?_ rfl ⟨rfl, ?_⟩
    · rw [results_cell_tmp rfl]; go_simp
    · first | exact HB_3.out | exact set_below HB_3.out (w.heap.size + 1) (by omega) _ _
  cases h4 : exB Q r
  · skip
    have e0 : encB P Q G key m r = false := by simp [encB, h4]
    obtain ⟨e1, e2⟩ := enc_off e0
    rw [e0, e1, e2]
    clear e0 e1 e2
    have hmo := good_mo h1
    have hP : 2 ≤ P ∧ P ≤ 2000000000 := by have := goodB_true.1 h1; omega
    have hG := el_rng (good_el h1)
    have hkr := el_rng h2
    have hmr := el_rng h3
    have H1 := Lib.hid h1
    have H2 := Lib.hid h2
    have H3 := Lib.hid h3
    have H4 := Lib.hid h4
    clear h1 h2 h3 h4
    have G_0 := Lib.hid ((gr_at w (w.heap.size) (by simp) P Q G 24).below (ba (w.alloc (.cells #[.int .i64 P, .int .i64 Q, .int .i64 G] 24)) (.cells #[.int .i64 0, .int .i64 0] 26)))
    have R_0 := Lib.hid (c2_at (w.alloc (.cells #[.int .i64 P, .int .i64 Q, .int .i64 G] 24)) (w.heap.size + 1) (by simp) 0 0 26)
    have HB_0 := Lib.hid (show Below w.heap.size w ((w.alloc (.cells #[.int .i64 P, .int .i64 Q, .int .i64 G] 24)).alloc (.cells #[.int .i64 0, .int .i64 0] 26)) from bt (ba _ _) (ba _ _))
    go_enter Try.func22, Try.ntmps22
    go_wp2_with fail
    refine (isValidGroup_any _ _ _ _).mono ?_
    rw [H1.out]
    rintro e v1 ⟨rfl, hb⟩
    have HB_1 := Lib.hid (bt HB_0.out hb)
    have G_1 := Lib.hid (G_0.out.below hb)
    have R_1 := Lib.hid (R_0.out.below hb)
    clear hb
    obtain ⟨gG0, gG1, gG2⟩ := G_1.out
    obtain ⟨rR0, rR1, rfR⟩ := R_1.out
    have rfR0 := rfR 0
    have rfR1 := rfR 1
    go_wp2_with fail
    refine (hasElement_any _ _ _ _ hmo _).mono ?_
    rw [H2.out]
    rintro e v2 ⟨rfl, hb⟩
    have HB_2 := Lib.hid (bt HB_1.out hb)
    have G_2 := Lib.hid (G_1.out.below hb)
    have R_2 := Lib.hid (R_1.out.below hb)
    clear hb
    clear gG0 gG1 gG2 rR0 rR1 rfR rfR0 rfR1
    obtain ⟨gG0, gG1, gG2⟩ := G_2.out
    obtain ⟨rR0, rR1, rfR⟩ := R_2.out
    have rfR0 := rfR 0
    have rfR1 := rfR 1
    go_wp2_with fail
    refine (hasElement_any _ _ _ _ hmo _).mono ?_
    rw [H3.out]
    rintro e v3 ⟨rfl, hb⟩
    have HB_3 := Lib.hid (bt HB_2.out hb)
    have G_3 := Lib.hid (G_2.out.below hb)
    have R_3 := Lib.hid (R_2.out.below hb)
    clear hb
    clear gG0 gG1 gG2 rR0 rR1 rfR rfR0 rfR1
    obtain ⟨gG0, gG1, gG2⟩ := G_3.out
    obtain ⟨rR0, rR1, rfR⟩ := R_3.out
    have rfR0 := rfR 0
    have rfR1 := rfR 1
    go_wp2_with fail
    refine (hasExponent_any _ _ _ _ _).mono ?_
    rw [H4.out]
    rintro e v4 ⟨rfl, hb⟩
    have HB_4 := Lib.hid (bt HB_3.out hb)
    have G_4 := Lib.hid (G_3.out.below hb)
    have R_4 := Lib.hid (R_3.out.below hb)
    clear hb
    clear gG0 gG1 gG2 rR0 rR1 rfR rfR0 rfR1
    obtain ⟨gG0, gG1, gG2⟩ := G_4.out
    obtain ⟨rR0, rR1, rfR⟩ := R_4.out
    have rfR0 := rfR 0
    have rfR1 := rfR 1
    go_wp2
    (try simp only [Exit.inBlock, Exit.then])
    refine bodyPost_ret (v := .tuple #[cv 0 0, .bool false]) ?_ rfl ⟨rfl, ?_⟩
    · rw [results_cell_tmp rfl]; go_simp
    · first | exact HB_4.out | exact set_below HB_4.out (w.heap.size + 1) (by omega) _ _
  have e0 : encB P Q G key m r = true := encB_true.2 ⟨⟨⟨h1, h2⟩, h3⟩, h4⟩
  obtain ⟨e1, e2⟩ := enc_on e0
  rw [e0, e1, e2]
  clear e0 e1 e2
  have hmo := good_mo h1
  have hP : 2 ≤ P ∧ P ≤ 2000000000 := by have := goodB_true.1 h1; omega
  have hG := el_rng (good_el h1)
  have hkr := el_rng h2
  have hmr := el_rng h3
  have hrr := exB_true.1 h4
  have hQ : Q ≤ 2000000000 := by obtain ⟨_, _, hq⟩ := hmo; exact hq
  have H1 := Lib.hid h1
  have H2 := Lib.hid h2
  have H3 := Lib.hid h3
  have H4 := Lib.hid h4
  clear h1 h2 h3 h4
  have G_0 := Lib.hid ((gr_at w (w.heap.size) (by simp) P Q G 24).below (ba (w.alloc (.cells #[.int .i64 P, .int .i64 Q, .int .i64 G] 24)) (.cells #[.int .i64 0, .int .i64 0] 26)))
  have R_0 := Lib.hid (c2_at (w.alloc (.cells #[.int .i64 P, .int .i64 Q, .int .i64 G] 24)) (w.heap.size + 1) (by simp) 0 0 26)
  have HB_0 := Lib.hid (show Below w.heap.size w ((w.alloc (.cells #[.int .i64 P, .int .i64 Q, .int .i64 G] 24)).alloc (.cells #[.int .i64 0, .int .i64 0] 26)) from bt (ba _ _) (ba _ _))
  go_enter Try.func22, Try.ntmps22
  go_wp2_with fail
  refine (isValidGroup_any _ _ _ _).mono ?_
  rw [H1.out]
  rintro e v1 ⟨rfl, hb⟩
  have HB_1 := Lib.hid (bt HB_0.out hb)
  have G_1 := Lib.hid (G_0.out.below hb)
  have R_1 := Lib.hid (R_0.out.below hb)
  clear hb
  obtain ⟨gG0, gG1, gG2⟩ := G_1.out
  obtain ⟨rR0, rR1, rfR⟩ := R_1.out
  have rfR0 := rfR 0
  have rfR1 := rfR 1
  go_wp2_with fail
  refine (hasElement_any _ _ _ _ hmo _).mono ?_
  rw [H2.out]
  rintro e v2 ⟨rfl, hb⟩
  have HB_2 := Lib.hid (bt HB_1.out hb)
  have G_2 := Lib.hid (G_1.out.below hb)
  have R_2 := Lib.hid (R_1.out.below hb)
  clear hb
  clear gG0 gG1 gG2 rR0 rR1 rfR rfR0 rfR1
  obtain ⟨gG0, gG1, gG2⟩ := G_2.out
  obtain ⟨rR0, rR1, rfR⟩ := R_2.out
  have rfR0 := rfR 0
  have rfR1 := rfR 1
  go_wp2_with fail
  refine (hasElement_any _ _ _ _ hmo _).mono ?_
  rw [H3.out]
  rintro e v3 ⟨rfl, hb⟩
  have HB_3 := Lib.hid (bt HB_2.out hb)
  have G_3 := Lib.hid (G_2.out.below hb)
  have R_3 := Lib.hid (R_2.out.below hb)
  clear hb
  clear gG0 gG1 gG2 rR0 rR1 rfR rfR0 rfR1
  obtain ⟨gG0, gG1, gG2⟩ := G_3.out
  obtain ⟨rR0, rR1, rfR⟩ := R_3.out
  have rfR0 := rfR 0
  have rfR1 := rfR 1
  go_wp2_with fail
  refine (hasExponent_any _ _ _ _ _).mono ?_
  rw [H4.out]
  rintro e v4 ⟨rfl, hb⟩
  have HB_4 := Lib.hid (bt HB_3.out hb)
  have G_4 := Lib.hid (G_3.out.below hb)
  have R_4 := Lib.hid (R_3.out.below hb)
  clear hb
  clear gG0 gG1 gG2 rR0 rR1 rfR rfR0 rfR1
  obtain ⟨gG0, gG1, gG2⟩ := G_4.out
  obtain ⟨rR0, rR1, rfR⟩ := R_4.out
  have rfR0 := rfR 0
  have rfR1 := rfR 1
  go_wp2_with fail
  refine (encrypt_any P Q G key m r hP.1 hP.2 (by omega) (by omega) hkr.1 (by omega) hmr.1 (by omega) hrr.1 (by omega) _).mono ?_
  rintro e v5 ⟨rfl, hb⟩
  have HB_5 := Lib.hid (bt HB_4.out hb)
  have G_5 := Lib.hid (G_4.out.below hb)
  have R_5 := Lib.hid (R_4.out.below hb)
  clear hb
  clear gG0 gG1 gG2 rR0 rR1 rfR rfR0 rfR1
  obtain ⟨gG0, gG1, gG2⟩ := G_5.out
  obtain ⟨rR0, rR1, rfR⟩ := R_5.out
  have rfR0 := rfR 0
  have rfR1 := rfR 1
  go_wp2
  (try simp only [Exit.inBlock, Exit.then])
  refine bodyPost_ret (v := .tuple #[cv (Num.pow G r P) (m * Num.pow key r P % P), .bool true]) ?_ rfl ⟨rfl, ?_⟩
  · rw [results_cell_tmp rfl]; go_simp
  · first | exact HB_5.out | exact set_below HB_5.out (w.heap.size + 1) (by omega) _ _

/-- EncryptExp's condition and what it answers. -/
def eeB (P Q G key v r : Int) : Bool := keyB P Q G v && encB P Q G key (Num.pow G v P) r
def eeA (P Q G key v r : Int) : Int := if keyB P Q G v then encA P Q G key (Num.pow G v P) r else 0
def eeM (P Q G key v r : Int) : Int := if keyB P Q G v then encM P Q G key (Num.pow G v P) r else 0
theorem ee_on {P Q G key v r : Int} (h : keyB P Q G v = true) : eeB P Q G key v r = encB P Q G key (Num.pow G v P) r ∧ eeA P Q G key v r = encA P Q G key (Num.pow G v P) r ∧ eeM P Q G key v r = encM P Q G key (Num.pow G v P) r := by simp [eeB, eeA, eeM, h]
theorem ee_off {P Q G key v r : Int} (h : keyB P Q G v = false) : eeB P Q G key v r = false ∧ eeA P Q G key v r = 0 ∧ eeM P Q G key v r = 0 := by simp [eeB, eeA, eeM, h]
theorem key_val {P Q G s : Int} (h : keyB P Q G s = true) : keyV P Q G s = Num.pow G s P := by simp [keyV, h]
theorem key_off {P Q G s : Int} (h : keyB P Q G s = false) : keyV P Q G s = 0 := by simp [keyV, h]

set_option maxHeartbeats 1600000 in
theorem encryptExp_any (P Q G key v r : Int) (w : World) :
    Calls Try.prog 51 #[gv P Q G, .int .i64 key, .int .i64 v, .int .i64 r] w fun e w' => e = .returned (.tuple #[cv (eeA P Q G key v r) (eeM P Q G key v r), .bool (eeB P Q G key v r)]) ∧ Below w.heap.size w w' := by
  cases h1 : keyB P Q G v
  · obtain ⟨e0, e1, e2⟩ := ee_off (key := key) (r := r) h1
    rw [e0, e1, e2]
    obtain ⟨f1, f2⟩ := key_exp P Q G v
    have HK := Lib.hid (f1.trans h1)
    have HV := Lib.hid f2
    clear e0 e1 e2 h1 f1 f2
    have G_0 := Lib.hid ((gr_at w (w.heap.size) (by simp) P Q G 24).below (ba (w.alloc (.cells #[.int .i64 P, .int .i64 Q, .int .i64 G] 24)) (.cells #[.int .i64 0, .int .i64 0] 26)))
    have R_0 := Lib.hid (c2_at (w.alloc (.cells #[.int .i64 P, .int .i64 Q, .int .i64 G] 24)) (w.heap.size + 1) (by simp) 0 0 26)
    have HB_0 := Lib.hid (show Below w.heap.size w ((w.alloc (.cells #[.int .i64 P, .int .i64 Q, .int .i64 G] 24)).alloc (.cells #[.int .i64 0, .int .i64 0] 26)) from bt (ba _ _) (ba _ _))
    go_enter Try.func51, Try.ntmps51
    go_wp2_with fail
    refine (expOf_any P Q G G v _).mono ?_
    rw [HK.out]
    rintro e v1 ⟨rfl, hb⟩
    have HB_1 := Lib.hid (bt HB_0.out hb)
    have G_1 := Lib.hid (G_0.out.below hb)
    have R_1 := Lib.hid (R_0.out.below hb)
    clear hb
    obtain ⟨gG0, gG1, gG2⟩ := G_1.out
    obtain ⟨rR0, rR1, rfR⟩ := R_1.out
    have rfR0 := rfR 0
    have rfR1 := rfR 1
    go_wp2
    (try simp only [Exit.inBlock, Exit.then])
    refine bodyPost_ret (v := .tuple #[cv 0 0, .bool false]) ?_ rfl ⟨rfl, ?_⟩
    · rw [results_cell_tmp rfl]; go_simp
    · first | exact HB_1.out | exact set_below HB_1.out (w.heap.size + 1) (by omega) _ _
  · obtain ⟨e0, e1, e2⟩ := ee_on (key := key) (r := r) h1
    have HKV := Lib.hid (key_val h1)
    rw [e0, e1, e2]
    obtain ⟨f1, f2⟩ := key_exp P Q G v
    have HK := Lib.hid (f1.trans h1)
    have HV := Lib.hid f2
    clear e0 e1 e2 h1 f1 f2
    have G_0 := Lib.hid ((gr_at w (w.heap.size) (by simp) P Q G 24).below (ba (w.alloc (.cells #[.int .i64 P, .int .i64 Q, .int .i64 G] 24)) (.cells #[.int .i64 0, .int .i64 0] 26)))
    have R_0 := Lib.hid (c2_at (w.alloc (.cells #[.int .i64 P, .int .i64 Q, .int .i64 G] 24)) (w.heap.size + 1) (by simp) 0 0 26)
    have HB_0 := Lib.hid (show Below w.heap.size w ((w.alloc (.cells #[.int .i64 P, .int .i64 Q, .int .i64 G] 24)).alloc (.cells #[.int .i64 0, .int .i64 0] 26)) from bt (ba _ _) (ba _ _))
    go_enter Try.func51, Try.ntmps51
    go_wp2_with fail
    refine (expOf_any P Q G G v _).mono ?_
    rw [HK.out, HV.out, HKV.out]
    rintro e v1 ⟨rfl, hb⟩
    have HB_1 := Lib.hid (bt HB_0.out hb)
    have G_1 := Lib.hid (G_0.out.below hb)
    have R_1 := Lib.hid (R_0.out.below hb)
    clear hb
    obtain ⟨gG0, gG1, gG2⟩ := G_1.out
    obtain ⟨rR0, rR1, rfR⟩ := R_1.out
    have rfR0 := rfR 0
    have rfR1 := rfR 1
    go_wp2_with fail
    refine (encryptElement_any P Q G key (Num.pow G v P) r _).mono ?_
    rintro e v2 ⟨rfl, hb⟩
    have HB_2 := Lib.hid (bt HB_1.out hb)
    have G_2 := Lib.hid (G_1.out.below hb)
    have R_2 := Lib.hid (R_1.out.below hb)
    clear hb
    clear gG0 gG1 gG2 rR0 rR1 rfR rfR0 rfR1
    obtain ⟨gG0, gG1, gG2⟩ := G_2.out
    obtain ⟨rR0, rR1, rfR⟩ := R_2.out
    have rfR0 := rfR 0
    have rfR1 := rfR 1
    go_wp2
    (try simp only [Exit.inBlock, Exit.then])
    refine bodyPost_ret (v := .tuple #[cv (encA P Q G key (Num.pow G v P) r) (encM P Q G key (Num.pow G v P) r), .bool (encB P Q G key (Num.pow G v P) r)]) ?_ rfl ⟨rfl, ?_⟩
    · rw [results_cell_tmp rfl]; go_simp
    · first | exact HB_2.out | exact set_below HB_2.out (w.heap.size + 1) (by omega) _ _

theorem field_jf (B : Nat) (W : World) : (Instr.field 99 (kv B) 1).run Try.prog W = .ok (jf B) W := by kernel_rfl

/-- Reencrypt's answers. -/
def rrA (P Q G key a b r : Int) : Int := if reB P Q G key a b r then reA P G a r else 0
def rrM (P Q G key a b r : Int) : Int := if reB P Q G key a b r then reM P key b r else 0
theorem rr_off {P Q G key a b r : Int} (h : reB P Q G key a b r = false) : rrA P Q G key a b r = 0 ∧ rrM P Q G key a b r = 0 := by simp [rrA, rrM, h]
theorem rr_on {P Q G key a b r : Int} (h : reB P Q G key a b r = true) : rrA P Q G key a b r = reA P G a r ∧ rrM P Q G key a b r = reM P key b r := by simp [rrA, rrM, h]
theorem enc_rng {P Q G key r : Int} (h : encB P Q G key 1 r = true) : (0 ≤ encA P Q G key 1 r ∧ encA P Q G key 1 r < P) ∧ 0 ≤ encM P Q G key 1 r ∧ encM P Q G key 1 r < P := by
  have h' := encB_true.1 h
  have hm := good_mo h'.1.1.1
  rw [encM_one h, (enc_on h).1]
  exact ⟨pow_lt G r P hm.1.1, pow_lt key r P hm.1.1⟩

set_option maxRecDepth 100000 in
set_option maxHeartbeats 3200000 in
theorem reencrypt_any (P Q G key a b r : Int) (w : World) :
    Calls Try.prog 26 #[gv P Q G, .int .i64 key, cv a b, .int .i64 r] w fun e w' => e = .returned (.tuple #[cv (rrA P Q G key a b r) (rrM P Q G key a b r), .bool (reB P Q G key a b r)]) ∧ Below w.heap.size w w' := by
  cases h1 : encB P Q G key 1 r
  · have e0 : reB P Q G key a b r = false := by simp [reB, h1]
    obtain ⟨e1, e2⟩ := rr_off e0
    obtain ⟨f1, f2⟩ := enc_off h1
    have HV := Lib.hid (And.intro f1 f2)
    rw [e0, e1, e2]
    have H1 := Lib.hid h1
    clear e0 e1 e2 h1 f1 f2
    have G_0 := Lib.hid (((gr_at w (w.heap.size) (by simp) P Q G 24).below (ba (w.alloc (.cells #[.int .i64 P, .int .i64 Q, .int .i64 G] 24)) (.cells #[.int .i64 a, .int .i64 b] 26))).below (ba ((w.alloc (.cells #[.int .i64 P, .int .i64 Q, .int .i64 G] 24)).alloc (.cells #[.int .i64 a, .int .i64 b] 26)) (.cells #[.int .i64 0, .int .i64 0] 26)))
    have C_0 := Lib.hid ((c2_at (w.alloc (.cells #[.int .i64 P, .int .i64 Q, .int .i64 G] 24)) (w.heap.size + 1) (by simp) a b 26).below (ba ((w.alloc (.cells #[.int .i64 P, .int .i64 Q, .int .i64 G] 24)).alloc (.cells #[.int .i64 a, .int .i64 b] 26)) (.cells #[.int .i64 0, .int .i64 0] 26)))
    have R_0 := Lib.hid (c2_at ((w.alloc (.cells #[.int .i64 P, .int .i64 Q, .int .i64 G] 24)).alloc (.cells #[.int .i64 a, .int .i64 b] 26)) (w.heap.size + 1 + 1) (by simp) 0 0 26)
    have HB_0 := Lib.hid (show Below w.heap.size w (((w.alloc (.cells #[.int .i64 P, .int .i64 Q, .int .i64 G] 24)).alloc (.cells #[.int .i64 a, .int .i64 b] 26)).alloc (.cells #[.int .i64 0, .int .i64 0] 26)) from bt (bt (ba _ _) (ba _ _)) (ba _ _))
    go_enter Try.func26, Try.ntmps26
    go_wp2_with fail
    refine (encryptElement_any P Q G key 1 r _).mono ?_
    rw [H1.out, HV.out.1, HV.out.2]
    rintro e v1 ⟨rfl, hb⟩
    have HB_1 := Lib.hid (bt HB_0.out hb)
    have G_1 := Lib.hid (G_0.out.below hb)
    have C_1 := Lib.hid (C_0.out.below hb)
    have R_1 := Lib.hid (R_0.out.below hb)
    clear hb
    have hal := ba v1 (.cells #[.int .i64 0, .int .i64 0] 26)
    have HB_2 := Lib.hid (bt HB_1.out hal)
    have R_2 := Lib.hid (R_1.out.below hal)
    clear hal
    obtain ⟨rR0, rR1, rfR⟩ := R_2.out
    have rfR0 := rfR 0
    have rfR1 := rfR 1
    go_wp2
    (try simp only [Exit.inBlock, Exit.then])
    refine bodyPost_ret (v := .tuple #[cv 0 0, .bool false]) ?_ rfl ⟨rfl, ?_⟩
    · rw [results_cell_tmp rfl]; go_simp
    · first | exact HB_2.out | exact set_below HB_2.out (w.heap.size + 1 + 1) (by omega) _ _
  cases h2 : cipB P Q a b
  · have e0 : reB P Q G key a b r = false := by simp [reB, h2]
    obtain ⟨e1, e2⟩ := rr_off e0
    have hmo := good_mo (encB_true.1 h1).1.1.1
    rw [e0, e1, e2]
    have H1 := Lib.hid h1
    have H2 := Lib.hid h2
    have hel := fun h => Bool.and_eq_true_iff.1 (show (elB P Q a && elB P Q b) = true from h)
    clear e0 e1 e2 h1 h2 hel
    have G_0 := Lib.hid (((gr_at w (w.heap.size) (by simp) P Q G 24).below (ba (w.alloc (.cells #[.int .i64 P, .int .i64 Q, .int .i64 G] 24)) (.cells #[.int .i64 a, .int .i64 b] 26))).below (ba ((w.alloc (.cells #[.int .i64 P, .int .i64 Q, .int .i64 G] 24)).alloc (.cells #[.int .i64 a, .int .i64 b] 26)) (.cells #[.int .i64 0, .int .i64 0] 26)))
    have C_0 := Lib.hid ((c2_at (w.alloc (.cells #[.int .i64 P, .int .i64 Q, .int .i64 G] 24)) (w.heap.size + 1) (by simp) a b 26).below (ba ((w.alloc (.cells #[.int .i64 P, .int .i64 Q, .int .i64 G] 24)).alloc (.cells #[.int .i64 a, .int .i64 b] 26)) (.cells #[.int .i64 0, .int .i64 0] 26)))
    have R_0 := Lib.hid (c2_at ((w.alloc (.cells #[.int .i64 P, .int .i64 Q, .int .i64 G] 24)).alloc (.cells #[.int .i64 a, .int .i64 b] 26)) (w.heap.size + 1 + 1) (by simp) 0 0 26)
    have HB_0 := Lib.hid (show Below w.heap.size w (((w.alloc (.cells #[.int .i64 P, .int .i64 Q, .int .i64 G] 24)).alloc (.cells #[.int .i64 a, .int .i64 b] 26)).alloc (.cells #[.int .i64 0, .int .i64 0] 26)) from bt (bt (ba _ _) (ba _ _)) (ba _ _))
    go_enter Try.func26, Try.ntmps26
    go_wp2_with fail
    refine (encryptElement_any P Q G key 1 r _).mono ?_
    rw [H1.out]
    rintro e v1 ⟨rfl, hb⟩
    have HB_1 := Lib.hid (bt HB_0.out hb)
    have G_1 := Lib.hid (G_0.out.below hb)
    have C_1 := Lib.hid (C_0.out.below hb)
    have R_1 := Lib.hid (R_0.out.below hb)
    clear hb
    obtain ⟨gG0, gG1, gG2⟩ := G_1.out
    obtain ⟨cC0, cC1, cfC⟩ := C_1.out
    obtain ⟨rR0, rR1, rfR⟩ := R_1.out
    have rfR0 := rfR 0
    have rfR1 := rfR 1
    generalize encA P Q G key 1 r = x
    generalize encM P Q G key 1 r = y
    have hal := ba v1 (.cells #[.int .i64 x, .int .i64 y] 26)
    have D_1 := Lib.hid (c2_new v1 x y 26)
    have HB_x := Lib.hid (bt HB_1.out hal)
    have G_x := Lib.hid (G_1.out.below hal)
    have C_x := Lib.hid (C_1.out.below hal)
    have R_x := Lib.hid (R_1.out.below hal)
    clear hal
    clear gG0 gG1 gG2 cC0 cC1 cfC rR0 rR1 rfR rfR0 rfR1
    obtain ⟨g0, g1, g2⟩ := G_x.out
    obtain ⟨c0, c1, _⟩ := C_x.out
    obtain ⟨d0, d1, _⟩ := D_1.out
    go_wp2_with fail
    refine (hasCipher_any P Q G a b hmo _).mono ?_
    rw [H2.out]
    rintro e v2 ⟨rfl, hb⟩
    have HB_2 := Lib.hid (bt HB_x.out hb)
    have G_2 := Lib.hid (G_x.out.below hb)
    have C_2 := Lib.hid (C_x.out.below hb)
    have R_2 := Lib.hid (R_x.out.below hb)
    have D_2 := Lib.hid (D_1.out.below hb)
    clear hb g0 g1 g2 c0 c1 d0 d1
    obtain ⟨g0, g1, g2⟩ := G_2.out
    obtain ⟨c0, c1, _⟩ := C_2.out
    obtain ⟨d0, d1, _⟩ := D_2.out
    obtain ⟨r0, r1, rf⟩ := R_2.out
    have rf0 := rf 0
    have rf1 := rf 1
    clear rf
    go_wp2
    (try simp only [Exit.inBlock, Exit.then])
    refine bodyPost_ret (v := .tuple #[cv 0 0, .bool false]) ?_ rfl ⟨rfl, ?_⟩
    · rw [results_cell_tmp rfl]; go_simp
    · first | exact HB_2.out | exact set_below HB_2.out (w.heap.size + 1 + 1) (by omega) _ _
  · have e0 : reB P Q G key a b r = true := by simp [reB, h1, h2]
    obtain ⟨e1, e2⟩ := rr_on e0
    have hmo := good_mo (encB_true.1 h1).1.1.1
    rw [e0, e1, e2]
    have H1 := Lib.hid h1
    have H2 := Lib.hid h2
    have hel := fun h => Bool.and_eq_true_iff.1 (show (elB P Q a && elB P Q b) = true from h)
    obtain ⟨⟨x0, x1⟩, y0, y1⟩ := enc_rng h1
    obtain ⟨a0, a1⟩ := el_rng (hel h2).1
    obtain ⟨b0, b1⟩ := el_rng (hel h2).2
    have HX := Lib.hid (And.intro (enc_on h1).1 (encM_one h1))
    have hP : 2 ≤ P ∧ P ≤ 2000000000 := hmo.1
    clear e0 e1 e2 h1 h2 hel
    generalize hx : encA P Q G key 1 r = x at *
    generalize hy : encM P Q G key 1 r = y at *
    have HXY := Lib.hid (And.intro hx hy)
    clear hx hy
    have G_0 := Lib.hid (((gr_at w (w.heap.size) (by simp) P Q G 24).below (ba (w.alloc (.cells #[.int .i64 P, .int .i64 Q, .int .i64 G] 24)) (.cells #[.int .i64 a, .int .i64 b] 26))).below (ba ((w.alloc (.cells #[.int .i64 P, .int .i64 Q, .int .i64 G] 24)).alloc (.cells #[.int .i64 a, .int .i64 b] 26)) (.cells #[.int .i64 0, .int .i64 0] 26)))
    have C_0 := Lib.hid ((c2_at (w.alloc (.cells #[.int .i64 P, .int .i64 Q, .int .i64 G] 24)) (w.heap.size + 1) (by simp) a b 26).below (ba ((w.alloc (.cells #[.int .i64 P, .int .i64 Q, .int .i64 G] 24)).alloc (.cells #[.int .i64 a, .int .i64 b] 26)) (.cells #[.int .i64 0, .int .i64 0] 26)))
    have R_0 := Lib.hid (c2_at ((w.alloc (.cells #[.int .i64 P, .int .i64 Q, .int .i64 G] 24)).alloc (.cells #[.int .i64 a, .int .i64 b] 26)) (w.heap.size + 1 + 1) (by simp) 0 0 26)
    have HB_0 := Lib.hid (show Below w.heap.size w (((w.alloc (.cells #[.int .i64 P, .int .i64 Q, .int .i64 G] 24)).alloc (.cells #[.int .i64 a, .int .i64 b] 26)).alloc (.cells #[.int .i64 0, .int .i64 0] 26)) from bt (bt (ba _ _) (ba _ _)) (ba _ _))
    go_enter Try.func26, Try.ntmps26
    go_wp2_with fail
    refine (encryptElement_any P Q G key 1 r _).mono ?_
    rw [H1.out]
    rw [HXY.out.1, HXY.out.2]
    rintro e v1 ⟨rfl, hb⟩
    have HB_1 := Lib.hid (bt HB_0.out hb)
    have G_1 := Lib.hid (G_0.out.below hb)
    have C_1 := Lib.hid (C_0.out.below hb)
    have R_1 := Lib.hid (R_0.out.below hb)
    clear hb
    obtain ⟨gG0, gG1, gG2⟩ := G_1.out
    obtain ⟨cC0, cC1, cfC⟩ := C_1.out
    obtain ⟨rR0, rR1, rfR⟩ := R_1.out
    have rfR0 := rfR 0
    have rfR1 := rfR 1
    have hal := ba v1 (.cells #[.int .i64 x, .int .i64 y] 26)
    have D_1 := Lib.hid (c2_new v1 x y 26)
    have HB_x := Lib.hid (bt HB_1.out hal)
    have G_x := Lib.hid (G_1.out.below hal)
    have C_x := Lib.hid (C_1.out.below hal)
    have R_x := Lib.hid (R_1.out.below hal)
    clear hal
    clear gG0 gG1 gG2 cC0 cC1 cfC rR0 rR1 rfR rfR0 rfR1
    obtain ⟨g0, g1, g2⟩ := G_x.out
    obtain ⟨c0, c1, _⟩ := C_x.out
    obtain ⟨d0, d1, _⟩ := D_1.out
    go_wp2_with fail
    refine (hasCipher_any P Q G a b hmo _).mono ?_
    rw [H2.out]
    rintro e v2 ⟨rfl, hb⟩
    have HB_2 := Lib.hid (bt HB_x.out hb)
    have G_2 := Lib.hid (G_x.out.below hb)
    have C_2 := Lib.hid (C_x.out.below hb)
    have R_2 := Lib.hid (R_x.out.below hb)
    have D_2 := Lib.hid (D_1.out.below hb)
    clear hb g0 g1 g2 c0 c1 d0 d1
    obtain ⟨g0, g1, g2⟩ := G_2.out
    obtain ⟨c0, c1, _⟩ := C_2.out
    obtain ⟨d0, d1, _⟩ := D_2.out
    obtain ⟨r0, r1, rf⟩ := R_2.out
    have rf0 := rf 0
    have rf1 := rf 1
    clear rf
    go_wp2_with fail
    have hs1 : w.heap.size + 1 + 1 < v1.heap.size := R_1.out.lt
    have hfl : ∀ (B : Nat) (W : World), (Instr.field 99 (kv B) 1).run Try.prog W = .ok (jf B) W := field_jf
    go_region_held3 (fun w' => w'.cell? ⟨w.heap.size, 0, none⟩ = some (.int .i64 P) ∧ w'.cell? ⟨w.heap.size, 1, none⟩ = some (.int .i64 Q) ∧ w'.cell? ⟨w.heap.size, 2, none⟩ = some (.int .i64 G) ∧ w'.cell? ⟨w.heap.size + 1, 0, none⟩ = some (.int .i64 a) ∧ w'.cell? ⟨w.heap.size + 1, 1, none⟩ = some (.int .i64 b) ∧ w'.cell? ⟨v1.heap.size, 0, none⟩ = some (.int .i64 x) ∧ w'.cell? ⟨v1.heap.size, 1, none⟩ = some (.int .i64 y)) (first | with_reducible exact ⟨z0, z1, z2, zc0, zc1, zd0, zd1⟩ | with_reducible exact ⟨x0', x1', x2', xc0, xc1, xd0, xd1⟩ | exact ⟨g0, g1, g2, c0, c1, d0, d1⟩ | exact ⟨(gr_pair Gz.out (by omega) _ _).1, (gr_pair Gz.out (by omega) _ _).2.1, (gr_pair Gz.out (by omega) _ _).2.2, cell_pair zc0 (by omega) _ _, cell_pair zc1 (by omega) _ _, cell_pair zd0 (by omega) _ _, cell_pair zd1 (by omega) _ _⟩) ((first
      | (go_at_call 81; refine (products_any P Q G _).mono ?_; rintro e vx ⟨B, rfl, hgB, hp⟩; have HBx := Lib.hid (bt_drop HB_2.out hp); have Gx := Lib.hid (gr_drop G_2.out hp); have Cx := Lib.hid (c2_drop C_2.out hp); have Rx := Lib.hid (c2_drop R_2.out hp); have Dx := Lib.hid (c2_drop D_2.out hp); have GBx := Lib.hid hgB; clear hp hgB; obtain ⟨x0', x1', x2'⟩ := Gx.out; obtain ⟨xc0, xc1, _⟩ := Cx.out; obtain ⟨xd0, xd1, _⟩ := Dx.out)
      | (go_at_call 111; refine (cjoin_any P Q G a b x y hP.1 hP.2 ⟨a0, a1⟩ ⟨b0, b1⟩ ⟨x0, x1⟩ ⟨y0, y1⟩ B _ GBx.out).mono ?_; rintro e vz ⟨rfl, hz⟩; have HBz := Lib.hid (bt HBx.out hz); have Gz := Lib.hid (Gx.out.below hz); have Cz := Lib.hid (Cx.out.below hz); have Rz := Lib.hid (Rx.out.below hz); have Dz := Lib.hid (Dx.out.below hz); clear hz; obtain ⟨z0, z1, z2⟩ := Gz.out; obtain ⟨zc0, zc1, _⟩ := Cz.out; obtain ⟨zd0, zd1, _⟩ := Dz.out; obtain ⟨zr0, zr1, zrf⟩ := Rz.out; have zrf0 := zrf 0; have zrf1 := zrf 1; clear zrf)
      | fail))
    all_goals (
      go_wp2
      (try simp only [Exit.inBlock, Exit.then])
      refine bodyPost_ret (v := .tuple #[cv (a * x % P) (b * y % P), .bool true]) ?_ rfl ⟨by unfold reA reM; rw [← HX.out.1, ← HX.out.2], ?_⟩
      · rw [results_cell_tmp rfl]; go_simp
      · first | exact set_below HBz.out (w.heap.size + 1 + 1) (by omega) _ _ | exact set_below HBz.out.drew (w.heap.size + 1 + 1) (by omega) _ _)

end Go.Proofs.Ytmihnohnfdjcaaa

