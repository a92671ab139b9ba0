/- ElGamal: the program's functions on lists of ciphertexts, and decryption. -/
import Derived.Test.YtglfbhkdmkneoaaElC
namespace Go.Proofs.Ytglfbhkdmkneoaa
open Go.RowKit


theorem kpower_any (P Q G a b e : Int) (h2 : 2 ≤ P) (h3 : P ≤ 2000000000) (a0 : 0 ≤ a) (a1 : a < P) (b0 : 0 ≤ b) (b1 : b < P) (e0 : 0 ≤ e) (e1 : e ≤ 2000000000) (B : Nat) (w : World) (hB : GR w B P Q G) :
    Calls Try.prog 91 #[kv B, cv a b, .int .i64 e] w fun e' w' => e' = .returned (cv (Num.pow a e P) (Num.pow b e P)) ∧ Below w.heap.size w w' := by
  obtain ⟨p, rfl⟩ := Int.eq_ofNat_of_zero_le (show 0 ≤ P by omega)
  obtain ⟨a, rfl⟩ := Int.eq_ofNat_of_zero_le a0
  obtain ⟨b, rfl⟩ := Int.eq_ofNat_of_zero_le b0
  obtain ⟨e, rfl⟩ := Int.eq_ofNat_of_zero_le e0
  exact kpower_nat p a b e Q G (by omega) (by omega) (by omega) (by omega) (by omega) B w hB

theorem cs_rng {P Q : Int} {zs : List Int} (h : csB P Q zs = true) : zs.length ≤ 48 ∧ ∀ z ∈ zs, 0 ≤ z ∧ z < P := by
  unfold csB at h
  rw [Bool.and_eq_true, decide_eq_true_eq] at h
  exact ⟨h.1, all_rng h.2⟩
theorem mc_on {P Q G : Int} {zs : List Int} (h : mcB P Q G zs = true) : mcA P Q G zs = mulFrom P 1 (evens zs) ∧ mcM P Q G zs = mulFrom P 1 (odds zs) := by simp [mcA, mcM, h]
theorem wp_on {P Q G : Int} {zs es : List Int} (h : wpB P Q G zs es = true) : wpA P Q G zs es = powsFrom P 1 (evens zs) es ∧ wpM P Q G zs es = powsFrom P 1 (odds zs) es := by simp [wpA, wpM, h]
theorem he_wp (P Q G : Int) (zs es : List Int) : heB P Q G zs es = wpB P Q G zs es := by
  rw [Bool.eq_iff_iff]
  simp only [heB, wpB, csB, exsB, allIn, Bool.and_eq_true, decide_eq_true_eq]
  constructor
  · rintro ⟨⟨⟨h1, h2⟩, h3, h4⟩, h5, h6⟩; exact ⟨⟨⟨h2, h3, h4⟩, h1⟩, h6⟩
  · rintro ⟨⟨⟨h2, h3, h4⟩, h1⟩, h6⟩; exact ⟨⟨⟨h1, h2⟩, h3, h4⟩, by omega, h6⟩
theorem wp_parts {P Q G : Int} {zs es : List Int} (h : wpB P Q G zs es = true) : goodB P Q G = true ∧ csB P Q zs = true ∧ zs.length = es.length * 2 ∧ ∀ e ∈ es, 0 ≤ e ∧ e < Q := by
  unfold wpB at h
  simp only [Bool.and_eq_true, decide_eq_true_eq] at h
  refine ⟨h.1.1.1, h.1.1.2, h.1.2, fun e he => ?_⟩
  have := List.all_eq_true.1 h.2 e he
  rw [inB_true] at this
  omega

set_option maxHeartbeats 1600000 in
theorem mulCiphers_any (P Q G : Int) (ad : Option Addr) (n cap : Nat) (zs : List Int) (hn : zs.length = n * 2) (hl : n ≤ 2000000) (w : World) (hz : IsInts w ad zs) :
    Calls Try.prog 48 #[gv P Q G, .slice ad n cap] w fun e w' => e = .returned (.tuple #[cv (mcA P Q G zs) (mcM P Q G zs), .bool (mcB P Q G zs)]) ∧ Below w.heap.size w w' := by
  have HN := Lib.hid hn
  clear hn
  cases h1 : goodB P Q G
  · skip
    have e0 : mcB P Q G zs = false := by simp [mcB, h1]
    obtain ⟨e1, e2⟩ := mc_off e0
    rw [e0, e1, e2]
    clear e0 e1 e2
    have H1 := Lib.hid h1
    clear h1
    have G_0 := Lib.hid ((gr_at w (w.heap.size) (by simp) P Q G 29).below (ba (w.alloc (.cells #[.int .i64 P, .int .i64 Q, .int .i64 G] 29)) (.cells #[.int .i64 0, .int .i64 0] 60)))
    have R_0 := Lib.hid (c2_at (w.alloc (.cells #[.int .i64 P, .int .i64 Q, .int .i64 G] 29)) (w.heap.size + 1) (by simp) 0 0 60)
    have HB_0 := Lib.hid (show Below w.heap.size w ((w.alloc (.cells #[.int .i64 P, .int .i64 Q, .int .i64 G] 29)).alloc (.cells #[.int .i64 0, .int .i64 0] 60)) from bt (ba _ _) (ba _ _))
    have Z_0 := Lib.hid (hz.below HB_0.out (Nat.le_refl _))
    go_enter Try.func48, Try.ntmps48
    go_wp2_with fail
    refine (isValidGroup_any _ _ _ _).mono ?_
    rw [H1.out]
    rintro e v1 ⟨rfl, hb⟩
    have HB_1 := Lib.hid (bt HB_0.out hb)
    have G_1 := Lib.hid (G_0.out.below hb)
    have R_1 := Lib.hid (R_0.out.below hb)
    have Z_1 := Lib.hid (Z_0.out.below hb (Nat.le_refl _))
    clear hb
    obtain ⟨gG0, gG1, gG2⟩ := G_1.out
    obtain ⟨rR0, rR1, rfR⟩ := R_1.out
    have rfR0 := rfR 0
    have rfR1 := rfR 1
    go_wp2
    (try simp only [Exit.inBlock, Exit.then])
    refine bodyPost_ret (v := .tuple #[cv 0 0, .bool false]) ?_ rfl ⟨rfl, ?_⟩
    · rw [results_cell_tmp rfl]; go_simp
    · first | exact HB_1.out | exact set_below HB_1.out (w.heap.size + 1) (by omega) _ _
  cases h2 : csB P Q zs
  · skip
    have e0 : mcB P Q G zs = false := by simp [mcB, h2]
    obtain ⟨e1, e2⟩ := mc_off e0
    rw [e0, e1, e2]
    clear e0 e1 e2
    have hmo := good_mo h1
    have hP : 2 ≤ P ∧ P ≤ 2000000000 := hmo.1
    have H1 := Lib.hid h1
    have H2 := Lib.hid h2
    clear h1 h2
    have G_0 := Lib.hid ((gr_at w (w.heap.size) (by simp) P Q G 29).below (ba (w.alloc (.cells #[.int .i64 P, .int .i64 Q, .int .i64 G] 29)) (.cells #[.int .i64 0, .int .i64 0] 60)))
    have R_0 := Lib.hid (c2_at (w.alloc (.cells #[.int .i64 P, .int .i64 Q, .int .i64 G] 29)) (w.heap.size + 1) (by simp) 0 0 60)
    have HB_0 := Lib.hid (show Below w.heap.size w ((w.alloc (.cells #[.int .i64 P, .int .i64 Q, .int .i64 G] 29)).alloc (.cells #[.int .i64 0, .int .i64 0] 60)) from bt (ba _ _) (ba _ _))
    have Z_0 := Lib.hid (hz.below HB_0.out (Nat.le_refl _))
    go_enter Try.func48, Try.ntmps48
    go_wp2_with fail
    refine (isValidGroup_any _ _ _ _).mono ?_
    rw [H1.out]
    rintro e v1 ⟨rfl, hb⟩
    have HB_1 := Lib.hid (bt HB_0.out hb)
    have G_1 := Lib.hid (G_0.out.below hb)
    have R_1 := Lib.hid (R_0.out.below hb)
    have Z_1 := Lib.hid (Z_0.out.below hb (Nat.le_refl _))
    clear hb
    obtain ⟨gG0, gG1, gG2⟩ := G_1.out
    obtain ⟨rR0, rR1, rfR⟩ := R_1.out
    have rfR0 := rfR 0
    have rfR1 := rfR 1
    go_wp2_with fail
    refine (areCiphers_any P Q G hmo _ _ _ zs HN.out (by omega) _ Z_1.out).mono ?_
    rw [H2.out]
    rintro e v2 ⟨rfl, hb⟩
    have HB_2 := Lib.hid (bt HB_1.out hb)
    have G_2 := Lib.hid (G_1.out.below hb)
    have R_2 := Lib.hid (R_1.out.below hb)
    have Z_2 := Lib.hid (Z_1.out.below hb (Nat.le_refl _))
    clear hb
    clear gG0 gG1 gG2 rR0 rR1 rfR rfR0 rfR1
    obtain ⟨gG0, gG1, gG2⟩ := G_2.out
    obtain ⟨rR0, rR1, rfR⟩ := R_2.out
    have rfR0 := rfR 0
    have rfR1 := rfR 1
    go_wp2
    (try simp only [Exit.inBlock, Exit.then])
    refine bodyPost_ret (v := .tuple #[cv 0 0, .bool false]) ?_ rfl ⟨rfl, ?_⟩
    · rw [results_cell_tmp rfl]; go_simp
    · first | exact HB_2.out | exact set_below HB_2.out (w.heap.size + 1) (by omega) _ _
  have e0 : mcB P Q G zs = true := by simp [mcB, h1, h2]
  obtain ⟨e1, e2⟩ := mc_on e0
  rw [e0, e1, e2]
  clear e0 e1 e2
  have hmo := good_mo h1
  have hP : 2 ≤ P ∧ P ≤ 2000000000 := hmo.1
  have HCR := Lib.hid (cs_rng h2).2
  have H1 := Lib.hid h1
  have H2 := Lib.hid h2
  clear h1 h2
  have G_0 := Lib.hid ((gr_at w (w.heap.size) (by simp) P Q G 29).below (ba (w.alloc (.cells #[.int .i64 P, .int .i64 Q, .int .i64 G] 29)) (.cells #[.int .i64 0, .int .i64 0] 60)))
  have R_0 := Lib.hid (c2_at (w.alloc (.cells #[.int .i64 P, .int .i64 Q, .int .i64 G] 29)) (w.heap.size + 1) (by simp) 0 0 60)
  have HB_0 := Lib.hid (show Below w.heap.size w ((w.alloc (.cells #[.int .i64 P, .int .i64 Q, .int .i64 G] 29)).alloc (.cells #[.int .i64 0, .int .i64 0] 60)) from bt (ba _ _) (ba _ _))
  have Z_0 := Lib.hid (hz.below HB_0.out (Nat.le_refl _))
  go_enter Try.func48, Try.ntmps48
  go_wp2_with fail
  refine (isValidGroup_any _ _ _ _).mono ?_
  rw [H1.out]
  rintro e v1 ⟨rfl, hb⟩
  have HB_1 := Lib.hid (bt HB_0.out hb)
  have G_1 := Lib.hid (G_0.out.below hb)
  have R_1 := Lib.hid (R_0.out.below hb)
  have Z_1 := Lib.hid (Z_0.out.below hb (Nat.le_refl _))
  clear hb
  obtain ⟨gG0, gG1, gG2⟩ := G_1.out
  obtain ⟨rR0, rR1, rfR⟩ := R_1.out
  have rfR0 := rfR 0
  have rfR1 := rfR 1
  go_wp2_with fail
  refine (areCiphers_any P Q G hmo _ _ _ zs HN.out (by omega) _ Z_1.out).mono ?_
  rw [H2.out]
  rintro e v2 ⟨rfl, hb⟩
  have HB_2 := Lib.hid (bt HB_1.out hb)
  have G_2 := Lib.hid (G_1.out.below hb)
  have R_2 := Lib.hid (R_1.out.below hb)
  have Z_2 := Lib.hid (Z_1.out.below hb (Nat.le_refl _))
  clear hb
  clear gG0 gG1 gG2 rR0 rR1 rfR rfR0 rfR1
  obtain ⟨gG0, gG1, gG2⟩ := G_2.out
  obtain ⟨rR0, rR1, rfR⟩ := R_2.out
  have rfR0 := rfR 0
  have rfR1 := rfR 1
  go_wp2_with fail
  refine (products_any P Q G _).mono ?_
  rintro e v3 ⟨B, rfl, hgB, hb⟩
  have HB_3 := Lib.hid (bt HB_2.out hb)
  have G_3 := Lib.hid (G_2.out.below hb)
  have R_3 := Lib.hid (R_2.out.below hb)
  have Z_3 := Lib.hid (Z_2.out.below hb (Nat.le_refl _))
  clear hb
  clear gG0 gG1 gG2 rR0 rR1 rfR rfR0 rfR1
  obtain ⟨gG0, gG1, gG2⟩ := G_3.out
  obtain ⟨rR0, rR1, rfR⟩ := R_3.out
  have rfR0 := rfR 0
  have rfR1 := rfR 1
  have GB_3 := Lib.hid hgB
  clear hgB
  go_wp2_with fail
  refine (ofAll_any P Q G hP.1 hP.2 _ _ _ zs HN.out hl HCR.out B _ Z_3.out GB_3.out).mono ?_
  rintro e v4 ⟨rfl, hb⟩
  have HB_4 := Lib.hid (bt HB_3.out hb)
  have G_4 := Lib.hid (G_3.out.below hb)
  have R_4 := Lib.hid (R_3.out.below hb)
  have Z_4 := Lib.hid (Z_3.out.below hb (Nat.le_refl _))
  have GB_4 := Lib.hid (GB_3.out.below hb)
  clear hb
  clear gG0 gG1 gG2 rR0 rR1 rfR rfR0 rfR1
  obtain ⟨gG0, gG1, gG2⟩ := G_4.out
  obtain ⟨rR0, rR1, rfR⟩ := R_4.out
  have rfR0 := rfR 0
  have rfR1 := rfR 1
  go_wp2
  (try simp only [Exit.inBlock, Exit.then])
  refine bodyPost_ret (v := .tuple #[cv (mulFrom P 1 (evens zs)) (mulFrom P 1 (odds zs)), .bool true]) ?_ rfl ⟨rfl, ?_⟩
  · rw [results_cell_tmp rfl]; go_simp
  · first | exact HB_4.out | exact set_below HB_4.out (w.heap.size + 1) (by omega) _ _

/-- CipherSum's condition and what it answers. -/
def suB (P Q G : Int) (zs : List Int) : Bool := decide (zs.length ≠ 0) && mcB P Q G zs
def suA (P Q G : Int) (zs : List Int) : Int := if zs.length = 0 then 0 else mcA P Q G zs
def suM (P Q G : Int) (zs : List Int) : Int := if zs.length = 0 then 0 else mcM P Q G zs

theorem cipherSum_any (P Q G : Int) (ad : Option Addr) (n cap : Nat) (zs : List Int) (hn : zs.length = n * 2) (hl : n ≤ 2000000) (w : World) (hz : IsInts w ad zs) :
    Calls Try.prog 49 #[gv P Q G, .slice ad n cap] w fun e w' => e = .returned (.tuple #[cv (suA P Q G zs) (suM P Q G zs), .bool (suB P Q G zs)]) ∧ Below w.heap.size w w' := by
  by_cases h0 : n = 0
  · have e0 : suB P Q G zs = false := by simp [suB, hn, h0]
    have e1 : suA P Q G zs = 0 := by simp [suA, hn, h0]
    have e2 : suM P Q G zs = 0 := by simp [suM, hn, h0]
    rw [e0, e1, e2]
    subst h0
    clear e0 e1 e2 hn
    have G_0 := Lib.hid ((gr_at w (w.heap.size) (by simp) P Q G 29).below (ba (w.alloc (.cells #[.int .i64 P, .int .i64 Q, .int .i64 G] 29)) (.cells #[.int .i64 0, .int .i64 0] 60)))
    have R_0 := Lib.hid (c2_at (w.alloc (.cells #[.int .i64 P, .int .i64 Q, .int .i64 G] 29)) (w.heap.size + 1) (by simp) 0 0 60)
    have HB_0 := Lib.hid (show Below w.heap.size w ((w.alloc (.cells #[.int .i64 P, .int .i64 Q, .int .i64 G] 29)).alloc (.cells #[.int .i64 0, .int .i64 0] 60)) from bt (ba _ _) (ba _ _))
    go_enter Try.func49, Try.ntmps49
    go_wp2
    (try simp only [Exit.inBlock, Exit.then])
    refine bodyPost_ret (v := .tuple #[cv 0 0, .bool false]) ?_ rfl ⟨rfl, ?_⟩
    · rw [results_cell_tmp rfl]; go_simp
    · first | exact HB_0.out | exact set_below HB_0.out (w.heap.size + 1) (by omega) _ _
  · have e0 : suB P Q G zs = mcB P Q G zs := by unfold suB; rw [decide_eq_true (by omega)]; rfl
    have e1 : suA P Q G zs = mcA P Q G zs := by unfold suA; rw [if_neg (by omega)]
    have e2 : suM P Q G zs = mcM P Q G zs := by unfold suM; rw [if_neg (by omega)]
    rw [e0, e1, e2]
    have HN := Lib.hid hn
    have hni : ¬ (n : Int) = 0 := by omega
    have hnb : ((n : Int) == 0) = false := by simp; omega
    clear e0 e1 e2 hn
    have G_0 := Lib.hid ((gr_at w (w.heap.size) (by simp) P Q G 29).below (ba (w.alloc (.cells #[.int .i64 P, .int .i64 Q, .int .i64 G] 29)) (.cells #[.int .i64 0, .int .i64 0] 60)))
    have R_0 := Lib.hid (c2_at (w.alloc (.cells #[.int .i64 P, .int .i64 Q, .int .i64 G] 29)) (w.heap.size + 1) (by simp) 0 0 60)
    have HB_0 := Lib.hid (show Below w.heap.size w ((w.alloc (.cells #[.int .i64 P, .int .i64 Q, .int .i64 G] 29)).alloc (.cells #[.int .i64 0, .int .i64 0] 60)) from bt (ba _ _) (ba _ _))
    go_enter Try.func49, Try.ntmps49
    have Z_0 := Lib.hid (hz.below HB_0.out (Nat.le_refl _))
    go_wp2_with fail
    refine (mulCiphers_any P Q G _ _ _ zs HN.out hl _ Z_0.out).mono ?_
    rintro e v1 ⟨rfl, hb⟩
    have HB_1 := Lib.hid (bt HB_0.out hb)
    have G_1 := Lib.hid (G_0.out.below hb)
    have R_1 := Lib.hid (R_0.out.below hb)
    have Z_1 := Lib.hid (Z_0.out.below hb (Nat.le_refl _))
    clear hb
    obtain ⟨gG0, gG1, gG2⟩ := G_1.out
    obtain ⟨rR0, rR1, rfR⟩ := R_1.out
    have rfR0 := rfR 0
    have rfR1 := rfR 1
    go_wp2
    (try simp only [Exit.inBlock, Exit.then])
    refine bodyPost_ret (v := .tuple #[cv (mcA P Q G zs) (mcM P Q G zs), .bool (mcB P Q G zs)]) ?_ rfl ⟨rfl, ?_⟩
    · rw [results_cell_tmp rfl]; go_simp
    · first | exact HB_1.out | exact set_below HB_1.out (w.heap.size + 1) (by omega) _ _

theorem ediv_any (q a b : Int) (h2 : 2 ≤ q) (h3 : q ≤ 2000000000) (ha0 : 0 ≤ a) (ha : a < q) (hb0 : 0 ≤ b) (hb : b < q) (hok : Num.invOk b q = true) (i0 : 0 ≤ Num.inv b q) (i1 : Num.inv b q < q) (w : World) :
    Calls Try.prog 84 #[.int .i64 q, .int .i64 a, .int .i64 b] w fun e w' => e = .returned (.int .i64 (a * Num.inv b q % q)) ∧ w = w' := by
  obtain ⟨p0, p1⟩ := prod_bd (a := a) (z := Num.inv b q) ha0 (by omega) i0 (by omega)
  have HK := Lib.hid hok
  clear hok
  go_enter Try.func84, Try.ntmps84
  go_wp2_with fail
  refine (invert_any _ _ (by omega) (by omega) (by omega) _).mono ?_; rintro e w' ⟨rfl, rfl⟩; rw [HK.out]
  go_wp2
  go_ret
  exact ⟨rfl, rfl⟩
theorem dec_on {P Q G s a b : Int} (h : decB P Q G s a b = true) : decV P Q G s a b = decW P Q a b s := by simp [decV, h]
theorem dec_off {P Q G s a b : Int} (h : decB P Q G s a b = false) : decV P Q G s a b = 0 := by simp [decV, h]

set_option maxRecDepth 100000 in
set_option maxHeartbeats 3200000 in
theorem decryptElement_any (P Q G s a b : Int) (w : World) :
    Calls Try.prog 44 #[gv P Q G, .int .i64 s, cv a b] w fun e w' => e = .returned (.tuple #[.int .i64 (decV P Q G s a b), .bool (decB P Q G s a b)]) ∧ Below w.heap.size w w' := by
  cases h1 : vcB P Q G a b
  · skip
    have e0 : decB P Q G s a b = false := by simp [decB, h1]
    rw [e0, dec_off e0]
    clear e0
    have H1 := Lib.hid h1
    clear h1
    have G_0 := Lib.hid ((gr_at w (w.heap.size) (by simp) P Q G 29).below (ba (w.alloc (.cells #[.int .i64 P, .int .i64 Q, .int .i64 G] 29)) (.cells #[.int .i64 a, .int .i64 b] 60)))
    have C_0 := Lib.hid (c2_at (w.alloc (.cells #[.int .i64 P, .int .i64 Q, .int .i64 G] 29)) (w.heap.size + 1) (by simp) a b 60)
    have HB_0 := Lib.hid (show Below w.heap.size w ((w.alloc (.cells #[.int .i64 P, .int .i64 Q, .int .i64 G] 29)).alloc (.cells #[.int .i64 a, .int .i64 b] 60)) from bt (ba _ _) (ba _ _))
    go_enter Try.func44, Try.ntmps44
    go_wp2_with fail
    refine (isValidCipher_any _ _ _ _ _ _).mono ?_
    rw [H1.out]
    rintro e v1 ⟨rfl, hb⟩
    have HB_1 := Lib.hid (bt HB_0.out hb)
    have G_1 := Lib.hid (G_0.out.below hb)
    have C_1 := Lib.hid (C_0.out.below hb)
    clear hb
    obtain ⟨gG0, gG1, gG2⟩ := G_1.out
    obtain ⟨cC0, cC1, cfC⟩ := C_1.out
    go_wp2
    go_ret2
    exact ⟨rfl, HB_1.out⟩
  cases h2 : exB Q s
  · skip
    have e0 : decB P Q G s a b = false := by simp [decB, h2]
    rw [e0, dec_off e0]
    clear e0
    have hgd : goodB P Q G = true ∧ elB P Q a = true ∧ elB P Q b = true := by unfold vcB cipB at h1; simpa [Bool.and_eq_true] using h1
    have hmo := good_mo hgd.1
    have hP : 2 ≤ P ∧ P ≤ 2000000000 := hmo.1
    have HA := Lib.hid (el_rng hgd.2.1)
    have HBB := Lib.hid (el_rng hgd.2.2)
    have H1 := Lib.hid h1
    have H2 := Lib.hid h2
    clear h1 h2
    have G_0 := Lib.hid ((gr_at w (w.heap.size) (by simp) P Q G 29).below (ba (w.alloc (.cells #[.int .i64 P, .int .i64 Q, .int .i64 G] 29)) (.cells #[.int .i64 a, .int .i64 b] 60)))
    have C_0 := Lib.hid (c2_at (w.alloc (.cells #[.int .i64 P, .int .i64 Q, .int .i64 G] 29)) (w.heap.size + 1) (by simp) a b 60)
    have HB_0 := Lib.hid (show Below w.heap.size w ((w.alloc (.cells #[.int .i64 P, .int .i64 Q, .int .i64 G] 29)).alloc (.cells #[.int .i64 a, .int .i64 b] 60)) from bt (ba _ _) (ba _ _))
    go_enter Try.func44, Try.ntmps44
    go_wp2_with fail
    refine (isValidCipher_any _ _ _ _ _ _).mono ?_
    rw [H1.out]
    rintro e v1 ⟨rfl, hb⟩
    have HB_1 := Lib.hid (bt HB_0.out hb)
    have G_1 := Lib.hid (G_0.out.below hb)
    have C_1 := Lib.hid (C_0.out.below hb)
    clear hb
    obtain ⟨gG0, gG1, gG2⟩ := G_1.out
    obtain ⟨cC0, cC1, cfC⟩ := C_1.out
    go_wp2_with fail
    refine (hasExponent_any _ _ _ _ _).mono ?_
    rw [H2.out]
    rintro e v2 ⟨rfl, hb⟩
    have HB_2 := Lib.hid (bt HB_1.out hb)
    have G_2 := Lib.hid (G_1.out.below hb)
    have C_2 := Lib.hid (C_1.out.below hb)
    clear hb
    clear gG0 gG1 gG2 cC0 cC1 cfC
    obtain ⟨gG0, gG1, gG2⟩ := G_2.out
    obtain ⟨cC0, cC1, cfC⟩ := C_2.out
    go_wp2
    go_ret2
    exact ⟨rfl, HB_2.out⟩
  have e0 : decB P Q G s a b = true := by simp [decB, h1, h2]
  rw [e0, dec_on e0]
  clear e0
  have hgd : goodB P Q G = true ∧ elB P Q a = true ∧ elB P Q b = true := by unfold vcB cipB at h1; simpa [Bool.and_eq_true] using h1
  have hmo := good_mo hgd.1
  have hP : 2 ≤ P ∧ P ≤ 2000000000 := hmo.1
  have HA := Lib.hid (el_rng hgd.2.1)
  have HBB := Lib.hid (el_rng hgd.2.2)
  have hs := exB_true.1 h2
  have hpe := inv_el hgd.1 (el_pow hgd.1 hgd.2.1 hs.1)
  have hir := pow_lt (Num.pow a s P) (Q - 1) P hP.1
  have HOK := Lib.hid (show Num.invOk (Num.pow a s P) P = true ∧ 0 ≤ Num.inv (Num.pow a s P) P ∧ Num.inv (Num.pow a s P) P < P ∧ Num.inv (Num.pow a s P) P = Num.pow (Num.pow a s P) (Q - 1) P from ⟨hpe.1, by rw [hpe.2]; exact hir.1, by rw [hpe.2]; exact hir.2, hpe.2⟩)
  clear hpe hir hgd
  have H1 := Lib.hid h1
  have H2 := Lib.hid h2
  clear h1 h2
  have G_0 := Lib.hid ((gr_at w (w.heap.size) (by simp) P Q G 29).below (ba (w.alloc (.cells #[.int .i64 P, .int .i64 Q, .int .i64 G] 29)) (.cells #[.int .i64 a, .int .i64 b] 60)))
  have C_0 := Lib.hid (c2_at (w.alloc (.cells #[.int .i64 P, .int .i64 Q, .int .i64 G] 29)) (w.heap.size + 1) (by simp) a b 60)
  have HB_0 := Lib.hid (show Below w.heap.size w ((w.alloc (.cells #[.int .i64 P, .int .i64 Q, .int .i64 G] 29)).alloc (.cells #[.int .i64 a, .int .i64 b] 60)) from bt (ba _ _) (ba _ _))
  go_enter Try.func44, Try.ntmps44
  go_wp2_with fail
  refine (isValidCipher_any _ _ _ _ _ _).mono ?_
  rw [H1.out]
  rintro e v1 ⟨rfl, hb⟩
  have HB_1 := Lib.hid (bt HB_0.out hb)
  have G_1 := Lib.hid (G_0.out.below hb)
  have C_1 := Lib.hid (C_0.out.below hb)
  clear hb
  obtain ⟨gG0, gG1, gG2⟩ := G_1.out
  obtain ⟨cC0, cC1, cfC⟩ := C_1.out
  go_wp2_with fail
  refine (hasExponent_any _ _ _ _ _).mono ?_
  rw [H2.out]
  rintro e v2 ⟨rfl, hb⟩
  have HB_2 := Lib.hid (bt HB_1.out hb)
  have G_2 := Lib.hid (G_1.out.below hb)
  have C_2 := Lib.hid (C_1.out.below hb)
  clear hb
  clear gG0 gG1 gG2 cC0 cC1 cfC
  obtain ⟨gG0, gG1, gG2⟩ := G_2.out
  obtain ⟨cC0, cC1, cfC⟩ := C_2.out
  obtain ⟨y0, y1⟩ := pow_lt a s P hP.1
  have hQ9 : Q ≤ 2000000000 := by obtain ⟨_, _, hq⟩ := hmo; exact hq
  go_wp2_with fail
  skip
  go_region_held3 (fun w' => w'.cell? ⟨w.heap.size, 0, none⟩ = some (.int .i64 P) ∧ w'.cell? ⟨w.heap.size, 1, none⟩ = some (.int .i64 Q) ∧ w'.cell? ⟨w.heap.size, 2, none⟩ = some (.int .i64 G) ∧ w'.cell? ⟨w.heap.size + 1, 0, none⟩ = some (.int .i64 a) ∧ w'.cell? ⟨w.heap.size + 1, 1, none⟩ = some (.int .i64 b)) (first | with_reducible exact ⟨x0', x1', x2', xc0, xc1⟩ | exact ⟨gG0, gG1, gG2, cC0, cC1⟩) ((first
    | (go_at_call 108; refine (power_any P Q G a s HA.out.1 (by have := HA.out.2; omega) hs.1 (by omega) hP.1 hP.2 _).mono ?_; rintro e vx ⟨rfl, hp⟩; have HBx := Lib.hid (bt_drop HB_2.out hp); have Gx := Lib.hid (gr_drop G_2.out hp); have Cx := Lib.hid (c2_drop C_2.out hp); clear hp; obtain ⟨x0', x1', x2'⟩ := Gx.out; obtain ⟨xc0, xc1, _⟩ := Cx.out)
    | (go_at_call 84; refine (ediv_any P b (Num.pow a s P) hP.1 hP.2 HBB.out.1 HBB.out.2 y0 y1 HOK.out.1 HOK.out.2.1 HOK.out.2.2.1 _).mono ?_; rintro e _ ⟨rfl, rfl⟩)
    | fail))
  all_goals (
    go_wp2
    go_ret2
    exact ⟨by unfold decW; rw [← HOK.out.2.2.2]; rfl, HBx.out⟩)

/-- DecryptExp's condition and what it answers. -/
def dxB (P Q G s a b most : Int) : Bool := decB P Q G s a b && logB P Q G G (decW P Q a b s) most
def dxV (P Q G s a b most : Int) : Int := if decB P Q G s a b then logV P Q G G (decW P Q a b s) most else 0
theorem dx_on {P Q G s a b most : Int} (h : decB P Q G s a b = true) : dxB P Q G s a b most = logB P Q G G (decW P Q a b s) most ∧ dxV P Q G s a b most = logV P Q G G (decW P Q a b s) most := by simp [dxB, dxV, h]
theorem dx_off {P Q G s a b most : Int} (h : decB P Q G s a b = false) : dxB P Q G s a b most = false ∧ dxV P Q G s a b most = 0 := by simp [dxB, dxV, h]

theorem decryptExp_any (P Q G s a b most : Int) (w : World) :
    Calls Try.prog 42 #[gv P Q G, .int .i64 s, cv a b, .int .i64 most] w fun e w' => e = .returned (.tuple #[.int .i64 (dxV P Q G s a b most), .bool (dxB P Q G s a b most)]) ∧ Below w.heap.size w w' := by
  cases h1 : decB P Q G s a b
  · obtain ⟨e0, e1⟩ := dx_off (most := most) h1
    have HV := Lib.hid (dec_off h1)
    rw [e0, e1]
    have H1 := Lib.hid h1
    clear e0 e1 h1
    have G_0 := Lib.hid ((gr_at w (w.heap.size) (by simp) P Q G 29).below (ba (w.alloc (.cells #[.int .i64 P, .int .i64 Q, .int .i64 G] 29)) (.cells #[.int .i64 a, .int .i64 b] 60)))
    have C_0 := Lib.hid (c2_at (w.alloc (.cells #[.int .i64 P, .int .i64 Q, .int .i64 G] 29)) (w.heap.size + 1) (by simp) a b 60)
    have HB_0 := Lib.hid (show Below w.heap.size w ((w.alloc (.cells #[.int .i64 P, .int .i64 Q, .int .i64 G] 29)).alloc (.cells #[.int .i64 a, .int .i64 b] 60)) from bt (ba _ _) (ba _ _))
    go_enter Try.func42, Try.ntmps42
    go_wp2_with fail
    refine (decryptElement_any P Q G s a b _).mono ?_
    rw [H1.out, HV.out]
    rintro e v1 ⟨rfl, hb⟩
    have HB_1 := Lib.hid (bt HB_0.out hb)
    have G_1 := Lib.hid (G_0.out.below hb)
    have C_1 := Lib.hid (C_0.out.below hb)
    clear hb
    obtain ⟨gG0, gG1, gG2⟩ := G_1.out
    obtain ⟨cC0, cC1, cfC⟩ := C_1.out
    go_wp2
    go_ret2
    exact ⟨rfl, HB_1.out⟩
  · obtain ⟨e0, e1⟩ := dx_on (most := most) h1
    have HV := Lib.hid (dec_on h1)
    rw [e0, e1]
    have H1 := Lib.hid h1
    clear e0 e1 h1
    have G_0 := Lib.hid ((gr_at w (w.heap.size) (by simp) P Q G 29).below (ba (w.alloc (.cells #[.int .i64 P, .int .i64 Q, .int .i64 G] 29)) (.cells #[.int .i64 a, .int .i64 b] 60)))
    have C_0 := Lib.hid (c2_at (w.alloc (.cells #[.int .i64 P, .int .i64 Q, .int .i64 G] 29)) (w.heap.size + 1) (by simp) a b 60)
    have HB_0 := Lib.hid (show Below w.heap.size w ((w.alloc (.cells #[.int .i64 P, .int .i64 Q, .int .i64 G] 29)).alloc (.cells #[.int .i64 a, .int .i64 b] 60)) from bt (ba _ _) (ba _ _))
    go_enter Try.func42, Try.ntmps42
    go_wp2_with fail
    refine (decryptElement_any P Q G s a b _).mono ?_
    rw [H1.out, HV.out]
    rintro e v1 ⟨rfl, hb⟩
    have HB_1 := Lib.hid (bt HB_0.out hb)
    have G_1 := Lib.hid (G_0.out.below hb)
    have C_1 := Lib.hid (C_0.out.below hb)
    clear hb
    obtain ⟨gG0, gG1, gG2⟩ := G_1.out
    obtain ⟨cC0, cC1, cfC⟩ := C_1.out
    go_wp2_with fail
    refine (logOf_any P Q G G (decW P Q a b s) most _).mono ?_
    rintro e v2 ⟨rfl, hb⟩
    have HB_2 := Lib.hid (bt HB_1.out hb)
    have G_2 := Lib.hid (G_1.out.below hb)
    have C_2 := Lib.hid (C_1.out.below hb)
    clear hb
    clear gG0 gG1 gG2 cC0 cC1 cfC
    obtain ⟨gG0, gG1, gG2⟩ := G_2.out
    obtain ⟨cC0, cC1, cfC⟩ := C_2.out
    go_wp2
    go_ret2
    exact ⟨rfl, HB_2.out⟩

end Go.Proofs.Ytglfbhkdmkneoaa

