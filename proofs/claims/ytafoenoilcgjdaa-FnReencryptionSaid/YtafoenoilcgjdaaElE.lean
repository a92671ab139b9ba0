/- ElGamal: the program's functions on lists of ciphertexts, and decryption. -/
import Derived.Test.YtafoenoilcgjdaaElC
namespace Go.Proofs.Ytafoenoilcgjdaa
open Go.RowKit


theorem kpower_any (P Q G a b e : Int) (h2 : 2 ≤ P) (h3 : P ≤ 2000000000) (a0 : 0 ≤ a) (a1 : a < P) (b0 : 0 ≤ b) (b1 : b < P) (e0 : 0 ≤ e) (e1 : e ≤ 2000000000) (B : Nat) (w : World) (hB : GR w B P Q G) :
    Calls Try.prog 92 #[kv B, cv a b, .int .i64 e] w fun e' w' => e' = .returned (cv (Num.pow a e P) (Num.pow b e P)) ∧ Below w.heap.size w w' := by
  obtain ⟨p, rfl⟩ := Int.eq_ofNat_of_zero_le (show 0 ≤ P by omega)
  obtain ⟨a, rfl⟩ := Int.eq_ofNat_of_zero_le a0
  obtain ⟨b, rfl⟩ := Int.eq_ofNat_of_zero_le b0
  obtain ⟨e, rfl⟩ := Int.eq_ofNat_of_zero_le e0
  exact kpower_nat p a b e Q G (by omega) (by omega) (by omega) (by omega) (by omega) B w hB

theorem cs_rng {P Q : Int} {zs : List Int} (h : csB P Q zs = true) : zs.length ≤ 48 ∧ ∀ z ∈ zs, 0 ≤ z ∧ z < P := by
  unfold csB at h
  rw [Bool.and_eq_true, decide_eq_true_eq] at h
  exact ⟨h.1, all_rng h.2⟩
theorem mc_on {P Q G : Int} {zs : List Int} (h : mcB P Q G zs = true) : mcA P Q G zs = mulFrom P 1 (evens zs) ∧ mcM P Q G zs = mulFrom P 1 (odds zs) := by simp [mcA, mcM, h]
theorem wp_on {P Q G : Int} {zs es : List Int} (h : wpB P Q G zs es = true) : wpA P Q G zs es = powsFrom P 1 (evens zs) es ∧ wpM P Q G zs es = powsFrom P 1 (odds zs) es := by simp [wpA, wpM, h]
theorem he_wp (P Q G : Int) (zs es : List Int) : heB P Q G zs es = wpB P Q G zs es := by
  rw [Bool.eq_iff_iff]
  simp only [heB, wpB, csB, exsB, allIn, Bool.and_eq_true, decide_eq_true_eq]
  constructor
  · rintro ⟨⟨⟨h1, h2⟩, h3, h4⟩, h5, h6⟩; exact ⟨⟨⟨h2, h3, h4⟩, h1⟩, h6⟩
  · rintro ⟨⟨⟨h2, h3, h4⟩, h1⟩, h6⟩; exact ⟨⟨⟨h1, h2⟩, h3, h4⟩, by omega, h6⟩
theorem wp_parts {P Q G : Int} {zs es : List Int} (h : wpB P Q G zs es = true) : goodB P Q G = true ∧ csB P Q zs = true ∧ zs.length = es.length * 2 ∧ ∀ e ∈ es, 0 ≤ e ∧ e < Q := by
  unfold wpB at h
  simp only [Bool.and_eq_true, decide_eq_true_eq] at h
  refine ⟨h.1.1.1, h.1.1.2, h.1.2, fun e he => ?_⟩
  have := List.all_eq_true.1 h.2 e he
  rw [inB_true] at this
  omega

set_option maxHeartbeats 1600000 in
theorem mulCiphers_any (P Q G : Int) (ad : Option Addr) (n cap : Nat) (zs : List Int) (hn : zs.length = n * 2) (hl : n ≤ 2000000) (w : World) (hz : IsInts w ad zs) :
    Calls Try.prog 41 #[gv P Q G, .slice ad n cap] w fun e w' => e = .returned (.tuple #[cv (mcA P Q G zs) (mcM P Q G zs), .bool (mcB P Q G zs)]) ∧ Below w.heap.size w w' := by
  have HN := Lib.hid hn
  clear hn
  cases h1 : goodB P Q G
  · skip
    have e0 : mcB P Q G zs = false := by simp [mcB, h1]
    obtain ⟨e1, e2⟩ := mc_off e0
    rw [e0, e1, e2]
    clear e0 e1 e2
    have H1 := Lib.hid h1
    clear h1
    have G_0 := Lib.hid ((gr_at w (w.heap.size) (by simp) P Q G 27).below (ba (w.alloc (.cells #[.int .i64 P, .int .i64 Q, .int .i64 G] 27)) (.cells #[.int .i64 0, .int .i64 0] 61)))
    have R_0 := Lib.hid (c2_at (w.alloc (.cells #[.int .i64 P, .int .i64 Q, .int .i64 G] 27)) (w.heap.size + 1) (by simp) 0 0 61)
    have HB_0 := Lib.hid (show Below w.heap.size w ((w.alloc (.cells #[.int .i64 P, .int .i64 Q, .int .i64 G] 27)).alloc (.cells #[.int .i64 0, .int .i64 0] 61)) from bt (ba _ _) (ba _ _))
    have Z_0 := Lib.hid (hz.below HB_0.out (Nat.le_refl _))
    go_enter Try.func41, Try.ntmps41
    go_wp2_with fail
    refine (isValidGroup_any _ _ _ _).mono ?_
    rw [H1.out]
    rintro e v1 ⟨rfl, hb⟩
    have HB_1 := Lib.hid (bt HB_0.out hb)
    have G_1 := Lib.hid (G_0.out.below hb)
    have R_1 := Lib.hid (R_0.out.below hb)
    have Z_1 := Lib.hid (Z_0.out.below hb (Nat.le_refl _))
    clear hb
    obtain ⟨gG0, gG1, gG2⟩ := G_1.out
    obtain ⟨rR0, rR1, rfR⟩ := R_1.out
    have rfR0 := rfR 0
    have rfR1 := rfR 1
    go_wp2
    (try simp only [Exit.inBlock, Exit.then])
    refine bodyPost_ret (v := .tuple #[cv 0 0, .bool false]) ?_ rfl ⟨rfl, ?_⟩
    · rw [results_cell_tmp rfl]; go_simp
    · first | exact HB_1.out | exact set_below HB_1.out (w.heap.size + 1) (by omega) _ _
  cases h2 : csB P Q zs
  · skip
    have e0 : mcB P Q G zs = false := by simp [mcB, h2]
    obtain ⟨e1, e2⟩ := mc_off e0
    rw [e0, e1, e2]
    clear e0 e1 e2
    have hmo := good_mo h1
    have hP : 2 ≤ P ∧ P ≤ 2000000000 := hmo.1
    have H1 := Lib.hid h1
    have H2 := Lib.hid h2
    clear h1 h2
    have G_0 := Lib.hid ((gr_at w (w.heap.size) (by simp) P Q G 27).below (ba (w.alloc (.cells #[.int .i64 P, .int .i64 Q, .int .i64 G] 27)) (.cells #[.int .i64 0, .int .i64 0] 61)))
    have R_0 := Lib.hid (c2_at (w.alloc (.cells #[.int .i64 P, .int .i64 Q, .int .i64 G] 27)) (w.heap.size + 1) (by simp) 0 0 61)
    have HB_0 := Lib.hid (show Below w.heap.size w ((w.alloc (.cells #[.int .i64 P, .int .i64 Q, .int .i64 G] 27)).alloc (.cells #[.int .i64 0, .int .i64 0] 61)) from bt (ba _ _) (ba _ _))
    have Z_0 := Lib.hid (hz.below HB_0.out (Nat.le_refl _))
    go_enter Try.func41, Try.ntmps41
    go_wp2_with fail
    refine (isValidGroup_any _ _ _ _).mono ?_
    rw [H1.out]
    rintro e v1 ⟨rfl, hb⟩
    have HB_1 := Lib.hid (bt HB_0.out hb)
    have G_1 := Lib.hid (G_0.out.below hb)
    have R_1 := Lib.hid (R_0.out.below hb)
    have Z_1 := Lib.hid (Z_0.out.below hb (Nat.le_refl _))
    clear hb
    obtain ⟨gG0, gG1, gG2⟩ := G_1.out
    obtain ⟨rR0, rR1, rfR⟩ := R_1.out
    have rfR0 := rfR 0
    have rfR1 := rfR 1
    go_wp2_with fail
    refine (areCiphers_any P Q G hmo _ _ _ zs HN.out (by omega) _ Z_1.out).mono ?_
    rw [H2.out]
    rintro e v2 ⟨rfl, hb⟩
    have HB_2 := Lib.hid (bt HB_1.out hb)
    have G_2 := Lib.hid (G_1.out.below hb)
    have R_2 := Lib.hid (R_1.out.below hb)
    have Z_2 := Lib.hid (Z_1.out.below hb (Nat.le_refl _))
    clear hb
    clear gG0 gG1 gG2 rR0 rR1 rfR rfR0 rfR1
    obtain ⟨gG0, gG1, gG2⟩ := G_2.out
    obtain ⟨rR0, rR1, rfR⟩ := R_2.out
    have rfR0 := rfR 0
    have rfR1 := rfR 1
    go_wp2
    (try simp only [Exit.inBlock, Exit.then])
    refine bodyPost_ret (v := .tuple #[cv 0 0, .bool false]) ?_ rfl ⟨rfl, ?_⟩
    · rw [results_cell_tmp rfl]; go_simp
    · first | exact HB_2.out | exact set_below HB_2.out (w.heap.size + 1) (by omega) _ _
  have e0 : mcB P Q G zs = true := by simp [mcB, h1, h2]
  obtain ⟨e1, e2⟩ := mc_on e0
  rw [e0, e1, e2]
  clear e0 e1 e2
  have hmo := good_mo h1
  have hP : 2 ≤ P ∧ P ≤ 2000000000 := hmo.1
  have HCR := Lib.hid (cs_rng h2).2
  have H1 := Lib.hid h1
  have H2 := Lib.hid h2
  clear h1 h2
  have G_0 := Lib.hid ((gr_at w (w.heap.size) (by simp) P Q G 27).below (ba (w.alloc (.cells #[.int .i64 P, .int .i64 Q, .int .i64 G] 27)) (.cells #[.int .i64 0, .int .i64 0] 61)))
  have R_0 := Lib.hid (c2_at (w.alloc (.cells #[.int .i64 P, .int .i64 Q, .int .i64 G] 27)) (w.heap.size + 1) (by simp) 0 0 61)
  have HB_0 := Lib.hid (show Below w.heap.size w ((w.alloc (.cells #[.int .i64 P, .int .i64 Q, .int .i64 G] 27)).alloc (.cells #[.int .i64 0, .int .i64 0] 61)) from bt (ba _ _) (ba _ _))
  have Z_0 := Lib.hid (hz.below HB_0.out (Nat.le_refl _))
  go_enter Try.func41, Try.ntmps41
  go_wp2_with fail
  refine (isValidGroup_any _ _ _ _).mono ?_
  rw [H1.out]
  rintro e v1 ⟨rfl, hb⟩
  have HB_1 := Lib.hid (bt HB_0.out hb)
  have G_1 := Lib.hid (G_0.out.below hb)
  have R_1 := Lib.hid (R_0.out.below hb)
  have Z_1 := Lib.hid (Z_0.out.below hb (Nat.le_refl _))
  clear hb
  obtain ⟨gG0, gG1, gG2⟩ := G_1.out
  obtain ⟨rR0, rR1, rfR⟩ := R_1.out
  have rfR0 := rfR 0
  have rfR1 := rfR 1
  go_wp2_with fail
  refine (areCiphers_any P Q G hmo _ _ _ zs HN.out (by omega) _ Z_1.out).mono ?_
  rw [H2.out]
  rintro e v2 ⟨rfl, hb⟩
  have HB_2 := Lib.hid (bt HB_1.out hb)
  have G_2 := Lib.hid (G_1.out.below hb)
  have R_2 := Lib.hid (R_1.out.below hb)
  have Z_2 := Lib.hid (Z_1.out.below hb (Nat.le_refl _))
  clear hb
  clear gG0 gG1 gG2 rR0 rR1 rfR rfR0 rfR1
  obtain ⟨gG0, gG1, gG2⟩ := G_2.out
  obtain ⟨rR0, rR1, rfR⟩ := R_2.out
  have rfR0 := rfR 0
  have rfR1 := rfR 1
  go_wp2_with fail
  refine (products_any P Q G _).mono ?_
  rintro e v3 ⟨B, rfl, hgB, hb⟩
  have HB_3 := Lib.hid (bt HB_2.out hb)
  have G_3 := Lib.hid (G_2.out.below hb)
  have R_3 := Lib.hid (R_2.out.below hb)
  have Z_3 := Lib.hid (Z_2.out.below hb (Nat.le_refl _))
  clear hb
  clear gG0 gG1 gG2 rR0 rR1 rfR rfR0 rfR1
  obtain ⟨gG0, gG1, gG2⟩ := G_3.out
  obtain ⟨rR0, rR1, rfR⟩ := R_3.out
  have rfR0 := rfR 0
  have rfR1 := rfR 1
  have GB_3 := Lib.hid hgB
  clear hgB
  go_wp2_with fail
  refine (ofAll_any P Q G hP.1 hP.2 _ _ _ zs HN.out hl HCR.out B _ Z_3.out GB_3.out).mono ?_
  rintro e v4 ⟨rfl, hb⟩
  have HB_4 := Lib.hid (bt HB_3.out hb)
  have G_4 := Lib.hid (G_3.out.below hb)
  have R_4 := Lib.hid (R_3.out.below hb)
  have Z_4 := Lib.hid (Z_3.out.below hb (Nat.le_refl _))
  have GB_4 := Lib.hid (GB_3.out.below hb)
  clear hb
  clear gG0 gG1 gG2 rR0 rR1 rfR rfR0 rfR1
  obtain ⟨gG0, gG1, gG2⟩ := G_4.out
  obtain ⟨rR0, rR1, rfR⟩ := R_4.out
  have rfR0 := rfR 0
  have rfR1 := rfR 1
  go_wp2
  (try simp only [Exit.inBlock, Exit.then])
  refine bodyPost_ret (v := .tuple #[cv (mulFrom P 1 (evens zs)) (mulFrom P 1 (odds zs)), .bool true]) ?_ rfl ⟨rfl, ?_⟩
  · rw [results_cell_tmp rfl]; go_simp
  · first | exact HB_4.out | exact set_below HB_4.out (w.heap.size + 1) (by omega) _ _

/-- CipherSum's condition and what it answers. -/
def suB (P Q G : Int) (zs : List Int) : Bool := decide (zs.length ≠ 0) && mcB P Q G zs
def suA (P Q G : Int) (zs : List Int) : Int := if zs.length = 0 then 0 else mcA P Q G zs
def suM (P Q G : Int) (zs : List Int) : Int := if zs.length = 0 then 0 else mcM P Q G zs

theorem cipherSum_any (P Q G : Int) (ad : Option Addr) (n cap : Nat) (zs : List Int) (hn : zs.length = n * 2) (hl : n ≤ 2000000) (w : World) (hz : IsInts w ad zs) :
    Calls Try.prog 49 #[gv P Q G, .slice ad n cap] w fun e w' => e = .returned (.tuple #[cv (suA P Q G zs) (suM P Q G zs), .bool (suB P Q G zs)]) ∧ Below w.heap.size w w' := by
  by_cases h0 : n = 0
  · have e0 : suB P Q G zs = false := by simp [suB, hn, h0]
    have e1 : suA P Q G zs = 0 := by simp [suA, hn, h0]
    have e2 : suM P Q G zs = 0 := by simp [suM, hn, h0]
    rw [e0, e1, e2]
    subst h0
    clear e0 e1 e2 hn
    have G_0 := Lib.hid ((gr_at w (w.heap.size) (by simp) P Q G 27).below (ba (w.alloc (.cells #[.int .i64 P, .int .i64 Q, .int .i64 G] 27)) (.cells #[.int .i64 0, .int .i64 0] 61)))
    have R_0 := Lib.hid (c2_at (w.alloc (.cells #[.int .i64 P, .int .i64 Q, .int .i64 G] 27)) (w.heap.size + 1) (by simp) 0 0 61)
    have HB_0 := Lib.hid (show Below w.heap.size w ((w.alloc (.cells #[.int .i64 P, .int .i64 Q, .int .i64 G] 27)).alloc (.cells #[.int .i64 0, .int .i64 0] 61)) from bt (ba _ _) (ba _ _))
    go_enter Try.func49, Try.ntmps49
    go_wp2
    (try simp only [Exit.inBlock, Exit.then])
    refine bodyPost_ret (v := .tuple #[cv 0 0, .bool false]) ?_ rfl ⟨rfl, ?_⟩
    · rw [results_cell_tmp rfl]; go_simp
    · first | exact HB_0.out | exact set_below HB_0.out (w.heap.size + 1) (by omega) _ _
  · have e0 : suB P Q G zs = mcB P Q G zs := by unfold suB; rw [decide_eq_true (by omega)]; rfl
    have e1 : suA P Q G zs = mcA P Q G zs := by unfold suA; rw [if_neg (by omega)]
    have e2 : suM P Q G zs = mcM P Q G zs := by unfold suM; rw [if_neg (by omega)]
    rw [e0, e1, e2]
    have HN := Lib.hid hn
    have hni : ¬ (n : Int) = 0 := by omega
    have hnb : ((n : Int) == 0) = false := by simp; omega
    clear e0 e1 e2 hn
    have G_0 := Lib.hid ((gr_at w (w.heap.size) (by simp) P Q G 27).below (ba (w.alloc (.cells #[.int .i64 P, .int .i64 Q, .int .i64 G] 27)) (.cells #[.int .i64 0, .int .i64 0] 61)))
    have R_0 := Lib.hid (c2_at (w.alloc (.cells #[.int .i64 P, .int .i64 Q, .int .i64 G] 27)) (w.heap.size + 1) (by simp) 0 0 61)
    have HB_0 := Lib.hid (show Below w.heap.size w ((w.alloc (.cells #[.int .i64 P, .int .i64 Q, .int .i64 G] 27)).alloc (.cells #[.int .i64 0, .int .i64 0] 61)) from bt (ba _ _) (ba _ _))
    go_enter Try.func49, Try.ntmps49
    have Z_0 := Lib.hid (hz.below HB_0.out (Nat.le_refl _))
    go_wp2_with fail
    refine (mulCiphers_any P Q G _ _ _ zs HN.out hl _ Z_0.out).mono ?_
    rintro e v1 ⟨rfl, hb⟩
    have HB_1 := Lib.hid (bt HB_0.out hb)
    have G_1 := Lib.hid (G_0.out.below hb)
    have R_1 := Lib.hid (R_0.out.below hb)
    have Z_1 := Lib.hid (Z_0.out.below hb (Nat.le_refl _))
    clear hb
    obtain ⟨gG0, gG1, gG2⟩ := G_1.out
    obtain ⟨rR0, rR1, rfR⟩ := R_1.out
    have rfR0 := rfR 0
    have rfR1 := rfR 1
    go_wp2
    (try simp only [Exit.inBlock, Exit.then])
    refine bodyPost_ret (v := .tuple #[cv (mcA P Q G zs) (mcM P Q G zs), .bool (mcB P Q G zs)]) ?_ rfl ⟨rfl, ?_⟩
    · rw [results_cell_tmp rfl]; go_simp
    · first | exact HB_1.out | exact set_below HB_1.out (w.heap.size + 1) (by omega) _ _

theorem dec_on {P Q G s a b : Int} (h : decB P Q G s a b = true) : decV P Q G s a b = decW P Q a b s := by simp [decV, h]
theorem dec_off {P Q G s a b : Int} (h : decB P Q G s a b = false) : decV P Q G s a b = 0 := by simp [decV, h]

/-- DecryptExp's condition and what it answers. -/
def dxB (P Q G s a b most : Int) : Bool := decB P Q G s a b && logB P Q G G (decW P Q a b s) most
def dxV (P Q G s a b most : Int) : Int := if decB P Q G s a b then logV P Q G G (decW P Q a b s) most else 0
theorem dx_on {P Q G s a b most : Int} (h : decB P Q G s a b = true) : dxB P Q G s a b most = logB P Q G G (decW P Q a b s) most ∧ dxV P Q G s a b most = logV P Q G G (decW P Q a b s) most := by simp [dxB, dxV, h]
theorem dx_off {P Q G s a b most : Int} (h : decB P Q G s a b = false) : dxB P Q G s a b most = false ∧ dxV P Q G s a b most = 0 := by simp [dxB, dxV, h]

end Go.Proofs.Ytafoenoilcgjdaa

