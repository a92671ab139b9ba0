/- Chapter 11: valid dealings of both; the shares of a polynomial; DealShares of both. -/
import Derived.Test.YtfjaohmildkeoaaShC
import Derived.Test.YtfjaohmildkeoaaShT
import Derived.Test.YtfjaohmildkeoaaWpK
namespace Go.Proofs.Ytfjaohmildkeoaa
open Go.RowKit
set_option linter.unusedVariables false
set_option linter.unusedSimpArgs false

/-! ### Valid dealings -/
theorem dl_ref {P Q : Int} {cs ss : List Int} : dlB P Q cs ss = (cmsB P Q cs && (inB (ss.length : Int) cs.length 7 && allIn ss 0 (Q - 1))) := by
  unfold dlB shsB inB
  have e1 : decide (((cs.length : Nat) : Int) ≤ (ss.length : Int)) = decide (cs.length ≤ ss.length) := by rw [decide_eq_decide]; omega
  have e2 : decide (((ss.length : Nat) : Int) ≤ 7) = decide (ss.length ≤ 7) := by rw [decide_eq_decide]; omega
  rw [e1, e2, Bool.and_assoc, Bool.and_assoc]

set_option maxRecDepth 100000 in
set_option maxHeartbeats 3200000 in
theorem hasDealing_any (P Q G : Int) (hm : Mo P Q) (ca sa : Option Addr) (cc sc : Nat) (cs ss : List Int) (hl : cs.length ≤ 1000000000000) (hl' : ss.length ≤ 1000000000000) {w : World} (hc : IsInts w ca cs) (hs : IsInts w sa ss) :
    Calls Try.prog 77 #[gv P Q G, .agg #[.slice ca cs.length cc, .slice sa ss.length sc]] w fun e w' => e = .returned (.bool (dlB P Q cs ss)) ∧ Below w.heap.size w w' := by
  have G_0 := Lib.hid ((gr_atS w w.heap.size rfl P Q G 24).below (ba (w.alloc (.cells #[.int .i64 P, .int .i64 Q, .int .i64 G] 24)) (.cells #[.slice ca cs.length cc, .slice sa ss.length sc] 34)))
  have D_0 := Lib.hid (v2_at (w.alloc (.cells #[.int .i64 P, .int .i64 Q, .int .i64 G] 24)) (w.heap.size + 1) (by simp) (.slice ca cs.length cc) (.slice sa ss.length sc) 34)
  have HB_0 := Lib.hid (show Below w.heap.size w ((w.alloc (.cells #[.int .i64 P, .int .i64 Q, .int .i64 G] 24)).alloc (.cells #[.slice ca cs.length cc, .slice sa ss.length sc] 34)) from bt (ba _ _) (ba _ _))
  have C_0 := Lib.hid (LZ.below hc HB_0.out)
  have T_0 := Lib.hid (LZ.below hs HB_0.out)
  clear hc hs
  cases h0 : cmsB P Q cs
  · have K0 := Lib.hid (show cmsB P Q cs = false from h0)
    have E1 := Lib.hid (show dlB P Q cs ss = false by simp [dlB, h0])
    rw [E1.out]
    clear h0
    obtain ⟨gG0, gG1, gG2⟩ := G_0.out
    obtain ⟨dD0, dD1, _⟩ := D_0.out
    go_enter Try.func77, Try.ntmps77
    go_wp2_with fail
    refine (areCommits_any P Q G hm ca cs.length cc cs rfl (by omega) _ C_0.out).mono ?_
    rw [K0.out]
    rintro e v1 ⟨rfl, hb⟩
    have HB_1 := Lib.hid (bt HB_0.out hb)
    have G_1 := Lib.hid (G_0.out.below hb)
    have D_1 := Lib.hid (D_0.out.below hb)
    have C_1 := Lib.hid (C_0.out.below hb)
    have T_1 := Lib.hid (T_0.out.below hb)
    clear hb gG0 gG1 gG2 dD0 dD1
    obtain ⟨gG0, gG1, gG2⟩ := G_1.out
    obtain ⟨dD0, dD1, _⟩ := D_1.out
    go_wp2
    go_ret
    exact ⟨rfl, HB_1.out⟩
  have K0 := Lib.hid (show cmsB P Q cs = true from h0)
  by_cases h1 : ¬ (cs.length ≤ ss.length)
  · have B1 : ¬ ((cs.length : Int) ≤ (ss.length : Int)) := by omega
    have E1 := Lib.hid (show dlB P Q cs ss = false by simp [dlB, h0, h1])
    rw [E1.out]
    clear h0 h1
    obtain ⟨gG0, gG1, gG2⟩ := G_0.out
    obtain ⟨dD0, dD1, _⟩ := D_0.out
    go_enter Try.func77, Try.ntmps77
    go_wp2_with fail
    refine (areCommits_any P Q G hm ca cs.length cc cs rfl (by omega) _ C_0.out).mono ?_
    rw [K0.out]
    rintro e v1 ⟨rfl, hb⟩
    have HB_1 := Lib.hid (bt HB_0.out hb)
    have G_1 := Lib.hid (G_0.out.below hb)
    have D_1 := Lib.hid (D_0.out.below hb)
    have C_1 := Lib.hid (C_0.out.below hb)
    have T_1 := Lib.hid (T_0.out.below hb)
    clear hb gG0 gG1 gG2 dD0 dD1
    obtain ⟨gG0, gG1, gG2⟩ := G_1.out
    obtain ⟨dD0, dD1, _⟩ := D_1.out
    go_wp2
    go_ret
    exact ⟨rfl, HB_1.out⟩
  replace h1 := Decidable.not_not.1 h1
  have B1 : (cs.length : Int) ≤ (ss.length : Int) := by omega
  cases h2 : shsB Q ss
  · have K2 := Lib.hid (show shsB Q ss = false from h2)
    have E1 := Lib.hid (show dlB P Q cs ss = false by simp [dlB, h0, h1, h2])
    rw [E1.out]
    clear h0 h1 h2
    obtain ⟨gG0, gG1, gG2⟩ := G_0.out
    obtain ⟨dD0, dD1, _⟩ := D_0.out
    go_enter Try.func77, Try.ntmps77
    go_wp2_with fail
    refine (areCommits_any P Q G hm ca cs.length cc cs rfl (by omega) _ C_0.out).mono ?_
    rw [K0.out]
    rintro e v1 ⟨rfl, hb⟩
    have HB_1 := Lib.hid (bt HB_0.out hb)
    have G_1 := Lib.hid (G_0.out.below hb)
    have D_1 := Lib.hid (D_0.out.below hb)
    have C_1 := Lib.hid (C_0.out.below hb)
    have T_1 := Lib.hid (T_0.out.below hb)
    clear hb gG0 gG1 gG2 dD0 dD1
    obtain ⟨gG0, gG1, gG2⟩ := G_1.out
    obtain ⟨dD0, dD1, _⟩ := D_1.out
    go_wp2_with fail
    refine (areShares_any P Q G sa ss.length sc ss rfl (by omega) _ T_1.out).mono ?_
    rw [K2.out]
    rintro e v2 ⟨rfl, hb⟩
    have HB_2 := Lib.hid (bt HB_1.out hb)
    have G_2 := Lib.hid (G_1.out.below hb)
    have D_2 := Lib.hid (D_1.out.below hb)
    have C_2 := Lib.hid (C_1.out.below hb)
    have T_2 := Lib.hid (T_1.out.below hb)
    clear hb gG0 gG1 gG2 dD0 dD1
    obtain ⟨gG0, gG1, gG2⟩ := G_2.out
    obtain ⟨dD0, dD1, _⟩ := D_2.out
    go_wp2
    go_ret
    exact ⟨rfl, HB_2.out⟩
  have K2 := Lib.hid (show shsB Q ss = true from h2)
  have E1 := Lib.hid (show dlB P Q cs ss = true by simp [dlB, h0, h1, h2])
  rw [E1.out]
  clear h0 h1 h2
  obtain ⟨gG0, gG1, gG2⟩ := G_0.out
  obtain ⟨dD0, dD1, _⟩ := D_0.out
  go_enter Try.func77, Try.ntmps77
  go_wp2_with fail
  refine (areCommits_any P Q G hm ca cs.length cc cs rfl (by omega) _ C_0.out).mono ?_
  rw [K0.out]
  rintro e v1 ⟨rfl, hb⟩
  have HB_1 := Lib.hid (bt HB_0.out hb)
  have G_1 := Lib.hid (G_0.out.below hb)
  have D_1 := Lib.hid (D_0.out.below hb)
  have C_1 := Lib.hid (C_0.out.below hb)
  have T_1 := Lib.hid (T_0.out.below hb)
  clear hb gG0 gG1 gG2 dD0 dD1
  obtain ⟨gG0, gG1, gG2⟩ := G_1.out
  obtain ⟨dD0, dD1, _⟩ := D_1.out
  go_wp2_with fail
  refine (areShares_any P Q G sa ss.length sc ss rfl (by omega) _ T_1.out).mono ?_
  rw [K2.out]
  rintro e v2 ⟨rfl, hb⟩
  have HB_2 := Lib.hid (bt HB_1.out hb)
  have G_2 := Lib.hid (G_1.out.below hb)
  have D_2 := Lib.hid (D_1.out.below hb)
  have C_2 := Lib.hid (C_1.out.below hb)
  have T_2 := Lib.hid (T_1.out.below hb)
  clear hb gG0 gG1 gG2 dD0 dD1
  obtain ⟨gG0, gG1, gG2⟩ := G_2.out
  obtain ⟨dD0, dD1, _⟩ := D_2.out
  go_wp2
  go_ret
  exact ⟨rfl, HB_2.out⟩

set_option maxRecDepth 100000 in
set_option maxHeartbeats 3200000 in
theorem sDealing_any (P Q G : Int) (hm : Mo P Q) (ca sa : Option Addr) (cc sc : Nat) (cs ss : List Int) (hl : cs.length ≤ 1000000000000) (hl' : ss.length ≤ 1000000000000) {w : World} (hc : IsInts w ca cs) (hs : IsInts w sa ss) :
    Calls Try.prog 104 #[gv P Q G, .agg #[.slice ca cs.length cc, .slice sa ss.length sc]] w fun e w' => e = .returned (.bool (dlB P Q cs ss)) ∧ Below w.heap.size w w' := by
  have G_0 := Lib.hid ((gr_atS w w.heap.size rfl P Q G 24).below (ba (w.alloc (.cells #[.int .i64 P, .int .i64 Q, .int .i64 G] 24)) (.cells #[.slice ca cs.length cc, .slice sa ss.length sc] 34)))
  have D_0 := Lib.hid (v2_at (w.alloc (.cells #[.int .i64 P, .int .i64 Q, .int .i64 G] 24)) (w.heap.size + 1) (by simp) (.slice ca cs.length cc) (.slice sa ss.length sc) 34)
  have HB_0 := Lib.hid (show Below w.heap.size w ((w.alloc (.cells #[.int .i64 P, .int .i64 Q, .int .i64 G] 24)).alloc (.cells #[.slice ca cs.length cc, .slice sa ss.length sc] 34)) from bt (ba _ _) (ba _ _))
  have C_0 := Lib.hid (LZ.below hc HB_0.out)
  have T_0 := Lib.hid (LZ.below hs HB_0.out)
  clear hc hs
  cases h0 : cmsB P Q cs
  · have K0 := Lib.hid (show cmsB P Q cs = false from h0)
    have E1 := Lib.hid (show dlB P Q cs ss = false by simp [dl_ref, h0])
    rw [E1.out]
    clear h0
    obtain ⟨gG0, gG1, gG2⟩ := G_0.out
    obtain ⟨dD0, dD1, _⟩ := D_0.out
    go_enter Try.func104, Try.ntmps104
    go_wp2_with fail
    refine (sCommits_any P Q G hm ca cs.length cc cs rfl (by omega) _ C_0.out).mono ?_
    rw [K0.out]
    rintro e v1 ⟨rfl, hb⟩
    have HB_1 := Lib.hid (bt HB_0.out hb)
    have G_1 := Lib.hid (G_0.out.below hb)
    have D_1 := Lib.hid (D_0.out.below hb)
    have C_1 := Lib.hid (C_0.out.below hb)
    have T_1 := Lib.hid (T_0.out.below hb)
    clear hb gG0 gG1 gG2 dD0 dD1
    obtain ⟨gG0, gG1, gG2⟩ := G_1.out
    obtain ⟨dD0, dD1, _⟩ := D_1.out
    go_wp2
    go_ret
    exact ⟨rfl, HB_1.out⟩
  have K0 := Lib.hid (show cmsB P Q cs = true from h0)
  cases h1 : inB (ss.length : Int) cs.length 7
  · have K1 := Lib.hid (show inB (ss.length : Int) cs.length 7 = false from h1)
    have E1 := Lib.hid (show dlB P Q cs ss = false by simp [dl_ref, h0, h1])
    rw [E1.out]
    clear h0 h1
    obtain ⟨gG0, gG1, gG2⟩ := G_0.out
    obtain ⟨dD0, dD1, _⟩ := D_0.out
    go_enter Try.func104, Try.ntmps104
    go_wp2_with fail
    refine (sCommits_any P Q G hm ca cs.length cc cs rfl (by omega) _ C_0.out).mono ?_
    rw [K0.out]
    rintro e v1 ⟨rfl, hb⟩
    have HB_1 := Lib.hid (bt HB_0.out hb)
    have G_1 := Lib.hid (G_0.out.below hb)
    have D_1 := Lib.hid (D_0.out.below hb)
    have C_1 := Lib.hid (C_0.out.below hb)
    have T_1 := Lib.hid (T_0.out.below hb)
    clear hb gG0 gG1 gG2 dD0 dD1
    obtain ⟨gG0, gG1, gG2⟩ := G_1.out
    obtain ⟨dD0, dD1, _⟩ := D_1.out
    go_wp2_with fail
    refine (l1In_any _ _ _ _).mono ?_
    rw [K1.out]
    rintro e w' ⟨rfl, rfl⟩
    go_wp2
    go_ret
    exact ⟨rfl, HB_1.out⟩
  have K1 := Lib.hid (show inB (ss.length : Int) cs.length 7 = true from h1)
  cases h2 : allIn ss 0 (Q - 1)
  · have K2 := Lib.hid (show allIn ss 0 (Q - 1) = false from h2)
    have E1 := Lib.hid (show dlB P Q cs ss = false by simp [dl_ref, h0, h1, h2])
    rw [E1.out]
    clear h0 h1 h2
    obtain ⟨gG0, gG1, gG2⟩ := G_0.out
    obtain ⟨dD0, dD1, _⟩ := D_0.out
    go_enter Try.func104, Try.ntmps104
    go_wp2_with fail
    refine (sCommits_any P Q G hm ca cs.length cc cs rfl (by omega) _ C_0.out).mono ?_
    rw [K0.out]
    rintro e v1 ⟨rfl, hb⟩
    have HB_1 := Lib.hid (bt HB_0.out hb)
    have G_1 := Lib.hid (G_0.out.below hb)
    have D_1 := Lib.hid (D_0.out.below hb)
    have C_1 := Lib.hid (C_0.out.below hb)
    have T_1 := Lib.hid (T_0.out.below hb)
    clear hb gG0 gG1 gG2 dD0 dD1
    obtain ⟨gG0, gG1, gG2⟩ := G_1.out
    obtain ⟨dD0, dD1, _⟩ := D_1.out
    go_wp2_with fail
    refine (l1In_any _ _ _ _).mono ?_
    rw [K1.out]
    rintro e w' ⟨rfl, rfl⟩
    go_wp2_with fail
    refine (gExps_any P Q G hm.2 sa ss.length sc ss rfl (by omega) _ T_1.out).mono ?_
    rw [K2.out]
    rintro e v2 ⟨rfl, hb⟩
    have HB_2 := Lib.hid (bt HB_1.out hb)
    have G_2 := Lib.hid (G_1.out.below hb)
    have D_2 := Lib.hid (D_1.out.below hb)
    have C_2 := Lib.hid (C_1.out.below hb)
    have T_2 := Lib.hid (T_1.out.below hb)
    clear hb gG0 gG1 gG2 dD0 dD1
    obtain ⟨gG0, gG1, gG2⟩ := G_2.out
    obtain ⟨dD0, dD1, _⟩ := D_2.out
    go_wp2
    go_ret
    exact ⟨rfl, HB_2.out⟩
  have K2 := Lib.hid (show allIn ss 0 (Q - 1) = true from h2)
  have E1 := Lib.hid (show dlB P Q cs ss = true by simp [dl_ref, h0, h1, h2])
  rw [E1.out]
  clear h0 h1 h2
  obtain ⟨gG0, gG1, gG2⟩ := G_0.out
  obtain ⟨dD0, dD1, _⟩ := D_0.out
  go_enter Try.func104, Try.ntmps104
  go_wp2_with fail
  refine (sCommits_any P Q G hm ca cs.length cc cs rfl (by omega) _ C_0.out).mono ?_
  rw [K0.out]
  rintro e v1 ⟨rfl, hb⟩
  have HB_1 := Lib.hid (bt HB_0.out hb)
  have G_1 := Lib.hid (G_0.out.below hb)
  have D_1 := Lib.hid (D_0.out.below hb)
  have C_1 := Lib.hid (C_0.out.below hb)
  have T_1 := Lib.hid (T_0.out.below hb)
  clear hb gG0 gG1 gG2 dD0 dD1
  obtain ⟨gG0, gG1, gG2⟩ := G_1.out
  obtain ⟨dD0, dD1, _⟩ := D_1.out
  go_wp2_with fail
  refine (l1In_any _ _ _ _).mono ?_
  rw [K1.out]
  rintro e w' ⟨rfl, rfl⟩
  go_wp2_with fail
  refine (gExps_any P Q G hm.2 sa ss.length sc ss rfl (by omega) _ T_1.out).mono ?_
  rw [K2.out]
  rintro e v2 ⟨rfl, hb⟩
  have HB_2 := Lib.hid (bt HB_1.out hb)
  have G_2 := Lib.hid (G_1.out.below hb)
  have D_2 := Lib.hid (D_1.out.below hb)
  have C_2 := Lib.hid (C_1.out.below hb)
  have T_2 := Lib.hid (T_1.out.below hb)
  clear hb gG0 gG1 gG2 dD0 dD1
  obtain ⟨gG0, gG1, gG2⟩ := G_2.out
  obtain ⟨dD0, dD1, _⟩ := D_2.out
  go_wp2
  go_ret
  exact ⟨rfl, HB_2.out⟩

def ivB (P Q G : Int) (cs ss : List Int) : Bool := trB P Q G && dlB P Q cs ss

set_option maxRecDepth 100000 in
set_option maxHeartbeats 3200000 in
theorem isValidDealing_any (P Q G : Int) (ca sa : Option Addr) (cc sc : Nat) (cs ss : List Int) (hl : cs.length ≤ 1000000000000) (hl' : ss.length ≤ 1000000000000) {w : World} (hc : IsInts w ca cs) (hs : IsInts w sa ss) :
    Calls Try.prog 45 #[gv P Q G, .agg #[.slice ca cs.length cc, .slice sa ss.length sc]] w fun e w' => e = .returned (.bool (ivB P Q G cs ss)) ∧ Below w.heap.size w w' := by
  have G_0 := Lib.hid ((gr_atS w w.heap.size rfl P Q G 24).below (ba (w.alloc (.cells #[.int .i64 P, .int .i64 Q, .int .i64 G] 24)) (.cells #[.slice ca cs.length cc, .slice sa ss.length sc] 34)))
  have D_0 := Lib.hid (v2_at (w.alloc (.cells #[.int .i64 P, .int .i64 Q, .int .i64 G] 24)) (w.heap.size + 1) (by simp) (.slice ca cs.length cc) (.slice sa ss.length sc) 34)
  have HB_0 := Lib.hid (show Below w.heap.size w ((w.alloc (.cells #[.int .i64 P, .int .i64 Q, .int .i64 G] 24)).alloc (.cells #[.slice ca cs.length cc, .slice sa ss.length sc] 34)) from bt (ba _ _) (ba _ _))
  have C_0 := Lib.hid (LZ.below hc HB_0.out)
  have T_0 := Lib.hid (LZ.below hs HB_0.out)
  clear hc hs
  cases h0 : trB P Q G
  · have K0 := Lib.hid (show trB P Q G = false from h0)
    have E1 := Lib.hid (show ivB P Q G cs ss = false by simp [ivB, h0])
    rw [E1.out]
    clear h0
    obtain ⟨gG0, gG1, gG2⟩ := G_0.out
    obtain ⟨dD0, dD1, _⟩ := D_0.out
    go_enter Try.func45, Try.ntmps45
    go_wp2_with fail
    refine (hasTrustees_any P Q G _).mono ?_
    rw [K0.out]
    rintro e v1 ⟨rfl, hb⟩
    have HB_1 := Lib.hid (bt HB_0.out hb)
    have G_1 := Lib.hid (G_0.out.below hb)
    have D_1 := Lib.hid (D_0.out.below hb)
    have C_1 := Lib.hid (C_0.out.below hb)
    have T_1 := Lib.hid (T_0.out.below hb)
    clear hb gG0 gG1 gG2 dD0 dD1
    obtain ⟨gG0, gG1, gG2⟩ := G_1.out
    obtain ⟨dD0, dD1, _⟩ := D_1.out
    go_wp2
    go_ret
    exact ⟨rfl, HB_1.out⟩
  have K0 := Lib.hid (show trB P Q G = true from h0)
  have hmo := (trB_of h0).2.1
  cases h1 : dlB P Q cs ss
  · have K1 := Lib.hid (show dlB P Q cs ss = false from h1)
    have E1 := Lib.hid (show ivB P Q G cs ss = false by simp [ivB, h0, h1])
    rw [E1.out]
    clear h0 h1
    obtain ⟨gG0, gG1, gG2⟩ := G_0.out
    obtain ⟨dD0, dD1, _⟩ := D_0.out
    go_enter Try.func45, Try.ntmps45
    go_wp2_with fail
    refine (hasTrustees_any P Q G _).mono ?_
    rw [K0.out]
    rintro e v1 ⟨rfl, hb⟩
    have HB_1 := Lib.hid (bt HB_0.out hb)
    have G_1 := Lib.hid (G_0.out.below hb)
    have D_1 := Lib.hid (D_0.out.below hb)
    have C_1 := Lib.hid (C_0.out.below hb)
    have T_1 := Lib.hid (T_0.out.below hb)
    clear hb gG0 gG1 gG2 dD0 dD1
    obtain ⟨gG0, gG1, gG2⟩ := G_1.out
    obtain ⟨dD0, dD1, _⟩ := D_1.out
    go_wp2_with fail
    refine (hasDealing_any P Q G hmo ca sa cc sc cs ss hl hl' C_1.out T_1.out).mono ?_
    rw [K1.out]
    rintro e v2 ⟨rfl, hb⟩
    have HB_2 := Lib.hid (bt HB_1.out hb)
    have G_2 := Lib.hid (G_1.out.below hb)
    have D_2 := Lib.hid (D_1.out.below hb)
    have C_2 := Lib.hid (C_1.out.below hb)
    have T_2 := Lib.hid (T_1.out.below hb)
    clear hb gG0 gG1 gG2 dD0 dD1
    obtain ⟨gG0, gG1, gG2⟩ := G_2.out
    obtain ⟨dD0, dD1, _⟩ := D_2.out
    go_wp2
    go_ret
    exact ⟨rfl, HB_2.out⟩
  have K1 := Lib.hid (show dlB P Q cs ss = true from h1)
  have E1 := Lib.hid (show ivB P Q G cs ss = true by simp [ivB, h0, h1])
  rw [E1.out]
  clear h0 h1
  obtain ⟨gG0, gG1, gG2⟩ := G_0.out
  obtain ⟨dD0, dD1, _⟩ := D_0.out
  go_enter Try.func45, Try.ntmps45
  go_wp2_with fail
  refine (hasTrustees_any P Q G _).mono ?_
  rw [K0.out]
  rintro e v1 ⟨rfl, hb⟩
  have HB_1 := Lib.hid (bt HB_0.out hb)
  have G_1 := Lib.hid (G_0.out.below hb)
  have D_1 := Lib.hid (D_0.out.below hb)
  have C_1 := Lib.hid (C_0.out.below hb)
  have T_1 := Lib.hid (T_0.out.below hb)
  clear hb gG0 gG1 gG2 dD0 dD1
  obtain ⟨gG0, gG1, gG2⟩ := G_1.out
  obtain ⟨dD0, dD1, _⟩ := D_1.out
  go_wp2_with fail
  refine (hasDealing_any P Q G hmo ca sa cc sc cs ss hl hl' C_1.out T_1.out).mono ?_
  rw [K1.out]
  rintro e v2 ⟨rfl, hb⟩
  have HB_2 := Lib.hid (bt HB_1.out hb)
  have G_2 := Lib.hid (G_1.out.below hb)
  have D_2 := Lib.hid (D_1.out.below hb)
  have C_2 := Lib.hid (C_1.out.below hb)
  have T_2 := Lib.hid (T_1.out.below hb)
  clear hb gG0 gG1 gG2 dD0 dD1
  obtain ⟨gG0, gG1, gG2⟩ := G_2.out
  obtain ⟨dD0, dD1, _⟩ := D_2.out
  go_wp2
  go_ret
  exact ⟨rfl, HB_2.out⟩

set_option maxRecDepth 100000 in
set_option maxHeartbeats 3200000 in
theorem sIsValidDealing_any (P Q G : Int) (ca sa : Option Addr) (cc sc : Nat) (cs ss : List Int) (hl : cs.length ≤ 1000000000000) (hl' : ss.length ≤ 1000000000000) {w : World} (hc : IsInts w ca cs) (hs : IsInts w sa ss) :
    Calls Try.prog 43 #[gv P Q G, .agg #[.slice ca cs.length cc, .slice sa ss.length sc]] w fun e w' => e = .returned (.bool (ivB P Q G cs ss)) ∧ Below w.heap.size w w' := by
  have G_0 := Lib.hid ((gr_atS w w.heap.size rfl P Q G 24).below (ba (w.alloc (.cells #[.int .i64 P, .int .i64 Q, .int .i64 G] 24)) (.cells #[.slice ca cs.length cc, .slice sa ss.length sc] 34)))
  have D_0 := Lib.hid (v2_at (w.alloc (.cells #[.int .i64 P, .int .i64 Q, .int .i64 G] 24)) (w.heap.size + 1) (by simp) (.slice ca cs.length cc) (.slice sa ss.length sc) 34)
  have HB_0 := Lib.hid (show Below w.heap.size w ((w.alloc (.cells #[.int .i64 P, .int .i64 Q, .int .i64 G] 24)).alloc (.cells #[.slice ca cs.length cc, .slice sa ss.length sc] 34)) from bt (ba _ _) (ba _ _))
  have C_0 := Lib.hid (LZ.below hc HB_0.out)
  have T_0 := Lib.hid (LZ.below hs HB_0.out)
  clear hc hs
  cases h0 : trB P Q G
  · have K0 := Lib.hid (show trB P Q G = false from h0)
    have E1 := Lib.hid (show ivB P Q G cs ss = false by simp [ivB, h0])
    rw [E1.out]
    clear h0
    obtain ⟨gG0, gG1, gG2⟩ := G_0.out
    obtain ⟨dD0, dD1, _⟩ := D_0.out
    go_enter Try.func43, Try.ntmps43
    go_wp2_with fail
    refine (sGroup_any P Q G _).mono ?_
    rw [K0.out]
    rintro e v1 ⟨rfl, hb⟩
    have HB_1 := Lib.hid (bt HB_0.out hb)
    have G_1 := Lib.hid (G_0.out.below hb)
    have D_1 := Lib.hid (D_0.out.below hb)
    have C_1 := Lib.hid (C_0.out.below hb)
    have T_1 := Lib.hid (T_0.out.below hb)
    clear hb gG0 gG1 gG2 dD0 dD1
    obtain ⟨gG0, gG1, gG2⟩ := G_1.out
    obtain ⟨dD0, dD1, _⟩ := D_1.out
    go_wp2
    go_ret
    exact ⟨rfl, HB_1.out⟩
  have K0 := Lib.hid (show trB P Q G = true from h0)
  have hmo := (trB_of h0).2.1
  cases h1 : dlB P Q cs ss
  · have K1 := Lib.hid (show dlB P Q cs ss = false from h1)
    have E1 := Lib.hid (show ivB P Q G cs ss = false by simp [ivB, h0, h1])
    rw [E1.out]
    clear h0 h1
    obtain ⟨gG0, gG1, gG2⟩ := G_0.out
    obtain ⟨dD0, dD1, _⟩ := D_0.out
    go_enter Try.func43, Try.ntmps43
    go_wp2_with fail
    refine (sGroup_any P Q G _).mono ?_
    rw [K0.out]
    rintro e v1 ⟨rfl, hb⟩
    have HB_1 := Lib.hid (bt HB_0.out hb)
    have G_1 := Lib.hid (G_0.out.below hb)
    have D_1 := Lib.hid (D_0.out.below hb)
    have C_1 := Lib.hid (C_0.out.below hb)
    have T_1 := Lib.hid (T_0.out.below hb)
    clear hb gG0 gG1 gG2 dD0 dD1
    obtain ⟨gG0, gG1, gG2⟩ := G_1.out
    obtain ⟨dD0, dD1, _⟩ := D_1.out
    go_wp2_with fail
    refine (sDealing_any P Q G hmo ca sa cc sc cs ss hl hl' C_1.out T_1.out).mono ?_
    rw [K1.out]
    rintro e v2 ⟨rfl, hb⟩
    have HB_2 := Lib.hid (bt HB_1.out hb)
    have G_2 := Lib.hid (G_1.out.below hb)
    have D_2 := Lib.hid (D_1.out.below hb)
    have C_2 := Lib.hid (C_1.out.below hb)
    have T_2 := Lib.hid (T_1.out.below hb)
    clear hb gG0 gG1 gG2 dD0 dD1
    obtain ⟨gG0, gG1, gG2⟩ := G_2.out
    obtain ⟨dD0, dD1, _⟩ := D_2.out
    go_wp2
    go_ret
    exact ⟨rfl, HB_2.out⟩
  have K1 := Lib.hid (show dlB P Q cs ss = true from h1)
  have E1 := Lib.hid (show ivB P Q G cs ss = true by simp [ivB, h0, h1])
  rw [E1.out]
  clear h0 h1
  obtain ⟨gG0, gG1, gG2⟩ := G_0.out
  obtain ⟨dD0, dD1, _⟩ := D_0.out
  go_enter Try.func43, Try.ntmps43
  go_wp2_with fail
  refine (sGroup_any P Q G _).mono ?_
  rw [K0.out]
  rintro e v1 ⟨rfl, hb⟩
  have HB_1 := Lib.hid (bt HB_0.out hb)
  have G_1 := Lib.hid (G_0.out.below hb)
  have D_1 := Lib.hid (D_0.out.below hb)
  have C_1 := Lib.hid (C_0.out.below hb)
  have T_1 := Lib.hid (T_0.out.below hb)
  clear hb gG0 gG1 gG2 dD0 dD1
  obtain ⟨gG0, gG1, gG2⟩ := G_1.out
  obtain ⟨dD0, dD1, _⟩ := D_1.out
  go_wp2_with fail
  refine (sDealing_any P Q G hmo ca sa cc sc cs ss hl hl' C_1.out T_1.out).mono ?_
  rw [K1.out]
  rintro e v2 ⟨rfl, hb⟩
  have HB_2 := Lib.hid (bt HB_1.out hb)
  have G_2 := Lib.hid (G_1.out.below hb)
  have D_2 := Lib.hid (D_1.out.below hb)
  have C_2 := Lib.hid (C_1.out.below hb)
  have T_2 := Lib.hid (T_1.out.below hb)
  clear hb gG0 gG1 gG2 dD0 dD1
  obtain ⟨gG0, gG1, gG2⟩ := G_2.out
  obtain ⟨dD0, dD1, _⟩ := D_2.out
  go_wp2
  go_ret
  exact ⟨rfl, HB_2.out⟩

theorem isValidDealing_ans (P Q G : Int) {B : Nat} {v : Value} {d : DlD} (hl : d.n ≤ 1048576) {w : World} (h : InD B w v d) :
    Calls Try.prog 45 #[gv P Q G, v] w fun e w' => e = .returned (.bool (ivB P Q G d.c d.s)) ∧ Below w.heap.size w w' := by
  obtain ⟨a, a', b, b', rfl, h1, h2⟩ := h.shape
  unfold DlD.n at hl
  exact isValidDealing_any P Q G a b a' b' d.c d.s (by omega) (by omega) (inI_ints h1) (inI_ints h2)

theorem sIsValidDealing_ans (P Q G : Int) {B : Nat} {v : Value} {d : DlD} (hl : d.n ≤ 1048576) {w : World} (h : InD B w v d) :
    Calls Try.prog 43 #[gv P Q G, v] w fun e w' => e = .returned (.bool (ivB P Q G d.c d.s)) ∧ Below w.heap.size w w' := by
  obtain ⟨a, a', b, b', rfl, h1, h2⟩ := h.shape
  unfold DlD.n at hl
  exact sIsValidDealing_any P Q G a b a' b' d.c d.s (by omega) (by omega) (inI_ints h1) (inI_ints h2)

end Go.Proofs.Ytfjaohmildkeoaa

