/- Chapter 9, the reference: bases, commitments, checks of openings. -/
import Derived.Test.YtglfbhkdmkneoaaComA
import Derived.Test.YtglfbhkdmkneoaaG7
import Derived.Deep.RegionHeld3
namespace Go.Proofs.Ytglfbhkdmkneoaa
open Go.RowKit
set_option linter.unusedVariables false
set_option linter.unusedSimpArgs false

/-! ### No 1 among them -/
def nB (x : Int) (zs : List Int) : Bool := zs.all fun z => decide (z ≠ x)
theorem nB_step {x : Int} {zs rest : List Int} {z : Int} {k : Nat} {t : Bool} (hd : zs.drop k = z :: rest) (he : t = nB x (zs.drop k)) : (z = x → t = false) ∧ (z ≠ x → t = nB x rest) := by
  rw [hd] at he
  refine ⟨fun h => ?_, fun h => ?_⟩ <;> (rw [he]; simp [nB, h])
theorem l9Has_any (ad : Option Addr) (n cap : Nat) (zs : List Int) (x : Int) (hn : zs.length = n) (hl : n ≤ 1152921504606846976) (w : World) (hz : IsInts w ad zs) :
    Calls Try.prog 122 #[.slice ad n cap, .int .i64 x] w fun e w' => e = .returned (.bool (!nB x zs)) ∧ w = w' := by
  have HN := Lib.hid hn
  clear hn
  go_enter Try.func122, Try.ntmps122
  go_wp2_with fail
  go_loop [6, 9] (fun _ K => ∃ k : Nat, k ≤ n ∧ K = .int .i64 k ∧ nB x zs = nB x (zs.drop k)) (fun _ K => n - (intOf K).toNat)
  case atStart => exact ⟨0, Nat.zero_le _, rfl, rfl⟩
  case round =>
    obtain ⟨k, hk, rfl, he⟩ := hrel
    by_cases hkn : k < n
    · obtain ⟨b, off, z, rfl, hb, hc, hd⟩ := hz.at (k := k) (by have := HN.out; omega)
      have HS := Lib.hid (nB_step (rest := zs.drop (k + 1)) hd he)
      clear he hd
      by_cases hxz : z = x
      · have HM := Lib.hid (HS.out.1 hxz)
        have hxb : (z == x) = true := by simp [hxz]
        clear hxz
        go_wp2_with fail
        go_ret
        exact ⟨by rw [HM.out]; rfl, rfl⟩
      · have HM := Lib.hid (HS.out.2 hxz)
        have hxb : (z == x) = false := by simp; exact hxz
        clear hxz
        go_wp2_with fail
        go_round
        case rel => exact ⟨k + 1, by omega, by go_num, HM.out⟩
        case measure => simp only [intOf]; omega
    · have HE := Lib.hid he
      clear he
      go_wp2_with fail
      go_ret
      refine ⟨?_, rfl⟩
      rw [HE.out, List.drop_of_length_le (by have := HN.out; omega)]; rfl
theorem nB_all (P Q : Int) (zs : List Int) : (nB 1 zs && allEl P Q zs) = zs.all fun z => baB P Q z := by
  induction zs with
  | nil => rfl
  | cons a t ih =>
    simp only [nB, allEl, List.all_cons, baB] at ih ⊢
    rw [← ih]
    cases decide (a ≠ 1) <;> cases elB P Q a <;> cases (t.all fun z => decide (z ≠ 1)) <;> rfl
theorem bs_ref (P Q G H : Int) (hs : List Int) : bsB P Q G H hs = (goodB P Q G && (decide (H ≠ 1) && (allEl P Q [H] && (decide (hs.length ≤ 24) && (nB 1 hs && allEl P Q hs))))) := by
  rw [nB_all]
  have e : allEl P Q [H] = elB P Q H := by simp [allEl]
  rw [e]
  simp only [bsB, baB, basB, Bool.and_assoc]
theorem mul_two {P a b : Int} (h0 : 0 ≤ a) (h1 : a < P) : mulFrom P 1 [a, b] = a * b % P := by
  show 1 * a % P * b % P = _
  rw [Int.one_mul, Int.emod_eq_of_lt h0 h1]

set_option maxRecDepth 100000 in
set_option maxHeartbeats 3200000 in
theorem l9Good_any (P Q G H : Int) {B : Nat} {y : Value} {hs : List Int} (hl : hs.length ≤ 1152921504606846976) {w : World} (hy : InI B w y hs) :
    Calls Try.prog 68 #[gv P Q G, .agg #[.int .i64 H, y]] w fun e w' => e = .returned (.bool (bsB P Q G H hs)) ∧ Below w.heap.size w w' := by
  obtain ⟨ya, yc, rfl⟩ := hy.shape
  have G_0 := Lib.hid ((gr_at w (w.heap.size) (by simp) P Q G 29).below (ba (w.alloc (.cells #[.int .i64 P, .int .i64 Q, .int .i64 G] 29)) (.cells #[.int .i64 H, .slice ya hs.length yc] 26)))
  have V_0 := Lib.hid (d2_at (w.alloc (.cells #[.int .i64 P, .int .i64 Q, .int .i64 G] 29)) (w.heap.size + 1) (by simp) (.int .i64 H) (.slice ya hs.length yc) 26)
  have HB_0 := Lib.hid (show Below w.heap.size w ((w.alloc (.cells #[.int .i64 P, .int .i64 Q, .int .i64 G] 29)).alloc (.cells #[.int .i64 H, .slice ya hs.length yc] 26)) from bt (ba _ _) (ba _ _))
  have Y_0 := Lib.hid (hy.below HB_0.out)
  clear hy
  cases h0 : goodB P Q G
  · have K0 := Lib.hid (show goodB P Q G = false from h0)
    have E1 := Lib.hid (show bsB P Q G H hs = false by simp [bs_ref, h0])
    rw [E1.out]
    clear h0
    obtain ⟨gG0, gG1, gG2⟩ := G_0.out
    obtain ⟨cV0, cV1⟩ := V_0.out
    go_enter Try.func68, Try.ntmps68
    go_wp2_with fail
    refine (l2Good_any P Q G _).mono ?_
    rw [K0.out]
    rintro e v1 ⟨rfl, hb⟩
    have HB_1 := Lib.hid (bt HB_0.out hb)
    have G_1 := Lib.hid (G_0.out.below hb)
    have V_1 := Lib.hid (V_0.out.below hb)
    have Y_1 := Lib.hid (Y_0.out.below hb)
    clear hb gG0 gG1 gG2 cV0 cV1
    obtain ⟨gG0, gG1, gG2⟩ := G_1.out
    obtain ⟨cV0, cV1⟩ := V_1.out
    go_wp2
    go_ret
    exact ⟨rfl, HB_1.out⟩
  have K0 := Lib.hid (show goodB P Q G = true from h0)
  have hmo := good_mo h0
  by_cases h1 : ¬ (H ≠ 1)
  · have B1 : (H != 1) = false := by simpa using h1
    have E1 := Lib.hid (show bsB P Q G H hs = false by simp [bs_ref, h0, h1])
    rw [E1.out]
    clear h0 h1
    obtain ⟨gG0, gG1, gG2⟩ := G_0.out
    obtain ⟨cV0, cV1⟩ := V_0.out
    go_enter Try.func68, Try.ntmps68
    go_wp2_with fail
    refine (l2Good_any P Q G _).mono ?_
    rw [K0.out]
    rintro e v1 ⟨rfl, hb⟩
    have HB_1 := Lib.hid (bt HB_0.out hb)
    have G_1 := Lib.hid (G_0.out.below hb)
    have V_1 := Lib.hid (V_0.out.below hb)
    have Y_1 := Lib.hid (Y_0.out.below hb)
    clear hb gG0 gG1 gG2 cV0 cV1
    obtain ⟨gG0, gG1, gG2⟩ := G_1.out
    obtain ⟨cV0, cV1⟩ := V_1.out
    go_wp2
    go_ret
    exact ⟨rfl, HB_1.out⟩
  have h1 := Decidable.not_not.1 h1
  have B1 : (H != 1) = true := by simpa using h1
  cases h2 : allEl P Q [H]
  · have K2 := Lib.hid (show allEl P Q [H] = false from h2)
    have E1 := Lib.hid (show bsB P Q G H hs = false by simp [bs_ref, h0, h1, h2])
    rw [E1.out]
    clear h0 h1 h2
    obtain ⟨gG0, gG1, gG2⟩ := G_0.out
    obtain ⟨cV0, cV1⟩ := V_0.out
    go_enter Try.func68, Try.ntmps68
    go_wp2_with fail
    refine (l2Good_any P Q G _).mono ?_
    rw [K0.out]
    rintro e v1 ⟨rfl, hb⟩
    have HB_1 := Lib.hid (bt HB_0.out hb)
    have G_1 := Lib.hid (G_0.out.below hb)
    have V_1 := Lib.hid (V_0.out.below hb)
    have Y_1 := Lib.hid (Y_0.out.below hb)
    clear hb gG0 gG1 gG2 cV0 cV1
    obtain ⟨gG0, gG1, gG2⟩ := G_1.out
    obtain ⟨cV0, cV1⟩ := V_1.out
    go_wp2_with fail
    refine (gIs_any P Q G hmo _ 1 1 [H] rfl (by decide) _ (ints_lit v1 [H] 3)).mono ?_
    rw [K2.out]
    rintro e v2 ⟨rfl, hb0⟩
    have hb := bt (ba v1 _) hb0
    clear hb0
    have HB_2 := Lib.hid (bt HB_1.out hb)
    have G_2 := Lib.hid (G_1.out.below hb)
    have V_2 := Lib.hid (V_1.out.below hb)
    have Y_2 := Lib.hid (Y_1.out.below hb)
    clear hb gG0 gG1 gG2 cV0 cV1
    obtain ⟨gG0, gG1, gG2⟩ := G_2.out
    obtain ⟨cV0, cV1⟩ := V_2.out
    go_wp2
    go_ret
    exact ⟨rfl, HB_2.out⟩
  have K2 := Lib.hid (show allEl P Q [H] = true from h2)
  by_cases h3 : ¬ (hs.length ≤ 24)
  · have B3 : (24 : Int) < (hs.length : Int) := by omega
    have E1 := Lib.hid (show bsB P Q G H hs = false by simp [bs_ref, h0, h1, h2, h3])
    rw [E1.out]
    clear h0 h1 h2 h3
    obtain ⟨gG0, gG1, gG2⟩ := G_0.out
    obtain ⟨cV0, cV1⟩ := V_0.out
    go_enter Try.func68, Try.ntmps68
    go_wp2_with fail
    refine (l2Good_any P Q G _).mono ?_
    rw [K0.out]
    rintro e v1 ⟨rfl, hb⟩
    have HB_1 := Lib.hid (bt HB_0.out hb)
    have G_1 := Lib.hid (G_0.out.below hb)
    have V_1 := Lib.hid (V_0.out.below hb)
    have Y_1 := Lib.hid (Y_0.out.below hb)
    clear hb gG0 gG1 gG2 cV0 cV1
    obtain ⟨gG0, gG1, gG2⟩ := G_1.out
    obtain ⟨cV0, cV1⟩ := V_1.out
    go_wp2_with fail
    refine (gIs_any P Q G hmo _ 1 1 [H] rfl (by decide) _ (ints_lit v1 [H] 3)).mono ?_
    rw [K2.out]
    rintro e v2 ⟨rfl, hb0⟩
    have hb := bt (ba v1 _) hb0
    clear hb0
    have HB_2 := Lib.hid (bt HB_1.out hb)
    have G_2 := Lib.hid (G_1.out.below hb)
    have V_2 := Lib.hid (V_1.out.below hb)
    have Y_2 := Lib.hid (Y_1.out.below hb)
    clear hb gG0 gG1 gG2 cV0 cV1
    obtain ⟨gG0, gG1, gG2⟩ := G_2.out
    obtain ⟨cV0, cV1⟩ := V_2.out
    go_wp2
    go_ret
    exact ⟨rfl, HB_2.out⟩
  have h3 := Decidable.not_not.1 h3
  have B3 : (hs.length : Int) ≤ 24 := by omega
  cases h4 : nB 1 hs
  · have K4 := Lib.hid (show nB 1 hs = false from h4)
    have E1 := Lib.hid (show bsB P Q G H hs = false by simp [bs_ref, h0, h1, h2, h3, h4])
    rw [E1.out]
    clear h0 h1 h2 h3 h4
    obtain ⟨gG0, gG1, gG2⟩ := G_0.out
    obtain ⟨cV0, cV1⟩ := V_0.out
    go_enter Try.func68, Try.ntmps68
    go_wp2_with fail
    refine (l2Good_any P Q G _).mono ?_
    rw [K0.out]
    rintro e v1 ⟨rfl, hb⟩
    have HB_1 := Lib.hid (bt HB_0.out hb)
    have G_1 := Lib.hid (G_0.out.below hb)
    have V_1 := Lib.hid (V_0.out.below hb)
    have Y_1 := Lib.hid (Y_0.out.below hb)
    clear hb gG0 gG1 gG2 cV0 cV1
    obtain ⟨gG0, gG1, gG2⟩ := G_1.out
    obtain ⟨cV0, cV1⟩ := V_1.out
    go_wp2_with fail
    refine (gIs_any P Q G hmo _ 1 1 [H] rfl (by decide) _ (ints_lit v1 [H] 3)).mono ?_
    rw [K2.out]
    rintro e v2 ⟨rfl, hb0⟩
    have hb := bt (ba v1 _) hb0
    clear hb0
    have HB_2 := Lib.hid (bt HB_1.out hb)
    have G_2 := Lib.hid (G_1.out.below hb)
    have V_2 := Lib.hid (V_1.out.below hb)
    have Y_2 := Lib.hid (Y_1.out.below hb)
    clear hb gG0 gG1 gG2 cV0 cV1
    obtain ⟨gG0, gG1, gG2⟩ := G_2.out
    obtain ⟨cV0, cV1⟩ := V_2.out
    go_wp2_with fail
    refine (l9Has_any ya hs.length yc hs 1 rfl hl _ (Y_2.out.ints).1).mono ?_
    rw [K4.out]
    rintro e w' ⟨rfl, rfl⟩
    go_wp2
    go_ret
    exact ⟨rfl, HB_2.out⟩
  have K4 := Lib.hid (show nB 1 hs = true from h4)
  cases h5 : allEl P Q hs
  · have K5 := Lib.hid (show allEl P Q hs = false from h5)
    have E1 := Lib.hid (show bsB P Q G H hs = false by simp [bs_ref, h0, h1, h2, h3, h4, h5])
    rw [E1.out]
    clear h0 h1 h2 h3 h4 h5
    obtain ⟨gG0, gG1, gG2⟩ := G_0.out
    obtain ⟨cV0, cV1⟩ := V_0.out
    go_enter Try.func68, Try.ntmps68
    go_wp2_with fail
    refine (l2Good_any P Q G _).mono ?_
    rw [K0.out]
    rintro e v1 ⟨rfl, hb⟩
    have HB_1 := Lib.hid (bt HB_0.out hb)
    have G_1 := Lib.hid (G_0.out.below hb)
    have V_1 := Lib.hid (V_0.out.below hb)
    have Y_1 := Lib.hid (Y_0.out.below hb)
    clear hb gG0 gG1 gG2 cV0 cV1
    obtain ⟨gG0, gG1, gG2⟩ := G_1.out
    obtain ⟨cV0, cV1⟩ := V_1.out
    go_wp2_with fail
    refine (gIs_any P Q G hmo _ 1 1 [H] rfl (by decide) _ (ints_lit v1 [H] 3)).mono ?_
    rw [K2.out]
    rintro e v2 ⟨rfl, hb0⟩
    have hb := bt (ba v1 _) hb0
    clear hb0
    have HB_2 := Lib.hid (bt HB_1.out hb)
    have G_2 := Lib.hid (G_1.out.below hb)
    have V_2 := Lib.hid (V_1.out.below hb)
    have Y_2 := Lib.hid (Y_1.out.below hb)
    clear hb gG0 gG1 gG2 cV0 cV1
    obtain ⟨gG0, gG1, gG2⟩ := G_2.out
    obtain ⟨cV0, cV1⟩ := V_2.out
    go_wp2_with fail
    refine (l9Has_any ya hs.length yc hs 1 rfl hl _ (Y_2.out.ints).1).mono ?_
    rw [K4.out]
    rintro e w' ⟨rfl, rfl⟩
    go_wp2_with fail
    refine (gIs_any P Q G hmo ya hs.length yc hs rfl hl _ (Y_2.out.ints).1).mono ?_
    rw [K5.out]
    rintro e v3 ⟨rfl, hb⟩
    have HB_3 := Lib.hid (bt HB_2.out hb)
    have G_3 := Lib.hid (G_2.out.below hb)
    have V_3 := Lib.hid (V_2.out.below hb)
    have Y_3 := Lib.hid (Y_2.out.below hb)
    clear hb gG0 gG1 gG2 cV0 cV1
    obtain ⟨gG0, gG1, gG2⟩ := G_3.out
    obtain ⟨cV0, cV1⟩ := V_3.out
    go_wp2
    go_ret
    exact ⟨rfl, HB_3.out⟩
  have K5 := Lib.hid (show allEl P Q hs = true from h5)
  have E1 := Lib.hid (show bsB P Q G H hs = true by simp [bs_ref, h0, h1, h2, h3, h4, h5])
  rw [E1.out]
  clear h0 h1 h2 h3 h4 h5
  obtain ⟨gG0, gG1, gG2⟩ := G_0.out
  obtain ⟨cV0, cV1⟩ := V_0.out
  go_enter Try.func68, Try.ntmps68
  go_wp2_with fail
  refine (l2Good_any P Q G _).mono ?_
  rw [K0.out]
  rintro e v1 ⟨rfl, hb⟩
  have HB_1 := Lib.hid (bt HB_0.out hb)
  have G_1 := Lib.hid (G_0.out.below hb)
  have V_1 := Lib.hid (V_0.out.below hb)
  have Y_1 := Lib.hid (Y_0.out.below hb)
  clear hb gG0 gG1 gG2 cV0 cV1
  obtain ⟨gG0, gG1, gG2⟩ := G_1.out
  obtain ⟨cV0, cV1⟩ := V_1.out
  go_wp2_with fail
  refine (gIs_any P Q G hmo _ 1 1 [H] rfl (by decide) _ (ints_lit v1 [H] 3)).mono ?_
  rw [K2.out]
  rintro e v2 ⟨rfl, hb0⟩
  have hb := bt (ba v1 _) hb0
  clear hb0
  have HB_2 := Lib.hid (bt HB_1.out hb)
  have G_2 := Lib.hid (G_1.out.below hb)
  have V_2 := Lib.hid (V_1.out.below hb)
  have Y_2 := Lib.hid (Y_1.out.below hb)
  clear hb gG0 gG1 gG2 cV0 cV1
  obtain ⟨gG0, gG1, gG2⟩ := G_2.out
  obtain ⟨cV0, cV1⟩ := V_2.out
  go_wp2_with fail
  refine (l9Has_any ya hs.length yc hs 1 rfl hl _ (Y_2.out.ints).1).mono ?_
  rw [K4.out]
  rintro e w' ⟨rfl, rfl⟩
  go_wp2_with fail
  refine (gIs_any P Q G hmo ya hs.length yc hs rfl hl _ (Y_2.out.ints).1).mono ?_
  rw [K5.out]
  rintro e v3 ⟨rfl, hb⟩
  have HB_3 := Lib.hid (bt HB_2.out hb)
  have G_3 := Lib.hid (G_2.out.below hb)
  have V_3 := Lib.hid (V_2.out.below hb)
  have Y_3 := Lib.hid (Y_2.out.below hb)
  clear hb gG0 gG1 gG2 cV0 cV1
  obtain ⟨gG0, gG1, gG2⟩ := G_3.out
  obtain ⟨cV0, cV1⟩ := V_3.out
  go_wp2
  go_ret
  exact ⟨rfl, HB_3.out⟩

set_option maxRecDepth 100000 in
set_option maxHeartbeats 3200000 in
theorem sIsValidBases_any (P Q G H : Int) {B : Nat} {y : Value} {hs : List Int} (hl : hs.length ≤ 1152921504606846976) {w : World} (hy : InI B w y hs) :
    Calls Try.prog 21 #[gv P Q G, .agg #[.int .i64 H, y]] w fun e w' => e = .returned (.bool (bsB P Q G H hs)) ∧ Below w.heap.size w w' := by
  obtain ⟨ya, yc, rfl⟩ := hy.shape
  have G_0 := Lib.hid ((gr_at w (w.heap.size) (by simp) P Q G 29).below (ba (w.alloc (.cells #[.int .i64 P, .int .i64 Q, .int .i64 G] 29)) (.cells #[.int .i64 H, .slice ya hs.length yc] 26)))
  have V_0 := Lib.hid (d2_at (w.alloc (.cells #[.int .i64 P, .int .i64 Q, .int .i64 G] 29)) (w.heap.size + 1) (by simp) (.int .i64 H) (.slice ya hs.length yc) 26)
  have HB_0 := Lib.hid (show Below w.heap.size w ((w.alloc (.cells #[.int .i64 P, .int .i64 Q, .int .i64 G] 29)).alloc (.cells #[.int .i64 H, .slice ya hs.length yc] 26)) from bt (ba _ _) (ba _ _))
  have Y_0 := Lib.hid (hy.below HB_0.out)
  clear hy
  obtain ⟨gG0, gG1, gG2⟩ := G_0.out
  obtain ⟨cV0, cV1⟩ := V_0.out
  go_enter Try.func21, Try.ntmps21
  go_wp2_with fail
  refine (l9Good_any P Q G H hl Y_0.out).mono ?_
  rintro e' v9 ⟨rfl, hb9⟩
  have HB_9 := Lib.hid (bt HB_0.out hb9)
  clear hb9
  go_wp2
  go_ret
  exact ⟨rfl, HB_9.out⟩

set_option maxRecDepth 100000 in
set_option maxHeartbeats 3200000 in
theorem pCommit_any (P Q G H m r : Int) (hg : goodB P Q G = true) (hH0 : elB P Q H = true) (hm : 0 ≤ m ∧ m < Q) (hr : 0 ≤ r ∧ r < Q) {ya : Option Addr} {yc : Nat} {hs : List Int} (w : World) :
    Calls Try.prog 73 #[gv P Q G, .agg #[.int .i64 H, .slice ya hs.length yc], .int .i64 m, .int .i64 r] w fun e w' => e = .returned (.int .i64 (cmW P G H m r)) ∧ Below w.heap.size w w' := by
  have hmo := good_mo hg
  have hgr := good_rng hg
  have HP := Lib.hid hmo.1
  have HQ := Lib.hid hgr.2.1
  have hH := el_rng hH0
  have hG := el_rng (good_el hg)
  have HG := Lib.hid (show 0 ≤ G ∧ G ≤ 2000000000 by have := hmo.1; omega)
  have HH := Lib.hid (show 0 ≤ H ∧ H ≤ 2000000000 by have := hmo.1; omega)
  have HM := Lib.hid hm
  have HR := Lib.hid hr
  have hp1 := pow_lt G m P hmo.1.1
  have hp2 := pow_lt H r P hmo.1.1
  have EM0 := mul_two (b := Num.pow H r P) hp1.1 hp1.2
  have HPP := Lib.hid (show ∀ z ∈ [Num.pow G m P, Num.pow H r P], 0 ≤ z ∧ z < P from fun z hz => by
    simp only [List.mem_cons, List.not_mem_nil, or_false] at hz
    rcases hz with rfl | rfl
    · exact hp1
    · exact hp2)
  unfold cmW
  generalize hq1 : Num.pow G m P = p1 at EM0 HPP ⊢
  generalize hq2 : Num.pow H r P = p2 at EM0 HPP ⊢
  have P1 := Lib.hid hq1
  have P2 := Lib.hid hq2
  have EM := Lib.hid EM0
  clear hq1 hq2 EM0 hp1 hp2 hm hr hmo hgr hH hG hg hH0
  have G_0 := Lib.hid ((gr_at w (w.heap.size) (by simp) P Q G 29).below (ba (w.alloc (.cells #[.int .i64 P, .int .i64 Q, .int .i64 G] 29)) (.cells #[.int .i64 H, .slice ya hs.length yc] 26)))
  have V_0 := Lib.hid (d2_at (w.alloc (.cells #[.int .i64 P, .int .i64 Q, .int .i64 G] 29)) (w.heap.size + 1) (by simp) (.int .i64 H) (.slice ya hs.length yc) 26)
  have HB_0 := Lib.hid (show Below w.heap.size w ((w.alloc (.cells #[.int .i64 P, .int .i64 Q, .int .i64 G] 29)).alloc (.cells #[.int .i64 H, .slice ya hs.length yc] 26)) from bt (ba _ _) (ba _ _))
  obtain ⟨W, hW⟩ : ∃ W, ((w.alloc (.cells #[.int .i64 P, .int .i64 Q, .int .i64 G] 29)).alloc (.cells #[.int .i64 H, .slice ya hs.length yc] 26)) = W := ⟨_, rfl⟩
  rw [hW] at HB_0 G_0 V_0
  go_enter Try.func73, Try.ntmps73
  go_wp2_with fail
  clear hW
  have hbd : Below W.heap.size W W.drew := (Below.refl _ W).drew
  have HB_s := Lib.hid (bt HB_0.out hbd)
  have G_s := Lib.hid (G_0.out.below hbd)
  have V_s := Lib.hid (V_0.out.below hbd)
  clear hbd
  refine wp_region_held_drew (S := (fun w' => (w'.cell? ⟨w.heap.size, 0, none⟩ = some (.int .i64 P) ∧ w'.cell? ⟨w.heap.size, 1, none⟩ = some (.int .i64 Q) ∧ w'.cell? ⟨w.heap.size, 2, none⟩ = some (.int .i64 G)) ∧ w'.cell? ⟨w.heap.size + 1, 0, none⟩ = some (.int .i64 H) ∧ w'.cell? ⟨w.heap.size + 1, 1, none⟩ = some (.slice ya hs.length yc))) (by kernel_rfl) (show _ from ⟨⟨G_0.out.1, G_0.out.2.1, G_0.out.2.2⟩, V_0.out.1, V_0.out.2⟩) (fun hHeld => ?_)
  generalize hW0 : W.drew = Ws at *
  clear hW0
  refine wpAnyH_take (i := 0) (v := ?_) rfl (by kernel_rfl) (by kernel_rfl) (by kernel_rfl) (fun _ _ _ h => h) (Or.inl ⟨by kernel_rfl, ?_⟩) (by assumption) ?_
  rotate_left 1
  · intro w9 hSw
    try dsimp only at hSw
    go_simp
    try with_reducible rfl
  try simp only [Act.put, List.getElem_toArray, List.getElem_cons_succ, List.getElem_cons_zero, List.setIfInBounds_toArray, List.set_cons_zero, List.set_cons_succ]
  refine wpAnyH_take (i := 1) (v := ?_) rfl (by kernel_rfl) (by kernel_rfl) (by kernel_rfl) (fun _ _ _ h => h) (Or.inl ⟨by kernel_rfl, ?_⟩) (by assumption) ?_
  rotate_left 1
  · intro w9 hSw
    try dsimp only at hSw
    go_simp
    try with_reducible rfl
  try simp only [Act.put, List.getElem_toArray, List.getElem_cons_succ, List.getElem_cons_zero, List.setIfInBounds_toArray, List.set_cons_zero, List.set_cons_succ]
  refine wpAnyH_take (i := 2) (v := ?_) rfl (by kernel_rfl) (by kernel_rfl) (by kernel_rfl) (fun _ _ _ h => h) (Or.inl ⟨by kernel_rfl, ?_⟩) (by assumption) ?_
  rotate_left 1
  · intro w9 hSw
    try dsimp only at hSw
    go_simp
    try with_reducible rfl
  try simp only [Act.put, List.getElem_toArray, List.getElem_cons_succ, List.getElem_cons_zero, List.setIfInBounds_toArray, List.set_cons_zero, List.set_cons_succ]
  refine wpAnyH_take (i := 3) (v := ?_) rfl (by kernel_rfl) (by kernel_rfl) (by kernel_rfl) (fun _ _ _ h => h) (Or.inl ⟨by kernel_rfl, ?_⟩) (by assumption) ?_
  rotate_left 1
  · intro w9 hSw
    try dsimp only at hSw
    go_simp
    try with_reducible rfl
  try simp only [Act.put, List.getElem_toArray, List.getElem_cons_succ, List.getElem_cons_zero, List.setIfInBounds_toArray, List.set_cons_zero, List.set_cons_succ]
  refine wpAnyH_take (i := 4) (v := ?_) rfl (by kernel_rfl) (by kernel_rfl) (by kernel_rfl) (fun _ _ _ h => h) (Or.inl ⟨by kernel_rfl, ?_⟩) (by assumption) ?_
  rotate_left 1
  · intro w9 hSw
    try dsimp only at hSw
    go_simp
    try with_reducible rfl
  try simp only [Act.put, List.getElem_toArray, List.getElem_cons_succ, List.getElem_cons_zero, List.setIfInBounds_toArray, List.set_cons_zero, List.set_cons_succ]
  refine wpAnyH_take (i := 6) (v := ?_) rfl (by kernel_rfl) (by kernel_rfl) (by kernel_rfl) (fun _ _ _ h => h) (Or.inl ⟨by kernel_rfl, ?_⟩) (by assumption) ?_
  rotate_left 1
  · intro w9 hSw
    try dsimp only at hSw
    go_simp
    try with_reducible rfl
  try simp only [Act.put, List.getElem_toArray, List.getElem_cons_succ, List.getElem_cons_zero, List.setIfInBounds_toArray, List.set_cons_zero, List.set_cons_succ]
  refine wpAnyH_take (i := 7) (v := ?_) rfl (by kernel_rfl) (by kernel_rfl) (by kernel_rfl) (fun _ _ _ h => h) (Or.inl ⟨by kernel_rfl, ?_⟩) (by assumption) ?_
  rotate_left 1
  · intro w9 hSw
    try dsimp only at hSw
    go_simp
    try with_reducible rfl
  try simp only [Act.put, List.getElem_toArray, List.getElem_cons_succ, List.getElem_cons_zero, List.setIfInBounds_toArray, List.set_cons_zero, List.set_cons_succ]
  refine wpAnyH_take (i := 8) (v := ?_) rfl (by kernel_rfl) (by kernel_rfl) (by kernel_rfl) (fun _ _ _ h => h) (Or.inl ⟨by kernel_rfl, ?_⟩) (by assumption) ?_
  rotate_left 1
  · intro w9 hSw
    try dsimp only at hSw
    go_simp
    try with_reducible rfl
  try simp only [Act.put, List.getElem_toArray, List.getElem_cons_succ, List.getElem_cons_zero, List.setIfInBounds_toArray, List.set_cons_zero, List.set_cons_succ]
  refine wpAnyH_take (i := 9) (v := ?_) rfl (by kernel_rfl) (by kernel_rfl) (by kernel_rfl) (fun _ _ _ h => h) (Or.inl ⟨by kernel_rfl, ?_⟩) (by assumption) ?_
  rotate_left 1
  · intro w9 hSw
    try dsimp only at hSw
    go_simp
    try with_reducible rfl
  try simp only [Act.put, List.getElem_toArray, List.getElem_cons_succ, List.getElem_cons_zero, List.setIfInBounds_toArray, List.set_cons_zero, List.set_cons_succ]
  refine wpAnyH_ready (rs := [5]) (by kernel_rfl) (by simp) ?_
  refine AllReadyH.cons rfl (fun K hK => ?_) (AllReadyH.nil)
  go_simp
  go_at_call 98
  refine (gExp_any P Q G G m HG.out.1 HG.out.2 HM.out.1 HM.out.2 HP.out.1 HP.out.2 HQ.out.1 HQ.out.2 _).mono ?_
  rw [P1.out]
  rintro e' Wsf ⟨rfl, hb⟩
  have HB_sf := Lib.hid (bt HB_s.out hb)
  have G_sf := Lib.hid (G_s.out.below hb)
  have V_sf := Lib.hid (V_s.out.below hb)
  clear hb
  go_wp2_with fail
  refine hK.out _ _ (show _ from ⟨⟨G_sf.out.1, G_sf.out.2.1, G_sf.out.2.2⟩, V_sf.out.1, V_sf.out.2⟩) (fun hHeld => ?_)
  clear hK K
  try simp only [Act.put, List.getElem_toArray, List.getElem_cons_succ, List.getElem_cons_zero, List.setIfInBounds_toArray, List.set_cons_zero, List.set_cons_succ]
  refine wpAnyH_ready (rs := [10]) (by kernel_rfl) (by simp) ?_
  refine AllReadyH.cons rfl (fun K hK => ?_) (AllReadyH.nil)
  go_simp
  go_at_call 98
  refine (gExp_any P Q G H r HH.out.1 HH.out.2 HR.out.1 HR.out.2 HP.out.1 HP.out.2 HQ.out.1 HQ.out.2 _).mono ?_
  rw [P2.out]
  rintro e' Wsfk ⟨rfl, hb⟩
  have HB_sfk := Lib.hid (bt HB_sf.out hb)
  have G_sfk := Lib.hid (G_sf.out.below hb)
  have V_sfk := Lib.hid (V_sf.out.below hb)
  clear hb
  go_wp2_with fail
  refine hK.out _ _ (show _ from ⟨⟨G_sfk.out.1, G_sfk.out.2.1, G_sfk.out.2.2⟩, V_sfk.out.1, V_sfk.out.2⟩) (fun hHeld => ?_)
  clear hK K
  try simp only [Act.put, List.getElem_toArray, List.getElem_cons_succ, List.getElem_cons_zero, List.setIfInBounds_toArray, List.set_cons_zero, List.set_cons_succ]
  refine wpAnyH_ready (rs := [11]) (by kernel_rfl) (by simp) ?_
  refine AllReadyH.cons rfl (fun K hK => ?_) (AllReadyH.nil)
  go_simp
  have hb := ba Wsfk (.cells #[.int .i64 p1, .int .i64 p2] 3)
  have HB_sfkl := Lib.hid (bt HB_sfk.out hb)
  have G_sfkl := Lib.hid (G_sfk.out.below hb)
  have V_sfkl := Lib.hid (V_sfk.out.below hb)
  have L_sfkl := Lib.hid (show IsInts (Wsfk.alloc (.cells #[.int .i64 p1, .int .i64 p2] 3)) (some ⟨Wsfk.heap.size, 0, none⟩) [p1, p2] from ints_spot Wsfk _ rfl [p1, p2] 3)
  clear hb
  refine hK.out _ _ (show _ from ⟨⟨G_sfkl.out.1, G_sfkl.out.2.1, G_sfkl.out.2.2⟩, V_sfkl.out.1, V_sfkl.out.2⟩) (fun hHeld => ?_)
  clear hK K
  try simp only [Act.put, List.getElem_toArray, List.getElem_cons_succ, List.getElem_cons_zero, List.setIfInBounds_toArray, List.set_cons_zero, List.set_cons_succ]
  generalize hW9 : Wsfk.alloc (.cells #[.int .i64 p1, .int .i64 p2] 3) = Wsfkl at *
  clear hW9
  refine wpAnyH_ready (rs := [12]) (by kernel_rfl) (by simp) ?_
  refine AllReadyH.cons rfl (fun K hK => ?_) (AllReadyH.nil)
  go_simp
  go_at_call 125
  refine (gMul_any P Q G _ 2 2 [p1, p2] rfl (by decide) HP.out.1 HP.out.2 HPP.out _ L_sfkl.out).mono ?_
  rw [EM.out]
  rintro e' Wsfklm ⟨rfl, hb⟩
  have HB_sfklm := Lib.hid (bt HB_sfkl.out hb)
  have G_sfklm := Lib.hid (G_sfkl.out.below hb)
  have V_sfklm := Lib.hid (V_sfkl.out.below hb)
  clear hb
  go_wp2_with fail
  refine hK.out _ _ (show _ from ⟨⟨G_sfklm.out.1, G_sfklm.out.2.1, G_sfklm.out.2.2⟩, V_sfklm.out.1, V_sfklm.out.2⟩) (fun hHeld => ?_)
  clear hK K
  try simp only [Act.put, List.getElem_toArray, List.getElem_cons_succ, List.getElem_cons_zero, List.setIfInBounds_toArray, List.set_cons_zero, List.set_cons_succ]
  refine wpAnyH_take (i := 13) (v := ?_) rfl (by kernel_rfl) (by kernel_rfl) (by kernel_rfl) (fun _ _ _ h => h) (Or.inl ⟨by kernel_rfl, ?_⟩) (by assumption) ?_
  rotate_left 1
  · intro w9 hSw
    try dsimp only at hSw
    go_simp
    try with_reducible rfl
  try simp only [Act.put, List.getElem_toArray, List.getElem_cons_succ, List.getElem_cons_zero, List.setIfInBounds_toArray, List.set_cons_zero, List.set_cons_succ]
  refine wpAnyH_done (by kernel_rfl) ?_ _
  go_wp2
  go_ret
  exact ⟨rfl, HB_sfklm.out⟩

theorem in_pair {Q a b : Int} (h : allIn [a, b] 0 (Q - 1) = true) : (0 ≤ a ∧ a < Q) ∧ 0 ≤ b ∧ b < Q := by
  simp only [allIn, List.all_cons, List.all_nil, Bool.and_true, Bool.and_eq_true, inB_true] at h
  omega

set_option maxRecDepth 100000 in
set_option maxHeartbeats 3200000 in
theorem sCommit_any (P Q G H : Int) {B : Nat} {y : Value} {hs : List Int} (hl : hs.length ≤ 1048576) (m r : Int) {w : World} (hy : InI B w y hs) :
    Calls Try.prog 24 #[gv P Q G, .agg #[.int .i64 H, y], .int .i64 m, .int .i64 r] w fun e w' => e = .returned (.tuple #[.int .i64 (cmV P Q G H hs m r), .bool (cmB P Q G H hs m r)]) ∧ Below w.heap.size w w' := by
  obtain ⟨ya, yc, rfl⟩ := hy.shape
  have G_0 := Lib.hid ((gr_at w (w.heap.size) (by simp) P Q G 29).below (ba (w.alloc (.cells #[.int .i64 P, .int .i64 Q, .int .i64 G] 29)) (.cells #[.int .i64 H, .slice ya hs.length yc] 26)))
  have V_0 := Lib.hid (d2_at (w.alloc (.cells #[.int .i64 P, .int .i64 Q, .int .i64 G] 29)) (w.heap.size + 1) (by simp) (.int .i64 H) (.slice ya hs.length yc) 26)
  have HB_0 := Lib.hid (show Below w.heap.size w ((w.alloc (.cells #[.int .i64 P, .int .i64 Q, .int .i64 G] 29)).alloc (.cells #[.int .i64 H, .slice ya hs.length yc] 26)) from bt (ba _ _) (ba _ _))
  have Y_0 := Lib.hid (hy.below HB_0.out)
  clear hy
  cases h0 : bsB P Q G H hs
  · have K0 := Lib.hid (show bsB P Q G H hs = false from h0)
    have E1 := Lib.hid (show cmB P Q G H hs m r = false by simp [cmB, h0])
    have E2 := Lib.hid (show cmV P Q G H hs m r = 0 by simp [cmV, E1.out])
    rw [E1.out, E2.out]
    clear h0
    obtain ⟨gG0, gG1, gG2⟩ := G_0.out
    obtain ⟨cV0, cV1⟩ := V_0.out
    go_enter Try.func24, Try.ntmps24
    go_wp2_with fail
    refine (l9Good_any P Q G H (by omega) Y_0.out).mono ?_
    rw [K0.out]
    rintro e v1 ⟨rfl, hb⟩
    have HB_1 := Lib.hid (bt HB_0.out hb)
    have G_1 := Lib.hid (G_0.out.below hb)
    have V_1 := Lib.hid (V_0.out.below hb)
    have Y_1 := Lib.hid (Y_0.out.below hb)
    clear hb gG0 gG1 gG2 cV0 cV1
    obtain ⟨gG0, gG1, gG2⟩ := G_1.out
    obtain ⟨cV0, cV1⟩ := V_1.out
    go_wp2
    go_ret2
    exact ⟨rfl, HB_1.out⟩
  have K0 := Lib.hid (show bsB P Q G H hs = true from h0)
  have hgd := bs_good h0
  have hmo := good_mo hgd
  have hgr := good_rng hgd
  have hH0 := bs_H h0
  cases h1 : allIn [m, r] 0 (Q - 1)
  · have K1 := Lib.hid (show allIn [m, r] 0 (Q - 1) = false from h1)
    have E1 := Lib.hid (show cmB P Q G H hs m r = false by simp [cmB, h0, h1])
    have E2 := Lib.hid (show cmV P Q G H hs m r = 0 by simp [cmV, E1.out])
    rw [E1.out, E2.out]
    clear h0 h1
    obtain ⟨gG0, gG1, gG2⟩ := G_0.out
    obtain ⟨cV0, cV1⟩ := V_0.out
    go_enter Try.func24, Try.ntmps24
    go_wp2_with fail
    refine (l9Good_any P Q G H (by omega) Y_0.out).mono ?_
    rw [K0.out]
    rintro e v1 ⟨rfl, hb⟩
    have HB_1 := Lib.hid (bt HB_0.out hb)
    have G_1 := Lib.hid (G_0.out.below hb)
    have V_1 := Lib.hid (V_0.out.below hb)
    have Y_1 := Lib.hid (Y_0.out.below hb)
    clear hb gG0 gG1 gG2 cV0 cV1
    obtain ⟨gG0, gG1, gG2⟩ := G_1.out
    obtain ⟨cV0, cV1⟩ := V_1.out
    go_wp2_with fail
    refine (gExps_any P Q G ⟨by omega, by omega⟩ _ 2 2 [m, r] rfl (by decide) _ (ints_lit v1 [m, r] 3)).mono ?_
    rw [K1.out]
    rintro e v2 ⟨rfl, hb0⟩
    have hb := bt (ba v1 _) hb0
    clear hb0
    have HB_2 := Lib.hid (bt HB_1.out hb)
    have G_2 := Lib.hid (G_1.out.below hb)
    have V_2 := Lib.hid (V_1.out.below hb)
    have Y_2 := Lib.hid (Y_1.out.below hb)
    clear hb gG0 gG1 gG2 cV0 cV1
    obtain ⟨gG0, gG1, gG2⟩ := G_2.out
    obtain ⟨cV0, cV1⟩ := V_2.out
    go_wp2
    go_ret2
    exact ⟨rfl, HB_2.out⟩
  have K1 := Lib.hid (show allIn [m, r] 0 (Q - 1) = true from h1)
  obtain ⟨hm9, hr9⟩ := in_pair h1
  have E1 := Lib.hid (show cmB P Q G H hs m r = true by simp [cmB, h0, h1])
  have E2 := Lib.hid (show cmV P Q G H hs m r = cmW P G H m r by simp [cmV, E1.out])
  rw [E1.out, E2.out]
  clear h0 h1
  obtain ⟨gG0, gG1, gG2⟩ := G_0.out
  obtain ⟨cV0, cV1⟩ := V_0.out
  go_enter Try.func24, Try.ntmps24
  go_wp2_with fail
  refine (l9Good_any P Q G H (by omega) Y_0.out).mono ?_
  rw [K0.out]
  rintro e v1 ⟨rfl, hb⟩
  have HB_1 := Lib.hid (bt HB_0.out hb)
  have G_1 := Lib.hid (G_0.out.below hb)
  have V_1 := Lib.hid (V_0.out.below hb)
  have Y_1 := Lib.hid (Y_0.out.below hb)
  clear hb gG0 gG1 gG2 cV0 cV1
  obtain ⟨gG0, gG1, gG2⟩ := G_1.out
  obtain ⟨cV0, cV1⟩ := V_1.out
  go_wp2_with fail
  refine (gExps_any P Q G ⟨by omega, by omega⟩ _ 2 2 [m, r] rfl (by decide) _ (ints_lit v1 [m, r] 3)).mono ?_
  rw [K1.out]
  rintro e v2 ⟨rfl, hb0⟩
  have hb := bt (ba v1 _) hb0
  clear hb0
  have HB_2 := Lib.hid (bt HB_1.out hb)
  have G_2 := Lib.hid (G_1.out.below hb)
  have V_2 := Lib.hid (V_1.out.below hb)
  have Y_2 := Lib.hid (Y_1.out.below hb)
  clear hb gG0 gG1 gG2 cV0 cV1
  obtain ⟨gG0, gG1, gG2⟩ := G_2.out
  obtain ⟨cV0, cV1⟩ := V_2.out
  go_wp2_with fail
  refine (pCommit_any P Q G H m r hgd hH0 hm9 hr9 _).mono ?_
  rintro e' v9 ⟨rfl, hb9⟩
  have HB_9 := Lib.hid (bt HB_2.out hb9)
  clear hb9
  go_wp2
  go_ret2
  exact ⟨rfl, HB_9.out⟩

theorem el_list1 (P Q c : Int) : allEl P Q [c] = elB P Q c := by simp [allEl]
theorem co_on {P Q c v : Int} {b : Bool} (h : coB P Q c b = true) : coV P Q c b v = decide (c = v) := by unfold coV; rw [h, Bool.true_and]

set_option maxRecDepth 100000 in
set_option maxHeartbeats 3200000 in
theorem sCheckOpening_any (P Q G H : Int) {B : Nat} {y : Value} {hs : List Int} (hl : hs.length ≤ 1048576) (c m r : Int) {w : World} (hy : InI B w y hs) :
    Calls Try.prog 26 #[gv P Q G, .agg #[.int .i64 H, y], .int .i64 c, .int .i64 m, .int .i64 r] w fun e w' => e = .returned (.tuple #[.bool (coV P Q c (cmB P Q G H hs m r) (cmV P Q G H hs m r)), .bool (coB P Q c (cmB P Q G H hs m r))]) ∧ Below w.heap.size w w' := by
  obtain ⟨ya, yc, rfl⟩ := hy.shape
  have G_0 := Lib.hid ((gr_at w (w.heap.size) (by simp) P Q G 29).below (ba (w.alloc (.cells #[.int .i64 P, .int .i64 Q, .int .i64 G] 29)) (.cells #[.int .i64 H, .slice ya hs.length yc] 26)))
  have V_0 := Lib.hid (d2_at (w.alloc (.cells #[.int .i64 P, .int .i64 Q, .int .i64 G] 29)) (w.heap.size + 1) (by simp) (.int .i64 H) (.slice ya hs.length yc) 26)
  have HB_0 := Lib.hid (show Below w.heap.size w ((w.alloc (.cells #[.int .i64 P, .int .i64 Q, .int .i64 G] 29)).alloc (.cells #[.int .i64 H, .slice ya hs.length yc] 26)) from bt (ba _ _) (ba _ _))
  have Y_0 := Lib.hid (hy.below HB_0.out)
  clear hy
  cases h0 : bsB P Q G H hs
  · have K0 := Lib.hid (show bsB P Q G H hs = false from h0)
    have E1 := Lib.hid (show coB P Q c (cmB P Q G H hs m r) = false by simp [coB, cmB, ← el_list1, h0])
    have E2 := Lib.hid (show coV P Q c (cmB P Q G H hs m r) (cmV P Q G H hs m r) = false by simp only [coV, E1.out, Bool.false_and])
    rw [E1.out, E2.out]
    clear h0
    obtain ⟨gG0, gG1, gG2⟩ := G_0.out
    obtain ⟨cV0, cV1⟩ := V_0.out
    go_enter Try.func26, Try.ntmps26
    go_wp2_with fail
    refine (l9Good_any P Q G H (by omega) Y_0.out).mono ?_
    rw [K0.out]
    rintro e v1 ⟨rfl, hb⟩
    have HB_1 := Lib.hid (bt HB_0.out hb)
    have G_1 := Lib.hid (G_0.out.below hb)
    have V_1 := Lib.hid (V_0.out.below hb)
    have Y_1 := Lib.hid (Y_0.out.below hb)
    clear hb gG0 gG1 gG2 cV0 cV1
    obtain ⟨gG0, gG1, gG2⟩ := G_1.out
    obtain ⟨cV0, cV1⟩ := V_1.out
    go_wp2
    go_ret2
    exact ⟨rfl, HB_1.out⟩
  have K0 := Lib.hid (show bsB P Q G H hs = true from h0)
  have hgd := bs_good h0
  have hmo := good_mo hgd
  have hgr := good_rng hgd
  have hH0 := bs_H h0
  cases h1 : allIn [m, r] 0 (Q - 1)
  · have K1 := Lib.hid (show allIn [m, r] 0 (Q - 1) = false from h1)
    have E1 := Lib.hid (show coB P Q c (cmB P Q G H hs m r) = false by simp [coB, cmB, ← el_list1, h0, h1])
    have E2 := Lib.hid (show coV P Q c (cmB P Q G H hs m r) (cmV P Q G H hs m r) = false by simp only [coV, E1.out, Bool.false_and])
    rw [E1.out, E2.out]
    clear h0 h1
    obtain ⟨gG0, gG1, gG2⟩ := G_0.out
    obtain ⟨cV0, cV1⟩ := V_0.out
    go_enter Try.func26, Try.ntmps26
    go_wp2_with fail
    refine (l9Good_any P Q G H (by omega) Y_0.out).mono ?_
    rw [K0.out]
    rintro e v1 ⟨rfl, hb⟩
    have HB_1 := Lib.hid (bt HB_0.out hb)
    have G_1 := Lib.hid (G_0.out.below hb)
    have V_1 := Lib.hid (V_0.out.below hb)
    have Y_1 := Lib.hid (Y_0.out.below hb)
    clear hb gG0 gG1 gG2 cV0 cV1
    obtain ⟨gG0, gG1, gG2⟩ := G_1.out
    obtain ⟨cV0, cV1⟩ := V_1.out
    go_wp2_with fail
    refine (gExps_any P Q G ⟨by omega, by omega⟩ _ 2 2 [m, r] rfl (by decide) _ (ints_lit v1 [m, r] 3)).mono ?_
    rw [K1.out]
    rintro e v2 ⟨rfl, hb0⟩
    have hb := bt (ba v1 _) hb0
    clear hb0
    have HB_2 := Lib.hid (bt HB_1.out hb)
    have G_2 := Lib.hid (G_1.out.below hb)
    have V_2 := Lib.hid (V_1.out.below hb)
    have Y_2 := Lib.hid (Y_1.out.below hb)
    clear hb gG0 gG1 gG2 cV0 cV1
    obtain ⟨gG0, gG1, gG2⟩ := G_2.out
    obtain ⟨cV0, cV1⟩ := V_2.out
    go_wp2
    go_ret2
    exact ⟨rfl, HB_2.out⟩
  have K1 := Lib.hid (show allIn [m, r] 0 (Q - 1) = true from h1)
  obtain ⟨hm9, hr9⟩ := in_pair h1
  cases h2 : allEl P Q [c]
  · have K2 := Lib.hid (show allEl P Q [c] = false from h2)
    have E1 := Lib.hid (show coB P Q c (cmB P Q G H hs m r) = false by simp [coB, cmB, ← el_list1, h0, h1, h2])
    have E2 := Lib.hid (show coV P Q c (cmB P Q G H hs m r) (cmV P Q G H hs m r) = false by simp only [coV, E1.out, Bool.false_and])
    rw [E1.out, E2.out]
    clear h0 h1 h2
    obtain ⟨gG0, gG1, gG2⟩ := G_0.out
    obtain ⟨cV0, cV1⟩ := V_0.out
    go_enter Try.func26, Try.ntmps26
    go_wp2_with fail
    refine (l9Good_any P Q G H (by omega) Y_0.out).mono ?_
    rw [K0.out]
    rintro e v1 ⟨rfl, hb⟩
    have HB_1 := Lib.hid (bt HB_0.out hb)
    have G_1 := Lib.hid (G_0.out.below hb)
    have V_1 := Lib.hid (V_0.out.below hb)
    have Y_1 := Lib.hid (Y_0.out.below hb)
    clear hb gG0 gG1 gG2 cV0 cV1
    obtain ⟨gG0, gG1, gG2⟩ := G_1.out
    obtain ⟨cV0, cV1⟩ := V_1.out
    go_wp2_with fail
    refine (gExps_any P Q G ⟨by omega, by omega⟩ _ 2 2 [m, r] rfl (by decide) _ (ints_lit v1 [m, r] 3)).mono ?_
    rw [K1.out]
    rintro e v2 ⟨rfl, hb0⟩
    have hb := bt (ba v1 _) hb0
    clear hb0
    have HB_2 := Lib.hid (bt HB_1.out hb)
    have G_2 := Lib.hid (G_1.out.below hb)
    have V_2 := Lib.hid (V_1.out.below hb)
    have Y_2 := Lib.hid (Y_1.out.below hb)
    clear hb gG0 gG1 gG2 cV0 cV1
    obtain ⟨gG0, gG1, gG2⟩ := G_2.out
    obtain ⟨cV0, cV1⟩ := V_2.out
    go_wp2_with fail
    refine (gIs_any P Q G hmo _ 1 1 [c] rfl (by decide) _ (ints_lit v2 [c] 3)).mono ?_
    rw [K2.out]
    rintro e v3 ⟨rfl, hb0⟩
    have hb := bt (ba v2 _) hb0
    clear hb0
    have HB_3 := Lib.hid (bt HB_2.out hb)
    have G_3 := Lib.hid (G_2.out.below hb)
    have V_3 := Lib.hid (V_2.out.below hb)
    have Y_3 := Lib.hid (Y_2.out.below hb)
    clear hb gG0 gG1 gG2 cV0 cV1
    obtain ⟨gG0, gG1, gG2⟩ := G_3.out
    obtain ⟨cV0, cV1⟩ := V_3.out
    go_wp2
    go_ret2
    exact ⟨rfl, HB_3.out⟩
  have K2 := Lib.hid (show allEl P Q [c] = true from h2)
  have E0 := Lib.hid (show cmB P Q G H hs m r = true by simp [cmB, h0, h1])
  have E1 := Lib.hid (show coB P Q c (cmB P Q G H hs m r) = true by simp [coB, cmB, ← el_list1, h0, h1, h2])
  have E2 := Lib.hid (show coV P Q c (cmB P Q G H hs m r) (cmV P Q G H hs m r) = decide (c = cmW P G H m r) by rw [co_on E1.out]; simp [cmV, E0.out])
  rw [E1.out, E2.out]
  generalize hcm : cmW P G H m r = v
  have HV := Lib.hid hcm
  clear h0 h1 h2 hcm
  obtain ⟨gG0, gG1, gG2⟩ := G_0.out
  obtain ⟨cV0, cV1⟩ := V_0.out
  go_enter Try.func26, Try.ntmps26
  go_wp2_with fail
  refine (l9Good_any P Q G H (by omega) Y_0.out).mono ?_
  rw [K0.out]
  rintro e v1 ⟨rfl, hb⟩
  have HB_1 := Lib.hid (bt HB_0.out hb)
  have G_1 := Lib.hid (G_0.out.below hb)
  have V_1 := Lib.hid (V_0.out.below hb)
  have Y_1 := Lib.hid (Y_0.out.below hb)
  clear hb gG0 gG1 gG2 cV0 cV1
  obtain ⟨gG0, gG1, gG2⟩ := G_1.out
  obtain ⟨cV0, cV1⟩ := V_1.out
  go_wp2_with fail
  refine (gExps_any P Q G ⟨by omega, by omega⟩ _ 2 2 [m, r] rfl (by decide) _ (ints_lit v1 [m, r] 3)).mono ?_
  rw [K1.out]
  rintro e v2 ⟨rfl, hb0⟩
  have hb := bt (ba v1 _) hb0
  clear hb0
  have HB_2 := Lib.hid (bt HB_1.out hb)
  have G_2 := Lib.hid (G_1.out.below hb)
  have V_2 := Lib.hid (V_1.out.below hb)
  have Y_2 := Lib.hid (Y_1.out.below hb)
  clear hb gG0 gG1 gG2 cV0 cV1
  obtain ⟨gG0, gG1, gG2⟩ := G_2.out
  obtain ⟨cV0, cV1⟩ := V_2.out
  go_wp2_with fail
  refine (gIs_any P Q G hmo _ 1 1 [c] rfl (by decide) _ (ints_lit v2 [c] 3)).mono ?_
  rw [K2.out]
  rintro e v3 ⟨rfl, hb0⟩
  have hb := bt (ba v2 _) hb0
  clear hb0
  have HB_3 := Lib.hid (bt HB_2.out hb)
  have G_3 := Lib.hid (G_2.out.below hb)
  have V_3 := Lib.hid (V_2.out.below hb)
  have Y_3 := Lib.hid (Y_2.out.below hb)
  clear hb gG0 gG1 gG2 cV0 cV1
  obtain ⟨gG0, gG1, gG2⟩ := G_3.out
  obtain ⟨cV0, cV1⟩ := V_3.out
  go_wp2_with fail
  refine (pCommit_any P Q G H m r hgd hH0 hm9 hr9 _).mono ?_
  rw [HV.out]
  rintro e' v9 ⟨rfl, hb9⟩
  have HB_9 := Lib.hid (bt HB_3.out hb9)
  clear hb9
  go_wp2
  go_ret2
  exact ⟨by simp [Bool.beq_eq_decide_eq, eq_comm], HB_9.out⟩

theorem mul_mod3 (P a b x : Int) : a * b % P * x % P = a * (b * x % P) % P := by
  rw [Int.mul_emod (a * b % P) x P, Int.emod_emod, ← Int.mul_emod, Int.mul_emod a (b * x % P) P, Int.emod_emod, ← Int.mul_emod, Int.mul_assoc]
theorem pows_acc {P : Int} : ∀ (zs es : List Int) (a b : Int), powsFrom P (a * b % P) zs es % P = a * powsFrom P b zs es % P
  | [], _, a, b => by simp [powsFrom]
  | _ :: _, [], a, b => by simp [powsFrom]
  | z :: zs, e :: es, a, b => by
    show powsFrom P (a * b % P * Num.pow z e P % P) zs es % P = a * powsFrom P (b * Num.pow z e P % P) zs es % P
    rw [← pows_acc (P := P) zs es a (b * Num.pow z e P % P), mul_mod3]
theorem cv_ref {P Q G H r : Int} {hs l : List Int} (hg : goodB P Q G = true) (hH : elB P Q H = true) (hr : 0 ≤ r ∧ r < Q) (ha : allEl P Q hs = true) (hl : allIn l 0 (Q - 1) = true) :
    mulFrom P 1 [Num.pow H r P, powsFrom P 1 (hs.take l.length) l] = cvW P H hs l r := by
  have hP := (good_mo hg).1.1
  have h := pow_lt H r P hP
  rw [mul_two h.1 h.2]
  have h2 := pows_acc (P := P) (hs.take l.length) l (Num.pow H r P) 1
  rw [Int.mul_one] at h2
  have e1 : elB P Q (Num.pow H r P) = true := el_pow hg hH hr.1
  have h3 := el_rng (pows_el hg (hs.take l.length) l (1 * Num.pow H r P % P) (by rw [Int.one_mul, Int.emod_eq_of_lt h.1 h.2]; exact e1) (all_take ha _) hl)
  unfold cvW
  show _ = powsFrom P (1 * Num.pow H r P % P) (hs.take l.length) l
  rw [Int.one_mul] at h3 ⊢
  rw [← h2, Int.emod_eq_of_lt (by omega) h3.2]

set_option maxRecDepth 100000 in
set_option maxHeartbeats 3200000 in
theorem pVector_any (P Q G H r : Int) (hg : goodB P Q G = true) (hH0 : elB P Q H = true) (hr : 0 ≤ r ∧ r < Q) {B C : Nat} {y u : Value} {hs l : List Int} (h24 : hs.length ≤ 24) (ha : allEl P Q hs = true) (hll : l.length ≤ hs.length) (hle : allIn l 0 (Q - 1) = true) {w : World} (hy : InI B w y hs) (hu : InI C w u l) :
    Calls Try.prog 77 #[gv P Q G, .agg #[.int .i64 H, y], u, .int .i64 r] w fun e w' => e = .returned (.int .i64 (cvW P H hs l r)) ∧ Below w.heap.size w w' := by
  obtain ⟨ya, yc, rfl⟩ := hy.shape
  obtain ⟨la, lc, rfl⟩ := hu.shape
  have hmo := good_mo hg
  have hgr := good_rng hg
  have HP := Lib.hid hmo.1
  have HQ := Lib.hid hgr.2.1
  have hH := el_rng hH0
  have hG := el_rng (good_el hg)
  have HG := Lib.hid (show 0 ≤ G ∧ G ≤ 2000000000 by have := hmo.1; omega)
  have HH := Lib.hid (show 0 ≤ H ∧ H ≤ 2000000000 by have := hmo.1; omega)
  have HR := Lib.hid hr
  have EM0 := cv_ref hg hH0 hr ha hle
  have hp1 := pow_lt H r P hmo.1.1
  have hp2 := el_rng (pows_el hg (hs.take l.length) l 1 (one_el hg) (all_take ha _) hle)
  have HPP := Lib.hid (show ∀ z ∈ [Num.pow H r P, powsFrom P 1 (hs.take l.length) l], 0 ≤ z ∧ z < P from fun z hz => by
    simp only [List.mem_cons, List.not_mem_nil, or_false] at hz
    rcases hz with rfl | rfl
    · exact hp1
    · exact ⟨by omega, hp2.2⟩)
  have HTL := Lib.hid (show (hs.take l.length).length = l.length by rw [List.length_take]; omega)
  have HL24 := Lib.hid (show l.length ≤ 24 by omega)
  have HRT := Lib.hid (fun z (hz : z ∈ hs.take l.length) => (show 0 ≤ z ∧ z < P from by have := els_range (all_take ha l.length) z hz; omega))
  have HRL := Lib.hid (exps_iff hle)
  generalize hcv : cvW P H hs l r = cv at EM0 ⊢
  generalize hq1 : Num.pow H r P = p1 at EM0 HPP
  generalize hq2 : powsFrom P 1 (hs.take l.length) l = p2 at EM0 HPP
  have P1 := Lib.hid hq1
  have P2 := Lib.hid hq2
  have EM := Lib.hid EM0
  have hcap := hy.cap
  have hn0 : (0 : Int) ≤ (l.length : Int) := by omega
  have hlc : (l.length : Int) ≤ (yc : Int) := by omega
  clear hq1 hq2 EM0 hp1 hp2 hr hmo hgr hH hG hg hH0 hcv ha hle
  have G_0 := Lib.hid ((gr_at w (w.heap.size) (by simp) P Q G 29).below (ba (w.alloc (.cells #[.int .i64 P, .int .i64 Q, .int .i64 G] 29)) (.cells #[.int .i64 H, .slice ya hs.length yc] 26)))
  have V_0 := Lib.hid (d2_at (w.alloc (.cells #[.int .i64 P, .int .i64 Q, .int .i64 G] 29)) (w.heap.size + 1) (by simp) (.int .i64 H) (.slice ya hs.length yc) 26)
  have HB_0 := Lib.hid (show Below w.heap.size w ((w.alloc (.cells #[.int .i64 P, .int .i64 Q, .int .i64 G] 29)).alloc (.cells #[.int .i64 H, .slice ya hs.length yc] 26)) from bt (ba _ _) (ba _ _))
  have Y_0 := Lib.hid (hy.below HB_0.out)
  have U_0 := Lib.hid (inI_take Y_0.out hll)
  have X_0 := Lib.hid (hu.below HB_0.out)
  clear hy hu Y_0
  obtain ⟨W, hW⟩ : ∃ W, ((w.alloc (.cells #[.int .i64 P, .int .i64 Q, .int .i64 G] 29)).alloc (.cells #[.int .i64 H, .slice ya hs.length yc] 26)) = W := ⟨_, rfl⟩
  rw [hW] at HB_0 G_0 V_0 U_0 X_0
  go_enter Try.func77, Try.ntmps77
  go_wp2_with fail
  clear hW
  have hbd : Below W.heap.size W W.drew := (Below.refl _ W).drew
  have HB_s := Lib.hid (bt HB_0.out hbd)
  have G_s := Lib.hid (G_0.out.below hbd)
  have V_s := Lib.hid (V_0.out.below hbd)
  have U_s := Lib.hid (U_0.out.below hbd)
  have X_s := Lib.hid (X_0.out.below hbd)
  clear hbd
  refine wp_region_held_drew (S := (fun w' => (w'.cell? ⟨w.heap.size, 0, none⟩ = some (.int .i64 P) ∧ w'.cell? ⟨w.heap.size, 1, none⟩ = some (.int .i64 Q) ∧ w'.cell? ⟨w.heap.size, 2, none⟩ = some (.int .i64 G)) ∧ w'.cell? ⟨w.heap.size + 1, 0, none⟩ = some (.int .i64 H) ∧ w'.cell? ⟨w.heap.size + 1, 1, none⟩ = some (.slice ya hs.length yc))) (by kernel_rfl) (show _ from ⟨⟨G_0.out.1, G_0.out.2.1, G_0.out.2.2⟩, V_0.out.1, V_0.out.2⟩) (fun hHeld => ?_)
  generalize hW0 : W.drew = Ws at *
  clear hW0
  refine wpAnyH_take (i := 0) (v := ?_) rfl (by kernel_rfl) (by kernel_rfl) (by kernel_rfl) (fun _ _ _ h => h) (Or.inl ⟨by kernel_rfl, ?_⟩) (by assumption) ?_
  rotate_left 1
  · intro w9 hSw
    try dsimp only at hSw
    go_simp
    try with_reducible rfl
  try simp only [Act.put, List.getElem_toArray, List.getElem_cons_succ, List.getElem_cons_zero, List.setIfInBounds_toArray, List.set_cons_zero, List.set_cons_succ]
  refine wpAnyH_take (i := 1) (v := ?_) rfl (by kernel_rfl) (by kernel_rfl) (by kernel_rfl) (fun _ _ _ h => h) (Or.inl ⟨by kernel_rfl, ?_⟩) (by assumption) ?_
  rotate_left 1
  · intro w9 hSw
    try dsimp only at hSw
    go_simp
    try with_reducible rfl
  try simp only [Act.put, List.getElem_toArray, List.getElem_cons_succ, List.getElem_cons_zero, List.setIfInBounds_toArray, List.set_cons_zero, List.set_cons_succ]
  refine wpAnyH_take (i := 2) (v := ?_) rfl (by kernel_rfl) (by kernel_rfl) (by kernel_rfl) (fun _ _ _ h => h) (Or.inl ⟨by kernel_rfl, ?_⟩) (by assumption) ?_
  rotate_left 1
  · intro w9 hSw
    try dsimp only at hSw
    go_simp
    try with_reducible rfl
  try simp only [Act.put, List.getElem_toArray, List.getElem_cons_succ, List.getElem_cons_zero, List.setIfInBounds_toArray, List.set_cons_zero, List.set_cons_succ]
  refine wpAnyH_take (i := 3) (v := ?_) rfl (by kernel_rfl) (by kernel_rfl) (by kernel_rfl) (fun _ _ _ h => h) (Or.inl ⟨by kernel_rfl, ?_⟩) (by assumption) ?_
  rotate_left 1
  · intro w9 hSw
    try dsimp only at hSw
    go_simp
    try with_reducible rfl
  try simp only [Act.put, List.getElem_toArray, List.getElem_cons_succ, List.getElem_cons_zero, List.setIfInBounds_toArray, List.set_cons_zero, List.set_cons_succ]
  refine wpAnyH_take (i := 4) (v := ?_) rfl (by kernel_rfl) (by kernel_rfl) (by kernel_rfl) (fun _ _ _ h => h) (Or.inl ⟨by kernel_rfl, ?_⟩) (by assumption) ?_
  rotate_left 1
  · intro w9 hSw
    try dsimp only at hSw
    go_simp
    try with_reducible rfl
  try simp only [Act.put, List.getElem_toArray, List.getElem_cons_succ, List.getElem_cons_zero, List.setIfInBounds_toArray, List.set_cons_zero, List.set_cons_succ]
  refine wpAnyH_take (i := 6) (v := ?_) rfl (by kernel_rfl) (by kernel_rfl) (by kernel_rfl) (fun _ _ _ h => h) (Or.inl ⟨by kernel_rfl, ?_⟩) (by assumption) ?_
  rotate_left 1
  · intro w9 hSw
    try dsimp only at hSw
    go_simp
    try with_reducible rfl
  try simp only [Act.put, List.getElem_toArray, List.getElem_cons_succ, List.getElem_cons_zero, List.setIfInBounds_toArray, List.set_cons_zero, List.set_cons_succ]
  refine wpAnyH_take (i := 7) (v := ?_) rfl (by kernel_rfl) (by kernel_rfl) (by kernel_rfl) (fun _ _ _ h => h) (Or.inl ⟨by kernel_rfl, ?_⟩) (by assumption) ?_
  rotate_left 1
  · intro w9 hSw
    try dsimp only at hSw
    go_simp
    try with_reducible rfl
  try simp only [Act.put, List.getElem_toArray, List.getElem_cons_succ, List.getElem_cons_zero, List.setIfInBounds_toArray, List.set_cons_zero, List.set_cons_succ]
  refine wpAnyH_take (i := 8) (v := ?_) rfl (by kernel_rfl) (by kernel_rfl) (by kernel_rfl) (fun _ _ _ h => h) (Or.inl ⟨by kernel_rfl, ?_⟩) (by assumption) ?_
  rotate_left 1
  · intro w9 hSw
    try dsimp only at hSw
    go_simp
    try with_reducible rfl
  try simp only [Act.put, List.getElem_toArray, List.getElem_cons_succ, List.getElem_cons_zero, List.setIfInBounds_toArray, List.set_cons_zero, List.set_cons_succ]
  refine wpAnyH_take (i := 9) (v := ?_) rfl (by kernel_rfl) (by kernel_rfl) (by kernel_rfl) (fun _ _ _ h => h) (Or.inl ⟨by kernel_rfl, ?_⟩) (by assumption) ?_
  rotate_left 1
  · intro w9 hSw
    try dsimp only at hSw
    go_simp
    try with_reducible rfl
  try simp only [Act.put, List.getElem_toArray, List.getElem_cons_succ, List.getElem_cons_zero, List.setIfInBounds_toArray, List.set_cons_zero, List.set_cons_succ]
  refine wpAnyH_take (i := 10) (v := ?_) rfl (by kernel_rfl) (by kernel_rfl) (by kernel_rfl) (fun _ _ _ h => h) (Or.inl ⟨by kernel_rfl, ?_⟩) (by assumption) ?_
  rotate_left 1
  · intro w9 hSw
    try dsimp only at hSw
    go_simp
    try with_reducible rfl
  try simp only [Act.put, List.getElem_toArray, List.getElem_cons_succ, List.getElem_cons_zero, List.setIfInBounds_toArray, List.set_cons_zero, List.set_cons_succ]
  refine wpAnyH_take (i := 11) (v := ?_) rfl (by kernel_rfl) (by kernel_rfl) (by kernel_rfl) (fun _ _ _ h => h) (Or.inl ⟨by kernel_rfl, ?_⟩) (by assumption) ?_
  rotate_left 1
  · intro w9 hSw
    try dsimp only at hSw
    go_simp
    try with_reducible rfl
  try simp only [Act.put, List.getElem_toArray, List.getElem_cons_succ, List.getElem_cons_zero, List.setIfInBounds_toArray, List.set_cons_zero, List.set_cons_succ]
  refine wpAnyH_take (i := 12) (v := ?_) rfl (by kernel_rfl) (by kernel_rfl) (by kernel_rfl) (fun _ _ _ h => h) (Or.inl ⟨by kernel_rfl, ?_⟩) (by assumption) ?_
  rotate_left 1
  · intro w9 hSw
    try dsimp only at hSw
    go_simp
    try with_reducible rfl
  try simp only [Act.put, List.getElem_toArray, List.getElem_cons_succ, List.getElem_cons_zero, List.setIfInBounds_toArray, List.set_cons_zero, List.set_cons_succ]
  refine wpAnyH_ready (rs := [5]) (by kernel_rfl) (by simp) ?_
  refine AllReadyH.cons rfl (fun K hK => ?_) (AllReadyH.nil)
  go_simp
  go_at_call 98
  refine (gExp_any P Q G H r HH.out.1 HH.out.2 HR.out.1 HR.out.2 HP.out.1 HP.out.2 HQ.out.1 HQ.out.2 _).mono ?_
  rw [P1.out]
  rintro e' Wsf ⟨rfl, hb⟩
  have HB_sf := Lib.hid (bt HB_s.out hb)
  have G_sf := Lib.hid (G_s.out.below hb)
  have V_sf := Lib.hid (V_s.out.below hb)
  have U_sf := Lib.hid (U_s.out.below hb)
  have X_sf := Lib.hid (X_s.out.below hb)
  clear hb
  go_wp2_with fail
  refine hK.out _ _ (show _ from ⟨⟨G_sf.out.1, G_sf.out.2.1, G_sf.out.2.2⟩, V_sf.out.1, V_sf.out.2⟩) (fun hHeld => ?_)
  clear hK K
  try simp only [Act.put, List.getElem_toArray, List.getElem_cons_succ, List.getElem_cons_zero, List.setIfInBounds_toArray, List.set_cons_zero, List.set_cons_succ]
  refine wpAnyH_ready (rs := [13]) (by kernel_rfl) (by simp) ?_
  refine AllReadyH.cons rfl (fun K hK => ?_) (AllReadyH.nil)
  go_simp
  go_at_call 80
  refine (gProd_any P Q G ya la l.length yc lc (hs.take l.length) l HTL.out rfl HL24.out HP.out.1 HP.out.2 HQ.out.1 HQ.out.2 HRT.out HRL.out _ (U_sf.out.ints).1 (X_sf.out.ints).1).mono ?_
  rw [P2.out]
  rintro e' Wsfn ⟨rfl, hb⟩
  have HB_sfn := Lib.hid (bt HB_sf.out hb)
  have G_sfn := Lib.hid (G_sf.out.below hb)
  have V_sfn := Lib.hid (V_sf.out.below hb)
  have U_sfn := Lib.hid (U_sf.out.below hb)
  have X_sfn := Lib.hid (X_sf.out.below hb)
  clear hb
  go_wp2_with fail
  refine hK.out _ _ (show _ from ⟨⟨G_sfn.out.1, G_sfn.out.2.1, G_sfn.out.2.2⟩, V_sfn.out.1, V_sfn.out.2⟩) (fun hHeld => ?_)
  clear hK K
  try simp only [Act.put, List.getElem_toArray, List.getElem_cons_succ, List.getElem_cons_zero, List.setIfInBounds_toArray, List.set_cons_zero, List.set_cons_succ]
  refine wpAnyH_ready (rs := [14]) (by kernel_rfl) (by simp) ?_
  refine AllReadyH.cons rfl (fun K hK => ?_) (AllReadyH.nil)
  go_simp
  have hb := ba Wsfn (.cells #[.int .i64 p1, .int .i64 p2] 3)
  have HB_sfno := Lib.hid (bt HB_sfn.out hb)
  have G_sfno := Lib.hid (G_sfn.out.below hb)
  have V_sfno := Lib.hid (V_sfn.out.below hb)
  have U_sfno := Lib.hid (U_sfn.out.below hb)
  have X_sfno := Lib.hid (X_sfn.out.below hb)
  have L_sfno := Lib.hid (show IsInts (Wsfn.alloc (.cells #[.int .i64 p1, .int .i64 p2] 3)) (some ⟨Wsfn.heap.size, 0, none⟩) [p1, p2] from ints_spot Wsfn _ rfl [p1, p2] 3)
  clear hb
  refine hK.out _ _ (show _ from ⟨⟨G_sfno.out.1, G_sfno.out.2.1, G_sfno.out.2.2⟩, V_sfno.out.1, V_sfno.out.2⟩) (fun hHeld => ?_)
  clear hK K
  try simp only [Act.put, List.getElem_toArray, List.getElem_cons_succ, List.getElem_cons_zero, List.setIfInBounds_toArray, List.set_cons_zero, List.set_cons_succ]
  generalize hW9 : Wsfn.alloc (.cells #[.int .i64 p1, .int .i64 p2] 3) = Wsfno at *
  clear hW9
  refine wpAnyH_ready (rs := [15]) (by kernel_rfl) (by simp) ?_
  refine AllReadyH.cons rfl (fun K hK => ?_) (AllReadyH.nil)
  go_simp
  go_at_call 125
  refine (gMul_any P Q G _ 2 2 [p1, p2] rfl (by decide) HP.out.1 HP.out.2 HPP.out _ L_sfno.out).mono ?_
  rw [EM.out]
  rintro e' Wsfnop ⟨rfl, hb⟩
  have HB_sfnop := Lib.hid (bt HB_sfno.out hb)
  have G_sfnop := Lib.hid (G_sfno.out.below hb)
  have V_sfnop := Lib.hid (V_sfno.out.below hb)
  have U_sfnop := Lib.hid (U_sfno.out.below hb)
  have X_sfnop := Lib.hid (X_sfno.out.below hb)
  clear hb
  go_wp2_with fail
  refine hK.out _ _ (show _ from ⟨⟨G_sfnop.out.1, G_sfnop.out.2.1, G_sfnop.out.2.2⟩, V_sfnop.out.1, V_sfnop.out.2⟩) (fun hHeld => ?_)
  clear hK K
  try simp only [Act.put, List.getElem_toArray, List.getElem_cons_succ, List.getElem_cons_zero, List.setIfInBounds_toArray, List.set_cons_zero, List.set_cons_succ]
  refine wpAnyH_take (i := 16) (v := ?_) rfl (by kernel_rfl) (by kernel_rfl) (by kernel_rfl) (fun _ _ _ h => h) (Or.inl ⟨by kernel_rfl, ?_⟩) (by assumption) ?_
  rotate_left 1
  · intro w9 hSw
    try dsimp only at hSw
    go_simp
    try with_reducible rfl
  try simp only [Act.put, List.getElem_toArray, List.getElem_cons_succ, List.getElem_cons_zero, List.setIfInBounds_toArray, List.set_cons_zero, List.set_cons_succ]
  refine wpAnyH_done (by kernel_rfl) ?_ _
  go_wp2
  go_ret
  exact ⟨rfl, HB_sfnop.out⟩

theorem in_single {Q a : Int} (h : allIn [a] 0 (Q - 1) = true) : 0 ≤ a ∧ a < Q := by
  simp only [allIn, List.all_cons, List.all_nil, Bool.and_true, inB_true] at h
  omega
theorem cv_split (P Q G H : Int) (hs l : List Int) (r : Int) : cvB P Q G H hs l r = (bsB P Q G H hs && (decide (l.length ≤ hs.length) && (allIn l 0 (Q - 1) && allIn [r] 0 (Q - 1)))) := by
  unfold cvB
  have e : allIn (r :: l) 0 (Q - 1) = (allIn l 0 (Q - 1) && allIn [r] 0 (Q - 1)) := by
    simp only [allIn, List.all_cons, List.all_nil, Bool.and_true]
    exact Bool.and_comm _ _
  rw [e]

set_option maxRecDepth 100000 in
set_option maxHeartbeats 3200000 in
theorem sCommitVector_any (P Q G H : Int) {B : Nat} {y : Value} {hs : List Int} (hl : hs.length ≤ 1048576) {C : Nat} {u : Value} {l : List Int} (ll : l.length ≤ 1048576) (r : Int) {w : World} (hy : InI B w y hs) (hu : InI C w u l) :
    Calls Try.prog 28 #[gv P Q G, .agg #[.int .i64 H, y], u, .int .i64 r] w fun e w' => e = .returned (.tuple #[.int .i64 (cvV P Q G H hs l r), .bool (cvB P Q G H hs l r)]) ∧ Below w.heap.size w w' := by
  obtain ⟨ya, yc, rfl⟩ := hy.shape
  obtain ⟨la, lc, rfl⟩ := hu.shape
  have G_0 := Lib.hid ((gr_at w (w.heap.size) (by simp) P Q G 29).below (ba (w.alloc (.cells #[.int .i64 P, .int .i64 Q, .int .i64 G] 29)) (.cells #[.int .i64 H, .slice ya hs.length yc] 26)))
  have V_0 := Lib.hid (d2_at (w.alloc (.cells #[.int .i64 P, .int .i64 Q, .int .i64 G] 29)) (w.heap.size + 1) (by simp) (.int .i64 H) (.slice ya hs.length yc) 26)
  have HB_0 := Lib.hid (show Below w.heap.size w ((w.alloc (.cells #[.int .i64 P, .int .i64 Q, .int .i64 G] 29)).alloc (.cells #[.int .i64 H, .slice ya hs.length yc] 26)) from bt (ba _ _) (ba _ _))
  have Y_0 := Lib.hid (hy.below HB_0.out)
  have X_0 := Lib.hid (hu.below HB_0.out)
  clear hy hu
  cases h0 : bsB P Q G H hs
  · have K0 := Lib.hid (show bsB P Q G H hs = false from h0)
    have E1 := Lib.hid (show cvB P Q G H hs l r = false by simp [cv_split, h0])
    have E2 := Lib.hid (show cvV P Q G H hs l r = 0 by simp [cvV, E1.out])
    rw [E1.out, E2.out]
    clear h0
    obtain ⟨gG0, gG1, gG2⟩ := G_0.out
    obtain ⟨cV0, cV1⟩ := V_0.out
    go_enter Try.func28, Try.ntmps28
    go_wp2_with fail
    refine (l9Good_any P Q G H (by omega) Y_0.out).mono ?_
    rw [K0.out]
    rintro e v1 ⟨rfl, hb⟩
    have HB_1 := Lib.hid (bt HB_0.out hb)
    have G_1 := Lib.hid (G_0.out.below hb)
    have V_1 := Lib.hid (V_0.out.below hb)
    have Y_1 := Lib.hid (Y_0.out.below hb)
    have X_1 := Lib.hid (X_0.out.below hb)
    clear hb gG0 gG1 gG2 cV0 cV1
    obtain ⟨gG0, gG1, gG2⟩ := G_1.out
    obtain ⟨cV0, cV1⟩ := V_1.out
    go_wp2
    go_ret2
    exact ⟨rfl, HB_1.out⟩
  have K0 := Lib.hid (show bsB P Q G H hs = true from h0)
  have hgd := bs_good h0
  have hmo := good_mo hgd
  have hgr := good_rng hgd
  have hH0 := bs_H h0
  have hal := bs_all h0
  have h24 := (bs_true.1 h0).2.2.1
  by_cases h1 : ¬ (l.length ≤ hs.length)
  · have B1 : (hs.length : Int) < (l.length : Int) := by omega
    have E1 := Lib.hid (show cvB P Q G H hs l r = false by simp [cv_split, h0, h1])
    have E2 := Lib.hid (show cvV P Q G H hs l r = 0 by simp [cvV, E1.out])
    rw [E1.out, E2.out]
    clear h0 h1
    obtain ⟨gG0, gG1, gG2⟩ := G_0.out
    obtain ⟨cV0, cV1⟩ := V_0.out
    go_enter Try.func28, Try.ntmps28
    go_wp2_with fail
    refine (l9Good_any P Q G H (by omega) Y_0.out).mono ?_
    rw [K0.out]
    rintro e v1 ⟨rfl, hb⟩
    have HB_1 := Lib.hid (bt HB_0.out hb)
    have G_1 := Lib.hid (G_0.out.below hb)
    have V_1 := Lib.hid (V_0.out.below hb)
    have Y_1 := Lib.hid (Y_0.out.below hb)
    have X_1 := Lib.hid (X_0.out.below hb)
    clear hb gG0 gG1 gG2 cV0 cV1
    obtain ⟨gG0, gG1, gG2⟩ := G_1.out
    obtain ⟨cV0, cV1⟩ := V_1.out
    go_wp2
    go_ret2
    exact ⟨rfl, HB_1.out⟩
  have h1 := Decidable.not_not.1 h1
  have B1 : (l.length : Int) ≤ (hs.length : Int) := by omega
  cases h2 : allIn l 0 (Q - 1)
  · have K2 := Lib.hid (show allIn l 0 (Q - 1) = false from h2)
    have E1 := Lib.hid (show cvB P Q G H hs l r = false by simp [cv_split, h0, h1, h2])
    have E2 := Lib.hid (show cvV P Q G H hs l r = 0 by simp [cvV, E1.out])
    rw [E1.out, E2.out]
    clear h0 h1 h2
    obtain ⟨gG0, gG1, gG2⟩ := G_0.out
    obtain ⟨cV0, cV1⟩ := V_0.out
    go_enter Try.func28, Try.ntmps28
    go_wp2_with fail
    refine (l9Good_any P Q G H (by omega) Y_0.out).mono ?_
    rw [K0.out]
    rintro e v1 ⟨rfl, hb⟩
    have HB_1 := Lib.hid (bt HB_0.out hb)
    have G_1 := Lib.hid (G_0.out.below hb)
    have V_1 := Lib.hid (V_0.out.below hb)
    have Y_1 := Lib.hid (Y_0.out.below hb)
    have X_1 := Lib.hid (X_0.out.below hb)
    clear hb gG0 gG1 gG2 cV0 cV1
    obtain ⟨gG0, gG1, gG2⟩ := G_1.out
    obtain ⟨cV0, cV1⟩ := V_1.out
    go_wp2_with fail
    refine (gExps_any P Q G ⟨by omega, by omega⟩ la l.length lc l rfl (by omega) _ (X_1.out.ints).1).mono ?_
    rw [K2.out]
    rintro e v2 ⟨rfl, hb⟩
    have HB_2 := Lib.hid (bt HB_1.out hb)
    have G_2 := Lib.hid (G_1.out.below hb)
    have V_2 := Lib.hid (V_1.out.below hb)
    have Y_2 := Lib.hid (Y_1.out.below hb)
    have X_2 := Lib.hid (X_1.out.below hb)
    clear hb gG0 gG1 gG2 cV0 cV1
    obtain ⟨gG0, gG1, gG2⟩ := G_2.out
    obtain ⟨cV0, cV1⟩ := V_2.out
    go_wp2
    go_ret2
    exact ⟨rfl, HB_2.out⟩
  have K2 := Lib.hid (show allIn l 0 (Q - 1) = true from h2)
  cases h3 : allIn [r] 0 (Q - 1)
  · have K3 := Lib.hid (show allIn [r] 0 (Q - 1) = false from h3)
    have E1 := Lib.hid (show cvB P Q G H hs l r = false by simp [cv_split, h0, h1, h2, h3])
    have E2 := Lib.hid (show cvV P Q G H hs l r = 0 by simp [cvV, E1.out])
    rw [E1.out, E2.out]
    clear h0 h1 h2 h3
    obtain ⟨gG0, gG1, gG2⟩ := G_0.out
    obtain ⟨cV0, cV1⟩ := V_0.out
    go_enter Try.func28, Try.ntmps28
    go_wp2_with fail
    refine (l9Good_any P Q G H (by omega) Y_0.out).mono ?_
    rw [K0.out]
    rintro e v1 ⟨rfl, hb⟩
    have HB_1 := Lib.hid (bt HB_0.out hb)
    have G_1 := Lib.hid (G_0.out.below hb)
    have V_1 := Lib.hid (V_0.out.below hb)
    have Y_1 := Lib.hid (Y_0.out.below hb)
    have X_1 := Lib.hid (X_0.out.below hb)
    clear hb gG0 gG1 gG2 cV0 cV1
    obtain ⟨gG0, gG1, gG2⟩ := G_1.out
    obtain ⟨cV0, cV1⟩ := V_1.out
    go_wp2_with fail
    refine (gExps_any P Q G ⟨by omega, by omega⟩ la l.length lc l rfl (by omega) _ (X_1.out.ints).1).mono ?_
    rw [K2.out]
    rintro e v2 ⟨rfl, hb⟩
    have HB_2 := Lib.hid (bt HB_1.out hb)
    have G_2 := Lib.hid (G_1.out.below hb)
    have V_2 := Lib.hid (V_1.out.below hb)
    have Y_2 := Lib.hid (Y_1.out.below hb)
    have X_2 := Lib.hid (X_1.out.below hb)
    clear hb gG0 gG1 gG2 cV0 cV1
    obtain ⟨gG0, gG1, gG2⟩ := G_2.out
    obtain ⟨cV0, cV1⟩ := V_2.out
    go_wp2_with fail
    refine (gExps_any P Q G ⟨by omega, by omega⟩ _ 1 1 [r] rfl (by decide) _ (ints_lit v2 [r] 3)).mono ?_
    rw [K3.out]
    rintro e v3 ⟨rfl, hb0⟩
    have hb := bt (ba v2 _) hb0
    clear hb0
    have HB_3 := Lib.hid (bt HB_2.out hb)
    have G_3 := Lib.hid (G_2.out.below hb)
    have V_3 := Lib.hid (V_2.out.below hb)
    have Y_3 := Lib.hid (Y_2.out.below hb)
    have X_3 := Lib.hid (X_2.out.below hb)
    clear hb gG0 gG1 gG2 cV0 cV1
    obtain ⟨gG0, gG1, gG2⟩ := G_3.out
    obtain ⟨cV0, cV1⟩ := V_3.out
    go_wp2
    go_ret2
    exact ⟨rfl, HB_3.out⟩
  have K3 := Lib.hid (show allIn [r] 0 (Q - 1) = true from h3)
  have hr9 := in_single h3
  have E1 := Lib.hid (show cvB P Q G H hs l r = true by simp [cv_split, h0, h1, h2, h3])
  have E2 := Lib.hid (show cvV P Q G H hs l r = cvW P H hs l r by simp [cvV, E1.out])
  rw [E1.out, E2.out]
  have HV := Lib.hid (fun (W : World) (a : InI B W (.slice ya hs.length yc) hs) (b : InI C W (.slice la l.length lc) l) => pVector_any P Q G H r hgd hH0 hr9 h24 hal h1 h2 a b)
  clear h0 h2 h3 hgd hH0 hal
  obtain ⟨gG0, gG1, gG2⟩ := G_0.out
  obtain ⟨cV0, cV1⟩ := V_0.out
  go_enter Try.func28, Try.ntmps28
  go_wp2_with fail
  refine (l9Good_any P Q G H (by omega) Y_0.out).mono ?_
  rw [K0.out]
  rintro e v1 ⟨rfl, hb⟩
  have HB_1 := Lib.hid (bt HB_0.out hb)
  have G_1 := Lib.hid (G_0.out.below hb)
  have V_1 := Lib.hid (V_0.out.below hb)
  have Y_1 := Lib.hid (Y_0.out.below hb)
  have X_1 := Lib.hid (X_0.out.below hb)
  clear hb gG0 gG1 gG2 cV0 cV1
  obtain ⟨gG0, gG1, gG2⟩ := G_1.out
  obtain ⟨cV0, cV1⟩ := V_1.out
  go_wp2_with fail
  refine (gExps_any P Q G ⟨by omega, by omega⟩ la l.length lc l rfl (by omega) _ (X_1.out.ints).1).mono ?_
  rw [K2.out]
  rintro e v2 ⟨rfl, hb⟩
  have HB_2 := Lib.hid (bt HB_1.out hb)
  have G_2 := Lib.hid (G_1.out.below hb)
  have V_2 := Lib.hid (V_1.out.below hb)
  have Y_2 := Lib.hid (Y_1.out.below hb)
  have X_2 := Lib.hid (X_1.out.below hb)
  clear hb gG0 gG1 gG2 cV0 cV1
  obtain ⟨gG0, gG1, gG2⟩ := G_2.out
  obtain ⟨cV0, cV1⟩ := V_2.out
  go_wp2_with fail
  refine (gExps_any P Q G ⟨by omega, by omega⟩ _ 1 1 [r] rfl (by decide) _ (ints_lit v2 [r] 3)).mono ?_
  rw [K3.out]
  rintro e v3 ⟨rfl, hb0⟩
  have hb := bt (ba v2 _) hb0
  clear hb0
  have HB_3 := Lib.hid (bt HB_2.out hb)
  have G_3 := Lib.hid (G_2.out.below hb)
  have V_3 := Lib.hid (V_2.out.below hb)
  have Y_3 := Lib.hid (Y_2.out.below hb)
  have X_3 := Lib.hid (X_2.out.below hb)
  clear hb gG0 gG1 gG2 cV0 cV1
  obtain ⟨gG0, gG1, gG2⟩ := G_3.out
  obtain ⟨cV0, cV1⟩ := V_3.out
  go_wp2_with fail
  refine (HV.out _ Y_3.out X_3.out).mono ?_
  rintro e' v9 ⟨rfl, hb9⟩
  have HB_9 := Lib.hid (bt HB_3.out hb9)
  clear hb9
  go_wp2
  go_ret2
  exact ⟨rfl, HB_9.out⟩

set_option maxRecDepth 100000 in
set_option maxHeartbeats 3200000 in
theorem sCheckVector_any (P Q G H : Int) {B : Nat} {y : Value} {hs : List Int} (hl : hs.length ≤ 1048576) (c : Int) {C : Nat} {u : Value} {l : List Int} (ll : l.length ≤ 1048576) (r : Int) {w : World} (hy : InI B w y hs) (hu : InI C w u l) :
    Calls Try.prog 32 #[gv P Q G, .agg #[.int .i64 H, y], .int .i64 c, u, .int .i64 r] w fun e w' => e = .returned (.tuple #[.bool (coV P Q c (cvB P Q G H hs l r) (cvV P Q G H hs l r)), .bool (coB P Q c (cvB P Q G H hs l r))]) ∧ Below w.heap.size w w' := by
  obtain ⟨ya, yc, rfl⟩ := hy.shape
  obtain ⟨la, lc, rfl⟩ := hu.shape
  have G_0 := Lib.hid ((gr_at w (w.heap.size) (by simp) P Q G 29).below (ba (w.alloc (.cells #[.int .i64 P, .int .i64 Q, .int .i64 G] 29)) (.cells #[.int .i64 H, .slice ya hs.length yc] 26)))
  have V_0 := Lib.hid (d2_at (w.alloc (.cells #[.int .i64 P, .int .i64 Q, .int .i64 G] 29)) (w.heap.size + 1) (by simp) (.int .i64 H) (.slice ya hs.length yc) 26)
  have HB_0 := Lib.hid (show Below w.heap.size w ((w.alloc (.cells #[.int .i64 P, .int .i64 Q, .int .i64 G] 29)).alloc (.cells #[.int .i64 H, .slice ya hs.length yc] 26)) from bt (ba _ _) (ba _ _))
  have Y_0 := Lib.hid (hy.below HB_0.out)
  have X_0 := Lib.hid (hu.below HB_0.out)
  clear hy hu
  have HC := Lib.hid (fun (W : World) (a : InI B W (.slice ya hs.length yc) hs) (b : InI C W (.slice la l.length lc) l) => sCommitVector_any P Q G H hl ll r a b)
  obtain ⟨v, hv⟩ : ∃ v, cvV P Q G H hs l r = v := ⟨_, rfl⟩
  obtain ⟨b, hb0⟩ : ∃ b, cvB P Q G H hs l r = b := ⟨_, rfl⟩
  rw [hv, hb0] at HC ⊢
  have HBB := Lib.hid hb0
  clear hv hb0
  cases h0 : b
  · have K0 := Lib.hid (show b = false from h0)
    have E1 := Lib.hid (show coB P Q c false = false by simp [coB])
    have E2 := Lib.hid (show coV P Q c false v = false by simp [coV, coB])
    rw [E1.out, E2.out]
    clear h0
    obtain ⟨gG0, gG1, gG2⟩ := G_0.out
    obtain ⟨cV0, cV1⟩ := V_0.out
    go_enter Try.func32, Try.ntmps32
    go_wp2_with fail
    refine (HC.out _ Y_0.out X_0.out).mono ?_
    rw [K0.out]
    rintro e v1 ⟨rfl, hb⟩
    have HB_1 := Lib.hid (bt HB_0.out hb)
    have G_1 := Lib.hid (G_0.out.below hb)
    have V_1 := Lib.hid (V_0.out.below hb)
    have Y_1 := Lib.hid (Y_0.out.below hb)
    have X_1 := Lib.hid (X_0.out.below hb)
    clear hb gG0 gG1 gG2 cV0 cV1
    obtain ⟨gG0, gG1, gG2⟩ := G_1.out
    obtain ⟨cV0, cV1⟩ := V_1.out
    go_wp2
    go_ret2
    exact ⟨rfl, HB_1.out⟩
  have K0 := Lib.hid (show b = true from h0)
  have hmo := good_mo (bs_good (cv_bs (HBB.out.trans h0)))
  cases h1 : allEl P Q [c]
  · have K1 := Lib.hid (show allEl P Q [c] = false from h1)
    have E1 := Lib.hid (show coB P Q c true = false by simp [coB, ← el_list1, h1])
    have E2 := Lib.hid (show coV P Q c true v = false by simp [coV, coB, ← el_list1, h1])
    rw [E1.out, E2.out]
    clear h0 h1
    obtain ⟨gG0, gG1, gG2⟩ := G_0.out
    obtain ⟨cV0, cV1⟩ := V_0.out
    go_enter Try.func32, Try.ntmps32
    go_wp2_with fail
    refine (HC.out _ Y_0.out X_0.out).mono ?_
    rw [K0.out]
    rintro e v1 ⟨rfl, hb⟩
    have HB_1 := Lib.hid (bt HB_0.out hb)
    have G_1 := Lib.hid (G_0.out.below hb)
    have V_1 := Lib.hid (V_0.out.below hb)
    have Y_1 := Lib.hid (Y_0.out.below hb)
    have X_1 := Lib.hid (X_0.out.below hb)
    clear hb gG0 gG1 gG2 cV0 cV1
    obtain ⟨gG0, gG1, gG2⟩ := G_1.out
    obtain ⟨cV0, cV1⟩ := V_1.out
    go_wp2_with fail
    refine (gIs_any P Q G hmo _ 1 1 [c] rfl (by decide) _ (ints_lit v1 [c] 3)).mono ?_
    rw [K1.out]
    rintro e v2 ⟨rfl, hb0⟩
    have hb := bt (ba v1 _) hb0
    clear hb0
    have HB_2 := Lib.hid (bt HB_1.out hb)
    have G_2 := Lib.hid (G_1.out.below hb)
    have V_2 := Lib.hid (V_1.out.below hb)
    have Y_2 := Lib.hid (Y_1.out.below hb)
    have X_2 := Lib.hid (X_1.out.below hb)
    clear hb gG0 gG1 gG2 cV0 cV1
    obtain ⟨gG0, gG1, gG2⟩ := G_2.out
    obtain ⟨cV0, cV1⟩ := V_2.out
    go_wp2
    go_ret2
    exact ⟨rfl, HB_2.out⟩
  have K1 := Lib.hid (show allEl P Q [c] = true from h1)
  have E1 := Lib.hid (show coB P Q c true = true by simp [coB, ← el_list1, h1])
  have E2 := Lib.hid (show coV P Q c true v = decide (c = v) by simp [coV, coB, ← el_list1, h1])
  rw [E1.out, E2.out]
  clear h0 h1
  obtain ⟨gG0, gG1, gG2⟩ := G_0.out
  obtain ⟨cV0, cV1⟩ := V_0.out
  go_enter Try.func32, Try.ntmps32
  go_wp2_with fail
  refine (HC.out _ Y_0.out X_0.out).mono ?_
  rw [K0.out]
  rintro e v1 ⟨rfl, hb⟩
  have HB_1 := Lib.hid (bt HB_0.out hb)
  have G_1 := Lib.hid (G_0.out.below hb)
  have V_1 := Lib.hid (V_0.out.below hb)
  have Y_1 := Lib.hid (Y_0.out.below hb)
  have X_1 := Lib.hid (X_0.out.below hb)
  clear hb gG0 gG1 gG2 cV0 cV1
  obtain ⟨gG0, gG1, gG2⟩ := G_1.out
  obtain ⟨cV0, cV1⟩ := V_1.out
  go_wp2_with fail
  refine (gIs_any P Q G hmo _ 1 1 [c] rfl (by decide) _ (ints_lit v1 [c] 3)).mono ?_
  rw [K1.out]
  rintro e v2 ⟨rfl, hb0⟩
  have hb := bt (ba v1 _) hb0
  clear hb0
  have HB_2 := Lib.hid (bt HB_1.out hb)
  have G_2 := Lib.hid (G_1.out.below hb)
  have V_2 := Lib.hid (V_1.out.below hb)
  have Y_2 := Lib.hid (Y_1.out.below hb)
  have X_2 := Lib.hid (X_1.out.below hb)
  clear hb gG0 gG1 gG2 cV0 cV1
  obtain ⟨gG0, gG1, gG2⟩ := G_2.out
  obtain ⟨cV0, cV1⟩ := V_2.out
  go_wp2
  go_ret2
  exact ⟨by simp [Bool.beq_eq_decide_eq, eq_comm], HB_2.out⟩

end Go.Proofs.Ytglfbhkdmkneoaa

