/- LogOf of the program and of the reference. -/
import Derived.Test.YtafoenoilcgjdaaG3
import Derived.Test.YtafoenoilcgjdaaGrpB
namespace Go.Proofs.Ytafoenoilcgjdaa
open Go.RowKit

/-- LogOf's condition, its search, and what it answers. -/
def logC (P Q G b x most : Int) : Bool := inB most 0 1000000 && goodB P Q G && elB P Q b && elB P Q x
def logR (P Q G b x most : Int) : Option Nat := if logC P Q G b x most then Num.lgs P.toNat b.toNat x.toNat (most.toNat + 1) else none
def optV : Option Nat → Int
  | some e => e
  | none => 0
def optB : Option Nat → Bool
  | some _ => true
  | none => false
def logV (P Q G b x most : Int) : Int := optV (logR P Q G b x most)
def logB (P Q G b x most : Int) : Bool := optB (logR P Q G b x most)
theorem log_off {P Q G b x most : Int} (h : logC P Q G b x most = false) : logV P Q G b x most = 0 ∧ logB P Q G b x most = false := by
  simp [logV, logB, logR, h, optV, optB]
theorem log_none {P Q G b x most : Int} (hc : logC P Q G b x most = true) (h : Num.lgs P.toNat b.toNat x.toNat (most.toNat + 1) = none) : logV P Q G b x most = 0 ∧ logB P Q G b x most = false := by
  simp [logV, logB, logR, hc, h, optV, optB]
theorem log_some {P Q G b x most : Int} {k : Nat} (hc : logC P Q G b x most = true) (h : Num.lgs P.toNat b.toNat x.toNat (most.toNat + 1) = some k) : logV P Q G b x most = k ∧ logB P Q G b x most = true := by
  simp [logV, logB, logR, hc, h, optV, optB]
theorem logC_true {P Q G b x most : Int} : logC P Q G b x most = true ↔ (0 ≤ most ∧ most ≤ 1000000) ∧ goodB P Q G = true ∧ elB P Q b = true ∧ elB P Q x = true := by
  unfold logC; simp only [Bool.and_eq_true, inB_true, and_assoc]

theorem one_mod {p : Nat} (hp : 1 < p) : 1 % p = 1 := Nat.mod_eq_of_lt hp

set_option maxHeartbeats 1600000 in
theorem gLog_nat (p q g b x most : Nat) (hp : 1 < p) (hp1 : p ≤ 2000000000) (hb : b < p) (hx : x < p) (hm : most ≤ 1000000) (w : World) :
    Calls Try.prog 80 #[gv p q g, .int .i64 b, .int .i64 x, .int .i64 most] w fun e w' => e = .returned (.tuple #[.int .i64 (optV (Num.lgs p b x (most + 1))), .bool (optB (Num.lgs p b x (most + 1)))]) ∧ Below w.heap.size w w' := by
  have hpi : 0 < (p : Int) := by omega
  go_enter Try.func80, Try.ntmps80
  go_wp2
  go_loop [10, 11] (fun Y E => ∃ k : Nat, k ≤ most + 1 ∧ Y = .int .i64 (b ^ k % p : Nat) ∧ E = .int .i64 k ∧ ∀ i, i < k → b ^ i % p ≠ x) (fun _ E => most + 1 - (intOf E).toNat)
  case atStart => exact ⟨0, Nat.zero_le _, by rw [Nat.pow_zero, one_mod hp]; rfl, rfl, fun i hi => by omega⟩
  case round =>
    obtain ⟨k, hk, rfl, rfl, hne⟩ := hrel
    have HNE := Lib.hid hne
    clear hne
    have hy := Nat.mod_lt (b ^ k) (show p > 0 by omega)
    have hst := Num.pow_step b k p
    have HY := Lib.hid (show b ^ k % p = b ^ k % p from rfl)
    generalize hY : b ^ k % p = y at *
    by_cases hkm : k ≤ most
    · have hkmi : (k : Int) ≤ (most : Int) := by omega
      by_cases hyx : y = x
      · have HR := Lib.hid (Num.lgs_hit (n := most + 1) HNE.out (hY.trans hyx) (by omega))
        subst hyx
        clear hst hY
        go_wp2
        go_ret2
        exact ⟨by rw [HR.out]; rfl, ba _ _⟩
      · have hyxi : ((y : Int) == (x : Int)) = false := by simp; omega
        obtain ⟨⟨c1, c2⟩, _, d1, _, d3, _⟩ := pow_facts (r := y) (q := b) (m := p) (by omega) (by omega) (by omega)
        have D1 := Lib.hid d1
        have HS := Lib.hid hst
        have HN2 := Lib.hid (show ∀ i, i < k + 1 → b ^ i % p ≠ x from fun i hi => by
          rcases Nat.lt_or_ge i k with h | h
          · exact HNE.out i h
          · have : i = k := by omega
            subst this; rw [hY]; exact hyx)
        clear d1 hst hY
        by_cases h1 : y * b % p = 1
        · have HR := Lib.hid (Num.lgs_turn (n := most + 1) hp (by omega) (HS.out.symm.trans h1) (by omega) HN2.out)
          have h1i : ((y : Int) * b % p == 1) = true := by rw [D1.out, h1]; rfl
          clear h1
          go_wp2
          go_ret2
          exact ⟨by rw [HR.out]; rfl, ba _ _⟩
        · have h1i : ((y : Int) * b % p == 1) = false := by
            rw [D1.out]
            exact beq_eq_false_iff_ne.2 (fun h => h1 (Int.ofNat.inj h))
          clear h1
          go_wp2
          go_round
          case rel => exact ⟨k + 1, by omega, by rw [D1.out, HS.out], by go_num, HN2.out⟩
          case measure => simp only [intOf]; omega
    · have hkmi : (most : Int) < (k : Int) := by omega
      have HR := Lib.hid (Num.lgs_none (n := most + 1) (fun i hi => HNE.out i (by omega)))
      clear hst hY
      go_wp2
      go_ret2
      exact ⟨by rw [HR.out]; rfl, ba _ _⟩

/-- The group and the elements of a search, as naturals. -/
theorem log_nat {P Q G b x most : Int} (h : logC P Q G b x most = true) : ∃ p q g b' x' m : Nat, P = p ∧ Q = q ∧ G = g ∧ b = b' ∧ x = x' ∧ most = m ∧ 1 < p ∧ p ≤ 2000000000 ∧ 1 ≤ q ∧ q ≤ 2000000000 ∧ b' < p ∧ x' < p ∧ m ≤ 1000000 ∧ b' ^ q % p = 1 := by
  obtain ⟨⟨h1, h2⟩, h3, h4, h5⟩ := logC_true.1 h
  obtain ⟨p, q, g, rfl, rfl, rfl, hp, hq, hd, _, _, _, k1, k2, k3⟩ := good_nat h3
  obtain ⟨b', rfl, b1, b2, b3⟩ := el_nat (by omega) h4
  obtain ⟨x', rfl, x1, x2, x3⟩ := el_nat (by omega) h5
  obtain ⟨m, rfl⟩ := Int.eq_ofNat_of_zero_le h1
  have := hq.1
  exact ⟨p, q, g, b', x', m, rfl, rfl, rfl, rfl, rfl, rfl, by omega, k2, by omega, by omega, b2, x2, by omega, b3⟩

set_option maxHeartbeats 1600000 in
theorem sLogOf_any (P Q G b x most : Int) (w : World) :
    Calls Try.prog 31 #[gv P Q G, .int .i64 b, .int .i64 x, .int .i64 most] w fun e w' => e = .returned (.tuple #[.int .i64 (logV P Q G b x most), .bool (logB P Q G b x most)]) ∧ Below w.heap.size w w' := by
  have H0 := Lib.hid (gr_new w P Q G 27)
  cases hg : goodB P Q G
  · obtain ⟨e1, e2⟩ := log_off (show logC P Q G b x most = false by rw [← Bool.not_eq_true, logC_true, hg]; simp)
    rw [e1, e2]
    have HG := Lib.hid hg
    clear hg e1 e2
    go_enter Try.func31, Try.ntmps31
    go_wp2_with fail
    refine (l2Good_any _ _ _ _).mono ?_
    rw [HG.out]
    rintro e w1 ⟨rfl, hb1⟩
    have HB1 := Lib.hid (bt (ba _ _) hb1)
    clear hb1
    go_wp2
    go_ret2
    exact ⟨rfl, HB1.out⟩
  · have hmo := good_mo hg
    have HG := Lib.hid hg
    cases hx : allEl P Q [b, x]
    · obtain ⟨e1, e2⟩ := log_off (show logC P Q G b x most = false by
        rw [← Bool.not_eq_true, logC_true]
        intro h
        rw [allEl_two, h.2.2.1, h.2.2.2] at hx; cases hx)
      rw [e1, e2]
      have HX := Lib.hid hx
      clear hg hx e1 e2
      go_enter Try.func31, Try.ntmps31
      go_wp2_with fail
      refine (l2Good_any _ _ _ _).mono ?_
      rw [HG.out]
      rintro e w1 ⟨rfl, hb1⟩
      have HB1 := Lib.hid (bt (ba _ _) hb1)
      obtain ⟨c0, c1, c2⟩ := H0.out.below hb1
      clear hb1
      go_wp2_with fail
      refine (gIs_any P Q G hmo _ _ _ [b, x] rfl (by simp) _ (ints_lit w1 [b, x] 3)).mono ?_
      rw [HX.out]
      rintro e w2 ⟨rfl, hb2⟩
      have HB2 := Lib.hid (bt HB1.out (bt (ba _ _) hb2))
      clear hb2
      go_wp2
      go_ret2
      exact ⟨rfl, HB2.out⟩
    · have HX := Lib.hid hx
      cases hi : inB most 0 1000000
      · obtain ⟨e1, e2⟩ := log_off (show logC P Q G b x most = false by unfold logC; rw [hi]; simp)
        rw [e1, e2]
        have HI := Lib.hid hi
        clear hg hx e1 e2 hi
        go_enter Try.func31, Try.ntmps31
        go_wp2_with fail
        refine (l2Good_any _ _ _ _).mono ?_
        rw [HG.out]
        rintro e w1 ⟨rfl, hb1⟩
        have HB1 := Lib.hid (bt (ba _ _) hb1)
        obtain ⟨c0, c1, c2⟩ := H0.out.below hb1
        clear hb1
        go_wp2_with fail
        refine (gIs_any P Q G hmo _ _ _ [b, x] rfl (by simp) _ (ints_lit w1 [b, x] 3)).mono ?_
        rw [HX.out]
        rintro e w2 ⟨rfl, hb2⟩
        have HB2 := Lib.hid (bt HB1.out (bt (ba _ _) hb2))
        clear hb2
        go_wp2_with fail
        refine (l1In_any _ _ _ _).mono ?_; rintro e w' ⟨rfl, rfl⟩; rw [HI.out]
        go_wp2
        go_ret2
        exact ⟨rfl, HB2.out⟩
      · have hc : logC P Q G b x most = true := by
          rw [allEl_two, Bool.and_eq_true] at hx
          exact logC_true.2 ⟨inB_true.1 hi, hg, hx.1, hx.2⟩
        have HI := Lib.hid hi
        obtain ⟨p, q, g, b, x, m, rfl, rfl, rfl, rfl, rfl, rfl, k1, k2, k3, k4, k5, k6, k7, k8⟩ := log_nat hc
        have e1 : logV p q g b x m = optV (Num.lgs p b x (m + 1)) := by simp [logV, logR, hc]
        have e2 : logB p q g b x m = optB (Num.lgs p b x (m + 1)) := by simp [logB, logR, hc]
        rw [e1, e2]
        generalize hR : Num.lgs p b x (m + 1) = R
        have HR := Lib.hid hR
        clear hg hx e1 e2 hi hc hR k8
        go_enter Try.func31, Try.ntmps31
        go_wp2_with fail
        refine (l2Good_any _ _ _ _).mono ?_
        rw [HG.out]
        rintro e w1 ⟨rfl, hb1⟩
        have HB1 := Lib.hid (bt (ba _ _) hb1)
        have H1 := Lib.hid (H0.out.below hb1)
        obtain ⟨c0, c1, c2⟩ := H1.out
        clear hb1
        go_wp2_with fail
        refine (gIs_any p q g hmo _ _ _ [b, x] rfl (by simp) _ (ints_lit w1 [(b : Int), (x : Int)] 3)).mono ?_
        rw [HX.out]
        rintro e w2 ⟨rfl, hb2⟩
        have HB2 := Lib.hid (bt HB1.out (bt (ba _ _) hb2))
        obtain ⟨d0, d1, d2⟩ := H1.out.below (bt (ba _ _) hb2)
        clear hb2 c0 c1 c2
        go_wp2_with fail
        refine (l1In_any _ _ _ _).mono ?_; rintro e w' ⟨rfl, rfl⟩; rw [HI.out]
        go_wp2_with fail
        refine (gLog_nat p q g b x m k1 k2 k5 k6 k7 _).mono ?_
        rw [HR.out]
        rintro e w3 ⟨rfl, hb3⟩
        have HB3 := Lib.hid (bt HB2.out hb3)
        clear hb3
        go_wp2
        go_ret2
        exact ⟨rfl, HB3.out⟩

set_option maxHeartbeats 1600000 in
theorem logOf_any (P Q G b x most : Int) (w : World) :
    Calls Try.prog 30 #[gv P Q G, .int .i64 b, .int .i64 x, .int .i64 most] w fun e w' => e = .returned (.tuple #[.int .i64 (logV P Q G b x most), .bool (logB P Q G b x most)]) ∧ Below w.heap.size w w' := by
  have H0 := Lib.hid (gr_new w P Q G 27)
  by_cases hm0 : most < 0
  · obtain ⟨e1, e2⟩ := log_off (show logC P Q G b x most = false by rw [← Bool.not_eq_true, logC_true]; omega)
    rw [e1, e2]
    clear e1 e2
    go_enter Try.func30, Try.ntmps30
    go_wp2
    go_ret2
    exact ⟨rfl, ba _ _⟩
  by_cases hm1 : 1000000 < most
  · obtain ⟨e1, e2⟩ := log_off (show logC P Q G b x most = false by rw [← Bool.not_eq_true, logC_true]; omega)
    rw [e1, e2]
    clear e1 e2
    go_enter Try.func30, Try.ntmps30
    go_wp2
    go_ret2
    exact ⟨rfl, ba _ _⟩
  cases hg : goodB P Q G
  · obtain ⟨e1, e2⟩ := log_off (show logC P Q G b x most = false by rw [← Bool.not_eq_true, logC_true, hg]; simp)
    rw [e1, e2]
    have HG := Lib.hid hg
    clear hg e1 e2
    go_enter Try.func30, Try.ntmps30
    go_wp2_with fail
    refine (isValidGroup_any _ _ _ _).mono ?_
    rw [HG.out]
    rintro e w1 ⟨rfl, hb1⟩
    have HB1 := Lib.hid (bt (ba _ _) hb1)
    clear hb1
    go_wp2
    go_ret2
    exact ⟨rfl, HB1.out⟩
  have hmo := good_mo hg
  have HG := Lib.hid hg
  cases hb : elB P Q b
  · obtain ⟨e1, e2⟩ := log_off (show logC P Q G b x most = false by rw [← Bool.not_eq_true, logC_true, hb]; simp)
    rw [e1, e2]
    have HX := Lib.hid hb
    clear hg hb e1 e2
    go_enter Try.func30, Try.ntmps30
    go_wp2_with fail
    refine (isValidGroup_any _ _ _ _).mono ?_
    rw [HG.out]
    rintro e w1 ⟨rfl, hb1⟩
    have HB1 := Lib.hid (bt (ba _ _) hb1)
    obtain ⟨c0, c1, c2⟩ := H0.out.below hb1
    clear hb1
    go_wp2_with fail
    refine (hasElement_any _ _ _ _ hmo _).mono ?_
    rw [HX.out]
    rintro e w2 ⟨rfl, hb2⟩
    have HB2 := Lib.hid (bt HB1.out hb2)
    clear hb2
    go_wp2
    go_ret2
    exact ⟨rfl, HB2.out⟩
  have HX := Lib.hid hb
  cases hx : elB P Q x
  · obtain ⟨e1, e2⟩ := log_off (show logC P Q G b x most = false by rw [← Bool.not_eq_true, logC_true, hx]; simp)
    rw [e1, e2]
    have HY := Lib.hid hx
    clear hg hb hx e1 e2
    go_enter Try.func30, Try.ntmps30
    go_wp2_with fail
    refine (isValidGroup_any _ _ _ _).mono ?_
    rw [HG.out]
    rintro e w1 ⟨rfl, hb1⟩
    have HB1 := Lib.hid (bt (ba _ _) hb1)
    have H1 := Lib.hid (H0.out.below hb1)
    obtain ⟨c0, c1, c2⟩ := H1.out
    clear hb1
    go_wp2_with fail
    refine (hasElement_any _ _ _ _ hmo _).mono ?_
    rw [HX.out]
    rintro e w2 ⟨rfl, hb2⟩
    have HB2 := Lib.hid (bt HB1.out hb2)
    obtain ⟨d0, d1, d2⟩ := H1.out.below hb2
    clear hb2 c0 c1 c2
    go_wp2_with fail
    refine (hasElement_any _ _ _ _ hmo _).mono ?_
    rw [HY.out]
    rintro e w3 ⟨rfl, hb3⟩
    have HB3 := Lib.hid (bt HB2.out hb3)
    clear hb3
    go_wp2
    go_ret2
    exact ⟨rfl, HB3.out⟩
  have HY := Lib.hid hx
  have hc : logC P Q G b x most = true := logC_true.2 ⟨by omega, hg, hb, hx⟩
  obtain ⟨p, q, g, b, x, m, rfl, rfl, rfl, rfl, rfl, rfl, k1, k2, k3, k4, k5, k6, k7, k8⟩ := log_nat hc
  have e1 : logV p q g b x m = optV (Num.lgs p b x (m + 1)) := by simp [logV, logR, hc]
  have e2 : logB p q g b x m = optB (Num.lgs p b x (m + 1)) := by simp [logB, logR, hc]
  rw [e1, e2]
  have H8 := Lib.hid k8
  have hpi : 0 < (p : Int) := by omega
  clear hg hb hx e1 e2 hc k8
  have hkk : ∃ N : Nat, N ≤ m + 1 ∧ N ≤ q ∧ ((N = m + 1 ∧ (m : Int) + 1 ≤ q) ∨ (N = q ∧ (q : Int) < (m : Int) + 1)) := by
    rcases Nat.lt_or_ge q (m + 1) with h | h
    · exact ⟨q, by omega, by omega, .inr ⟨rfl, by omega⟩⟩
    · exact ⟨m + 1, by omega, by omega, .inl ⟨rfl, by omega⟩⟩
  obtain ⟨N, hN1, hN2, hN⟩ := hkk
  have HE := Lib.hid (show ∀ (h : ∀ i, i < N → b ^ i % p ≠ x), Num.lgs p b x (m + 1) = none from fun h => by
    rcases hN with ⟨h1, _⟩ | ⟨h1, _⟩
    · subst h1; exact Num.lgs_none h
    · subst h1; exact Num.lgs_turn k1 (by omega) H8.out hN1 h)
  rcases hN with ⟨hNe, hmin⟩ | ⟨hNe, hmin⟩
  · go_enter Try.func30, Try.ntmps30
    go_wp2_with fail
    refine (isValidGroup_any _ _ _ _).mono ?_
    rw [HG.out]
    rintro e w1 ⟨rfl, hb1⟩
    have HB1 := Lib.hid (bt (ba _ _) hb1)
    have H1 := Lib.hid (H0.out.below hb1)
    obtain ⟨c0, c1, c2⟩ := H1.out
    clear hb1
    go_wp2_with fail
    refine (hasElement_any _ _ _ _ hmo _).mono ?_
    rw [HX.out]
    rintro e w2 ⟨rfl, hb2⟩
    have HB2 := Lib.hid (bt HB1.out hb2)
    have H2 := Lib.hid (H1.out.below hb2)
    obtain ⟨d0, d1, d2⟩ := H2.out
    clear hb2 c0 c1 c2
    go_wp2_with fail
    refine (hasElement_any _ _ _ _ hmo _).mono ?_
    rw [HY.out]
    rintro e w3 ⟨rfl, hb3⟩
    have HB3 := Lib.hid (bt HB2.out hb3)
    obtain ⟨c0, c1, c2⟩ := H2.out.below hb3
    clear hb3 d0 d1 d2
    go_wp2
    go_loop [10, 11, 40] (fun Y _ K => ∃ k : Nat, k ≤ N ∧ Y = .int .i64 (b ^ k % p : Nat) ∧ K = .int .i64 k ∧ ∀ i, i < k → b ^ i % p ≠ x) (fun _ _ K => N - (intOf K).toNat)
    case atStart => exact ⟨0, Nat.zero_le _, by rw [Nat.pow_zero, one_mod k1]; rfl, rfl, fun i hi => by omega⟩
    case round =>
      obtain ⟨k, hk, rfl, rfl, hne⟩ := hrel
      have HNE := Lib.hid hne
      clear hne
      have hy := Nat.mod_lt (b ^ k) (show p > 0 by omega)
      have hst := Num.pow_step b k p
      generalize hY : b ^ k % p = y at *
      by_cases hkN : k < N
      · have hkNi : (k : Int) < (m : Int) + 1 := by omega
        by_cases hyx : y = x
        · have HR := Lib.hid (Num.lgs_hit (n := m + 1) HNE.out (hY.trans hyx) (by omega))
          subst hyx
          clear hst hY
          go_wp2
          go_ret2
          exact ⟨by rw [HR.out]; rfl, HB3.out⟩
        · have hyxi : ((y : Int) == (x : Int)) = false := by simp; omega
          obtain ⟨⟨e1, e2⟩, _, f1, _, f3, _⟩ := pow_facts (r := y) (q := b) (m := p) (by omega) (by omega) (by omega)
          have D1 := Lib.hid f1
          have HS := Lib.hid hst
          have HN2 := Lib.hid (show ∀ i, i < k + 1 → b ^ i % p ≠ x from fun i hi => by
            rcases Nat.lt_or_ge i k with h | h
            · exact HNE.out i h
            · have : i = k := by omega
              subst this; rw [hY]; exact hyx)
          clear f1 hst hY
          go_wp2
          go_round
          case rel => exact ⟨k + 1, by omega, by rw [D1.out, HS.out], by go_num, HN2.out⟩
          case measure => simp only [intOf]; omega
      · have hkNi : ¬ (k : Int) < (m : Int) + 1 := by omega
        have HR := Lib.hid (HE.out (fun i hi => HNE.out i (by omega)))
        clear hst hY
        go_wp2
        go_ret2
        exact ⟨by rw [HR.out]; rfl, HB3.out⟩
  · go_enter Try.func30, Try.ntmps30
    go_wp2_with fail
    refine (isValidGroup_any _ _ _ _).mono ?_
    rw [HG.out]
    rintro e w1 ⟨rfl, hb1⟩
    have HB1 := Lib.hid (bt (ba _ _) hb1)
    have H1 := Lib.hid (H0.out.below hb1)
    obtain ⟨c0, c1, c2⟩ := H1.out
    clear hb1
    go_wp2_with fail
    refine (hasElement_any _ _ _ _ hmo _).mono ?_
    rw [HX.out]
    rintro e w2 ⟨rfl, hb2⟩
    have HB2 := Lib.hid (bt HB1.out hb2)
    have H2 := Lib.hid (H1.out.below hb2)
    obtain ⟨d0, d1, d2⟩ := H2.out
    clear hb2 c0 c1 c2
    go_wp2_with fail
    refine (hasElement_any _ _ _ _ hmo _).mono ?_
    rw [HY.out]
    rintro e w3 ⟨rfl, hb3⟩
    have HB3 := Lib.hid (bt HB2.out hb3)
    obtain ⟨c0, c1, c2⟩ := H2.out.below hb3
    clear hb3 d0 d1 d2
    go_wp2
    go_loop [10, 11, 40] (fun Y _ K => ∃ k : Nat, k ≤ N ∧ Y = .int .i64 (b ^ k % p : Nat) ∧ K = .int .i64 k ∧ ∀ i, i < k → b ^ i % p ≠ x) (fun _ _ K => N - (intOf K).toNat)
    case atStart => exact ⟨0, Nat.zero_le _, by rw [Nat.pow_zero, one_mod k1]; rfl, rfl, fun i hi => by omega⟩
    case round =>
      obtain ⟨k, hk, rfl, rfl, hne⟩ := hrel
      have HNE := Lib.hid hne
      clear hne
      have hy := Nat.mod_lt (b ^ k) (show p > 0 by omega)
      have hst := Num.pow_step b k p
      generalize hY : b ^ k % p = y at *
      by_cases hkN : k < N
      · have hkNi : (k : Int) < (q : Int) := by omega
        by_cases hyx : y = x
        · have HR := Lib.hid (Num.lgs_hit (n := m + 1) HNE.out (hY.trans hyx) (by omega))
          subst hyx
          clear hst hY
          go_wp2
          go_ret2
          exact ⟨by rw [HR.out]; rfl, HB3.out⟩
        · have hyxi : ((y : Int) == (x : Int)) = false := by simp; omega
          obtain ⟨⟨e1, e2⟩, _, f1, _, f3, _⟩ := pow_facts (r := y) (q := b) (m := p) (by omega) (by omega) (by omega)
          have D1 := Lib.hid f1
          have HS := Lib.hid hst
          have HN2 := Lib.hid (show ∀ i, i < k + 1 → b ^ i % p ≠ x from fun i hi => by
            rcases Nat.lt_or_ge i k with h | h
            · exact HNE.out i h
            · have : i = k := by omega
              subst this; rw [hY]; exact hyx)
          clear f1 hst hY
          go_wp2
          go_round
          case rel => exact ⟨k + 1, by omega, by rw [D1.out, HS.out], by go_num, HN2.out⟩
          case measure => simp only [intOf]; omega
      · have hkNi : ¬ (k : Int) < (q : Int) := by omega
        have HR := Lib.hid (HE.out (fun i hi => HNE.out i (by omega)))
        clear hst hY
        go_wp2
        go_ret2
        exact ⟨by rw [HR.out]; rfl, HB3.out⟩

end Go.Proofs.Ytafoenoilcgjdaa

