/- Commitments: why the law FnCommitments holds; pMod. -/
import Derived.Test.YtglfbhkdmkneoaaComC
import Derived.Test.YtglfbhkdmkneoaaDrB
namespace Go.Proofs.Ytglfbhkdmkneoaa
open Go.RowKit
set_option linter.unusedVariables false
set_option linter.unusedSimpArgs false

theorem pow_dbl {P Q G x m : Int} (hg : goodB P Q G = true) (hx : elB P Q x = true) (hm : 0 ≤ m) : Cg P (Num.pow x (2 * m % Q) P) (x ^ m.toNat * x ^ m.toNat) := by
  obtain ⟨⟨p1, p2⟩, ⟨q1, q2⟩, _⟩ := goodB_true.1 hg
  have hx0 := (el_rng hx).1
  obtain ⟨a, rfl⟩ := Int.eq_ofNat_of_zero_le hm
  obtain ⟨q, rfl⟩ := Int.eq_ofNat_of_zero_le (show 0 ≤ Q by omega)
  have h1 := cg_pow (P := P) hx0 (show 0 ≤ 2 * (a : Int) % (q : Int) from Int.emod_nonneg _ (by omega)) (by omega)
  have h2 : (2 * (a : Int) % (q : Int)).toNat = 2 * a % q := by
    rw [show 2 * (a : Int) % (q : Int) = ((2 * a % q : Nat) : Int) by simp]
    exact Int.toNat_natCast _
  rw [h2] at h1
  refine h1.trans ?_
  have h3 := el_cg (by omega) (by omega) hx
  rw [Int.toNat_natCast] at h3 ⊢
  have h4 : x ^ a * x ^ a = (x ^ q) ^ (2 * a / q) * x ^ (2 * a % q) := by
    rw [← Int.pow_add, ← Int.pow_mul, ← Int.pow_add]
    congr 1
    have := Nat.div_add_mod (2 * a) q
    rw [this]; omega
  rw [h4]
  have h5 := (Cg.pow h3 (2 * a / q)).mul (Cg.refl P (x ^ (2 * a % q)))
  rw [one_pow', Int.one_mul] at h5
  exact h5.symm
theorem cm_dbl {P Q G H m r : Int} (hg : goodB P Q G = true) (hH : elB P Q H = true) (hm : 0 ≤ m) (hr : 0 ≤ r) : cmW P G H m r * cmW P G H m r % P = cmW P G H (2 * m % Q) (2 * r % Q) := by
  have hP : 2 ≤ P := by have := goodB_true.1 hg; omega
  have hG := good_el hg
  have A := pow_dbl hg hG hm
  have B := pow_dbl hg hH hr
  have a0 := cg_pow (P := P) (el_rng hG).1 hm hP
  have b0 := cg_pow (P := P) (el_rng hH).1 hr hP
  unfold cmW
  have L := (cg_mod P (Num.pow G m P * Num.pow H r P)).trans (a0.mul b0)
  have L2 := (cg_mod P _).trans (L.mul L)
  have R := (cg_mod P (Num.pow G (2 * m % Q) P * Num.pow H (2 * r % Q) P)).trans (A.mul B)
  have e : G ^ m.toNat * H ^ r.toNat * (G ^ m.toNat * H ^ r.toNat) = G ^ m.toNat * G ^ m.toNat * (H ^ r.toNat * H ^ r.toNat) := by ac_rfl
  rw [e] at L2
  exact Cg.lt (L2.trans R.symm) (Int.emod_nonneg _ (by omega)) (Int.emod_lt_of_pos _ (by omega)) (Int.emod_nonneg _ (by omega)) (Int.emod_lt_of_pos _ (by omega))
theorem cmW_el {P Q G H m r : Int} (hg : goodB P Q G = true) (hH : elB P Q H = true) (hm : 0 ≤ m) (hr : 0 ≤ r) : elB P Q (cmW P G H m r) = true := el_mul hg (el_pow hg (good_el hg) hm) (el_pow hg hH hr)
/-- All that the law asks of a commitment that is made. -/
theorem com_facts {P Q G H m r : Int} {hs : List Int} (h : cmB P Q G H hs m r = true) : (coB P Q (cmV P Q G H hs m r) true = true ∧ coV P Q (cmV P Q G H hs m r) true (cmV P Q G H hs m r) = true) ∧ (ccB P Q G [cmV P Q G H hs m r, cmV P Q G H hs m r] [1, 1] = true ∧ ccV P Q G [cmV P Q G H hs m r, cmV P Q G H hs m r] [1, 1] = cmV P Q G H hs (2 * m % Q) (2 * r % Q)) ∧ cmB P Q G H hs (2 * m % Q) (2 * r % Q) = true ∧ (2 ≤ Q ∧ Q ≤ 2000000000) ∧ (0 ≤ m ∧ m < Q) ∧ 0 ≤ r ∧ r < Q := by
  have h0 := h
  unfold cmB at h
  rw [Bool.and_eq_true] at h
  obtain ⟨hb, hi⟩ := h
  obtain ⟨hg, ⟨_, hH⟩, _, _⟩ := bs_true.1 hb
  obtain ⟨hm, hr⟩ := in_pair hi
  obtain ⟨⟨p1, p2⟩, ⟨q1, q2⟩, _⟩ := goodB_true.1 hg
  have e1 : cmV P Q G H hs m r = cmW P G H m r := by simp [cmV, h0]
  have hel := cmW_el hg hH hm.1 hr.1
  have n1 : 0 ≤ 2 * m % Q ∧ 2 * m % Q < Q := ⟨Int.emod_nonneg _ (by omega), Int.emod_lt_of_pos _ (by omega)⟩
  have n2 : 0 ≤ 2 * r % Q ∧ 2 * r % Q < Q := ⟨Int.emod_nonneg _ (by omega), Int.emod_lt_of_pos _ (by omega)⟩
  have hc2 : cmB P Q G H hs (2 * m % Q) (2 * r % Q) = true := by
    unfold cmB
    rw [hb, Bool.true_and]
    simp only [allIn, List.all_cons, List.all_nil, Bool.and_true, Bool.and_eq_true, inB_true]
    omega
  have e2 : cmV P Q G H hs (2 * m % Q) (2 * r % Q) = cmW P G H (2 * m % Q) (2 * r % Q) := by simp [cmV, hc2]
  rw [e1, e2]
  have hx1 : exB Q 1 = true := exB_true.2 (by omega)
  have hpo : popB P Q G [cmW P G H m r, cmW P G H m r] [1, 1] = true := by simp [popB, hg, powsOk, hel, hx1]
  have hcc : ccB P Q G [cmW P G H m r, cmW P G H m r] [1, 1] = true := by simp [ccB, hpo]
  have hp1 : Num.pow (cmW P G H m r) 1 P = cmW P G H m r := by
    rw [pow_int (el_rng hel).1 (by omega) (by omega)]
    simp only [Int.toNat_one]
    rw [show cmW P G H m r ^ 1 = cmW P G H m r by rw [Int.pow_succ, Int.pow_zero, Int.one_mul]]
    exact Int.emod_eq_of_lt (el_rng hel).1 (el_rng hel).2
  refine ⟨⟨by simp [coB, hel], by simp [coV, coB, hel]⟩, ⟨hcc, ?_⟩, hc2, ⟨by omega, by omega⟩, hm, hr⟩
  unfold ccV
  rw [hcc, if_pos rfl]
  unfold popV
  rw [hpo, if_pos rfl, pows_two (by omega), hp1]
  exact cm_dbl hg hH hm.1 hr.1
/-- All that the law asks of an opening to another value. -/
theorem ev_facts {P Q G t m r o : Int} (h : evB P Q G t m r o = true) : (2 ≤ Q ∧ Q ≤ 2000000000) ∧ ((0 ≤ t ∧ t < Q) ∧ (0 ≤ m ∧ m < Q) ∧ (0 ≤ r ∧ r < Q) ∧ 0 ≤ o ∧ o < Q) ∧ (0 ≤ evV P Q G t m r o ∧ evV P Q G t m r o < Q) ∧ (m + t * r) % Q = (o + t * evV P Q G t m r o) % Q := by
  have h0 := h
  unfold evB at h
  rw [Bool.and_eq_true, Bool.and_eq_true, decide_eq_true_eq] at h
  obtain ⟨hg, hi, ht⟩ := h
  obtain ⟨h1, h2, h3, h4⟩ := in_four hi
  obtain ⟨⟨p1, p2⟩, ⟨q1, q2⟩, _⟩ := goodB_true.1 hg
  have e1 : evV P Q G t m r o = evW Q t m r o := by simp [evV, h0]
  rw [e1]
  have hrg : 0 ≤ evW Q t m r o ∧ evW Q t m r o < Q := ⟨Int.emod_nonneg _ (by omega), Int.emod_lt_of_pos _ (by omega)⟩
  refine ⟨⟨by omega, by omega⟩, ⟨h1, h2, h3, h4⟩, hrg, ?_⟩
  have hiv : t * Num.inv t Q % Q = 1 := by
    obtain ⟨p, q, g, rfl, rfl, rfl, hp, hq, _⟩ := good_nat hg
    obtain ⟨a, rfl⟩ := Int.eq_ofNat_of_zero_le h1.1
    exact (Num.inv_mul (by omega) h1.2 (by omega) (by exact_mod_cast Num.invOk_prime hq (by omega) (by omega))).1
  unfold evW
  have c1 : Cg Q (t * ((r + (m - o) % Q * Num.inv t Q % Q) % Q)) (t * (r + (m - o) * Num.inv t Q)) := by
    refine (Cg.refl Q t).mul ((cg_mod Q _).trans ?_)
    unfold Cg
    rw [Int.add_emod, Int.emod_emod_of_dvd _ (Int.dvd_refl _), Int.mul_emod ((m - o) % Q), Int.emod_emod_of_dvd _ (Int.dvd_refl _), ← Int.mul_emod, ← Int.add_emod]
  have c2 : Cg Q (t * Num.inv t Q) 1 := by
    unfold Cg
    rw [hiv, Int.emod_eq_of_lt (by omega) (by omega)]
  have c3 : t * (r + (m - o) * Num.inv t Q) = t * r + (m - o) * (t * Num.inv t Q) := by rw [Int.mul_add]; congr 1; ac_rfl
  rw [c3] at c1
  have c4 : Cg Q ((m - o) * (t * Num.inv t Q)) (m - o) := by
    have := (Cg.refl Q (m - o)).mul c2
    rwa [Int.mul_one] at this
  have add : ∀ {a b c d : Int}, Cg Q a b → Cg Q c d → Cg Q (a + c) (b + d) := fun {a b c d} h k => by
    unfold Cg at h k ⊢
    rw [Int.add_emod, h, k, ← Int.add_emod]
  have c5 := add (Cg.refl Q o) (c1.trans (add (Cg.refl Q (t * r)) c4))
  have c6 : o + (t * r + (m - o)) = m + t * r := by omega
  rw [c6] at c5
  exact c5.symm
theorem pMod_any (a m : Int) (a0 : 0 ≤ a) (a1 : a ≤ 9000000000000000000) (m0 : 1 ≤ m) (m1 : m ≤ 2000000000) (w : World) :
    Calls Try.prog 54 #[.int .i64 a, .int .i64 m] w fun e w' => e = .returned (.int .i64 (a % m)) ∧ w = w' := by
  have hm : m ≠ 0 := by omega
  have h1 : a.tmod m = a % m := Int.tmod_eq_emod_of_nonneg a0
  have hr : 0 ≤ a % m ∧ a % m < m := ⟨Int.emod_nonneg _ hm, Int.emod_lt_of_pos _ (by omega)⟩
  have h2 : IntKind.i64.wrap (a % m + m) = a % m + m := by rw [IntKind.wrap_i64]; omega
  have h3 : (a % m + m).tmod m = a % m := by rw [Int.tmod_eq_emod_of_nonneg (by omega), Int.add_emod_right, Int.emod_emod_of_dvd _ (Int.dvd_refl _)]
  have h4 : IntKind.i64.wrap (a.tmod m) = a % m := by rw [h1, IntKind.wrap_i64]; omega
  have h5 : IntKind.i64.wrap (a % m) = a % m := by rw [IntKind.wrap_i64]; omega
  clear hr a0 a1 m0 m1
  go_enter Try.func54, Try.ntmps54
  go_wp2
  go_ret
  simp [*]
end Go.Proofs.Ytglfbhkdmkneoaa

