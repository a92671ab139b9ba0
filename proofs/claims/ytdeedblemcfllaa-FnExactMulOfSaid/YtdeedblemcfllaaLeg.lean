/- LegendreOf of the program and of the reference. -/
import Derived.Test.YtdeedblemcfllaaPrime
namespace Go.Proofs.Ytdeedblemcfllaa
open Go.RowKit

namespace Num
theorem prB_pr {n : Int} (h : prB n = true) : 2 ≤ n ∧ Pr n.toNat := by
  unfold prB at h
  rw [Bool.and_eq_true] at h
  have h2 := of_decide_eq_true h.1
  exact ⟨h2, (tri_prime (by omega)).1 h.2⟩

/-- Euler's criterion, as far as it is wanted. -/
theorem euler {a p : Nat} (hp : Pr p) (h3 : 3 ≤ p) (ha : a < p) : a ^ ((p - 1) / 2) % p = 0 ∨ a ^ ((p - 1) / 2) % p = 1 ∨ a ^ ((p - 1) / 2) % p = p - 1 := by
  rcases Nat.eq_zero_or_pos a with rfl | hpos
  · left
    rw [Nat.zero_pow (by omega)]; simp
  · right
    have hnd : ¬ p ∣ a := fun hd => by have := Nat.le_of_dvd hpos hd; omega
    have hodd : (p - 1) / 2 * 2 = p - 1 := by
      rcases (show p % 2 = 0 ∨ p % 2 = 1 by omega) with h | h
      · rcases hp.2 2 (Nat.dvd_of_mod_eq_zero h) with h1 | h1 <;> omega
      · omega
    have hf := fermat hp hnd
    rw [← hodd, pow_two_mod] at hf
    exact sqrt_one hp (Nat.mod_lt _ hp.pos) hf
end Num

/-- LegendreOf's condition and what it answers. -/
def legB (a p : Int) : Bool := isPr p && !decide (p = 2) && resB a p
def legX (a p : Int) : Int := Num.pow a ((p - 1) / 2) p
def legV (a p : Int) : Int := if legB a p then (if legX a p = p - 1 then -1 else legX a p) else 0

theorem isPr_true {p : Int} : isPr p = true ↔ (0 ≤ p ∧ p ≤ 2000000000) ∧ Num.prB p = true := by
  unfold isPr; rw [Bool.and_eq_true, inB_true]
theorem legB_true {a p : Int} (h : legB a p = true) : 3 ≤ p ∧ p ≤ 2000000000 ∧ 0 ≤ a ∧ a < p ∧ Num.prB p = true := by
  unfold legB at h
  rw [Bool.and_eq_true, Bool.and_eq_true] at h
  obtain ⟨⟨h1, h2⟩, h3⟩ := h
  have h4 := isPr_true.1 h1
  have h5 := resB_true.1 h3
  have h6 : ¬ p = 2 := by simpa using h2
  exact ⟨by omega, by omega, by omega, by omega, h4.2⟩
theorem legX_cases {a p : Int} (h : legB a p = true) : legX a p = 0 ∨ legX a p = 1 ∨ legX a p = p - 1 := by
  obtain ⟨h1, h2, h3, h4, h5⟩ := legB_true h
  obtain ⟨_, h6⟩ := Num.prB_pr h5
  obtain ⟨a, rfl⟩ := Int.eq_ofNat_of_zero_le h3
  obtain ⟨p, rfl⟩ := Int.eq_ofNat_of_zero_le (show 0 ≤ p by omega)
  rw [Int.toNat_natCast] at h6
  have e : ((p : Int) - 1) / 2 = (((p - 1) / 2 : Nat) : Int) := by omega
  have hx : legX a p = ((a ^ ((p - 1) / 2) % p : Nat) : Int) := by unfold legX; rw [e, Num.pow_eq (by omega)]
  rw [hx]
  rcases Num.euler h6 (by omega) (show a < p by omega) with h | h | h <;> rw [h]
  · exact .inl rfl
  · exact .inr (.inl rfl)
  · exact .inr (.inr (by omega))

theorem legendreOf_any (a p : Int) (w : World) :
    Calls Try.prog 28 #[.int .i64 a, .int .i64 p] w fun e w' => e = .returned (.tuple #[.int .i64 (legV a p), .bool (legB a p)]) ∧ w = w' := by
  cases hp : isPr p
  · have hb : legB a p = false := by simp [legB, hp]
    have hv : legV a p = 0 := by simp [legV, hb]
    rw [hb, hv]
    have HP := Lib.hid hp
    clear hp hb hv
    go_enter Try.func28, Try.ntmps28
    go_wp2_with (go_at_call 71; refine (isPrimeB_any _ _).mono ?_; rw [HP.out]; rintro e w' ⟨rfl, rfl⟩)
    go_ret2
    exact ⟨rfl, rfl⟩
  · have HP := Lib.hid hp
    by_cases h2 : p = 2
    · have hb : legB a p = false := by simp [legB, h2]
      have hv : legV a p = 0 := by simp [legV, hb]
      rw [hb, hv]
      have h2i : (p == 2) = true := by simp [h2]
      clear hp hb hv h2
      go_enter Try.func28, Try.ntmps28
      go_wp2_with (go_at_call 71; refine (isPrimeB_any _ _).mono ?_; rw [HP.out]; rintro e w' ⟨rfl, rfl⟩)
      go_ret2
      exact ⟨rfl, rfl⟩
    · have h2i : (p == 2) = false := by simp [h2]
      cases hr : resB a p
      · have hb : legB a p = false := by simp [legB, hr]
        have hv : legV a p = 0 := by simp [legV, hb]
        rw [hb, hv]
        have HR := Lib.hid hr
        clear hp hb hv h2 hr
        go_enter Try.func28, Try.ntmps28
        go_wp2_with (first | (go_at_call 71; refine (isPrimeB_any _ _).mono ?_; rw [HP.out]; rintro e w' ⟨rfl, rfl⟩) | (go_at_call 75; refine (isResidue_any _ _ _).mono ?_; rintro e w' ⟨rfl, rfl⟩; rw [HR.out]))
        go_ret2
        exact ⟨rfl, rfl⟩
      · have hb : legB a p = true := by simp [legB, hp, h2, hr]
        have hv : legV a p = if legX a p = p - 1 then -1 else legX a p := by simp [legV, hb]
        obtain ⟨b1, b2, b3, b4, _⟩ := legB_true hb
        rw [hb, hv]
        have HR := Lib.hid hr
        clear hp hb hv h2 hr
        have hra := raise_any a ((p - 1) / 2) p b3 (by omega) (by omega) (by omega) (by omega) (by omega)
        have HRA := Lib.hid hra
        clear hra
        by_cases hx : legX a p = p - 1
        · rw [if_pos hx]
          have hxi : (legX a p == p - 1) = true := by simp [hx]
          clear hx
          go_enter Try.func28, Try.ntmps28
          go_wp2_with (first | (go_at_call 71; refine (isPrimeB_any _ _).mono ?_; rw [HP.out]; rintro e w' ⟨rfl, rfl⟩) | (go_at_call 75; refine (isResidue_any _ _ _).mono ?_; rintro e w' ⟨rfl, rfl⟩; rw [HR.out]) | (go_at_call 76; refine (HRA.out _).mono ?_; rw [show Num.pow a ((p - 1) / 2) p = legX a p from rfl]; rintro e w' ⟨rfl, rfl⟩))
          go_ret2
          exact ⟨rfl, rfl⟩
        · rw [if_neg hx]
          have hxi : (legX a p == p - 1) = false := by simp [hx]
          clear hx
          go_enter Try.func28, Try.ntmps28
          go_wp2_with (first | (go_at_call 71; refine (isPrimeB_any _ _).mono ?_; rw [HP.out]; rintro e w' ⟨rfl, rfl⟩) | (go_at_call 75; refine (isResidue_any _ _ _).mono ?_; rintro e w' ⟨rfl, rfl⟩; rw [HR.out]) | (go_at_call 76; refine (HRA.out _).mono ?_; rw [show Num.pow a ((p - 1) / 2) p = legX a p from rfl]; rintro e w' ⟨rfl, rfl⟩))
          go_ret2
          exact ⟨rfl, rfl⟩

theorem sLegendreOf_any (a p : Int) (w : World) :
    Calls Try.prog 54 #[.int .i64 a, .int .i64 p] w fun e w' => e = .returned (.tuple #[.int .i64 (legV a p), .bool (legB a p)]) ∧ w = w' := by
  cases hi : inB p 3 2000000000
  · have hb : legB a p = false := by
      cases hb : legB a p
      · rfl
      · have := legB_true hb; have := inB_false.1 hi; omega
    have hv : legV a p = 0 := by simp [legV, hb]
    rw [hb, hv]
    have HI := Lib.hid hi
    clear hi hb hv
    go_enter Try.func54, Try.ntmps54
    go_wp2_with fail
    refine (l1In_any _ _ _ _).mono ?_; rintro e w' ⟨rfl, rfl⟩; rw [HI.out]
    go_wp2
    go_ret2
    exact ⟨rfl, rfl⟩
  · obtain ⟨h3, h4⟩ := inB_true.1 hi
    have HI := Lib.hid hi
    clear hi
    cases hp : Num.prB p
    · have hb : legB a p = false := by simp [legB, isPr, hp]
      have hv : legV a p = 0 := by simp [legV, hb]
      rw [hb, hv]
      have HP := Lib.hid hp
      clear hp hb hv
      go_enter Try.func54, Try.ntmps54
      go_wp2_with fail
      refine (l1In_any _ _ _ _).mono ?_; rintro e w' ⟨rfl, rfl⟩; rw [HI.out]
      go_wp2_with fail
      refine (nPrime_any _ h4 _).mono ?_; rw [HP.out]; rintro e w' ⟨rfl, rfl⟩
      go_wp2
      go_ret2
      exact ⟨rfl, rfl⟩
    · have HP := Lib.hid hp
      cases hj : inB a 0 (p - 1)
      · have hb : legB a p = false := by
          cases hb : legB a p
          · rfl
          · have := legB_true hb; have := inB_false.1 hj; omega
        have hv : legV a p = 0 := by simp [legV, hb]
        rw [hb, hv]
        have HJ := Lib.hid hj
        clear hp hb hv hj
        go_enter Try.func54, Try.ntmps54
        go_wp2_with fail
        refine (l1In_any _ _ _ _).mono ?_; rintro e w' ⟨rfl, rfl⟩; rw [HI.out]
        go_wp2_with fail
        refine (nPrime_any _ h4 _).mono ?_; rw [HP.out]; rintro e w' ⟨rfl, rfl⟩
        go_wp2_with fail
        refine (l1In_any _ _ _ _).mono ?_; rintro e w' ⟨rfl, rfl⟩; rw [HJ.out]
        go_wp2
        go_ret2
        exact ⟨rfl, rfl⟩
      · obtain ⟨g1, g2⟩ := inB_true.1 hj
        have hb : legB a p = true := by
          have h1 : isPr p = true := isPr_true.2 ⟨by omega, hp⟩
          have h2 : resB a p = true := resB_true.2 (by omega)
          have h5 : ¬ p = 2 := by omega
          simp [legB, h1, h2, h5]
        have hv : legV a p = if legX a p = p - 1 then -1 else legX a p := by simp [legV, hb]
        have hc := legX_cases hb
        rw [hb, hv]
        have HJ := Lib.hid hj
        have HPW := Lib.hid (nPower_any a ((p - 1) / 2) p g1 (by omega) (by omega) (by omega) (by omega) (by omega))
        clear hp hb hv hj
        rcases hc with hc | hc | hc
        · rw [if_neg (by omega), hc]
          have hx0 : (legX a p == 0) = true := by simp [hc]
          clear hc
          go_enter Try.func54, Try.ntmps54
          go_wp2_with fail
          refine (l1In_any _ _ _ _).mono ?_; rintro e w' ⟨rfl, rfl⟩; rw [HI.out]
          go_wp2_with fail
          refine (nPrime_any _ h4 _).mono ?_; rw [HP.out]; rintro e w' ⟨rfl, rfl⟩
          go_wp2_with fail
          refine (l1In_any _ _ _ _).mono ?_; rintro e w' ⟨rfl, rfl⟩; rw [HJ.out]
          go_wp2_with fail
          refine (HPW.out _).mono ?_
          rw [show Num.pow a ((p - 1) / 2) p = legX a p from rfl]; rintro e w' ⟨rfl, rfl⟩
          go_wp2
          go_ret2
          exact ⟨rfl, rfl⟩
        · rw [if_neg (by omega), hc]
          have hx0 : (legX a p == 0) = false := by simp [hc]
          have hx1 : (legX a p == 1) = true := by simp [hc]
          clear hc
          go_enter Try.func54, Try.ntmps54
          go_wp2_with fail
          refine (l1In_any _ _ _ _).mono ?_; rintro e w' ⟨rfl, rfl⟩; rw [HI.out]
          go_wp2_with fail
          refine (nPrime_any _ h4 _).mono ?_; rw [HP.out]; rintro e w' ⟨rfl, rfl⟩
          go_wp2_with fail
          refine (l1In_any _ _ _ _).mono ?_; rintro e w' ⟨rfl, rfl⟩; rw [HJ.out]
          go_wp2_with fail
          refine (HPW.out _).mono ?_
          rw [show Num.pow a ((p - 1) / 2) p = legX a p from rfl]; rintro e w' ⟨rfl, rfl⟩
          go_wp2
          go_ret2
          exact ⟨rfl, rfl⟩
        · rw [if_pos hc]
          have hx0 : (legX a p == 0) = false := by simp [hc]; omega
          have hx1 : (legX a p == 1) = false := by simp [hc]; omega
          clear hc
          go_enter Try.func54, Try.ntmps54
          go_wp2_with fail
          refine (l1In_any _ _ _ _).mono ?_; rintro e w' ⟨rfl, rfl⟩; rw [HI.out]
          go_wp2_with fail
          refine (nPrime_any _ h4 _).mono ?_; rw [HP.out]; rintro e w' ⟨rfl, rfl⟩
          go_wp2_with fail
          refine (l1In_any _ _ _ _).mono ?_; rintro e w' ⟨rfl, rfl⟩; rw [HJ.out]
          go_wp2_with fail
          refine (HPW.out _).mono ?_
          rw [show Num.pow a ((p - 1) / 2) p = legX a p from rfl]; rintro e w' ⟨rfl, rfl⟩
          go_wp2
          go_ret2
          exact ⟨rfl, rfl⟩

end Go.Proofs.Ytdeedblemcfllaa

