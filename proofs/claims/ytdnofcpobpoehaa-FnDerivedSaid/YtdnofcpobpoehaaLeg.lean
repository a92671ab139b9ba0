/- LegendreOf of the program and of the reference. -/
import Derived.Test.YtdnofcpobpoehaaPrime
namespace Go.Proofs.Ytdnofcpobpoehaa
open Go.RowKit

namespace Num
theorem prB_pr {n : Int} (h : prB n = true) : 2 ≤ n ∧ Pr n.toNat := by
  unfold prB at h
  rw [Bool.and_eq_true] at h
  have h2 := of_decide_eq_true h.1
  exact ⟨h2, (tri_prime (by omega)).1 h.2⟩

/-- Euler's criterion, as far as it is wanted. -/
theorem euler {a p : Nat} (hp : Pr p) (h3 : 3 ≤ p) (ha : a < p) : a ^ ((p - 1) / 2) % p = 0 ∨ a ^ ((p - 1) / 2) % p = 1 ∨ a ^ ((p - 1) / 2) % p = p - 1 := by
  rcases Nat.eq_zero_or_pos a with rfl | hpos
  · left
    rw [Nat.zero_pow (by omega)]; simp
  · right
    have hnd : ¬ p ∣ a := fun hd => by have := Nat.le_of_dvd hpos hd; omega
    have hodd : (p - 1) / 2 * 2 = p - 1 := by
      rcases (show p % 2 = 0 ∨ p % 2 = 1 by omega) with h | h
      · rcases hp.2 2 (Nat.dvd_of_mod_eq_zero h) with h1 | h1 <;> omega
      · omega
    have hf := fermat hp hnd
    rw [← hodd, pow_two_mod] at hf
    exact sqrt_one hp (Nat.mod_lt _ hp.pos) hf
end Num

/-- LegendreOf's condition and what it answers. -/
def legB (a p : Int) : Bool := isPr p && !decide (p = 2) && resB a p
def legX (a p : Int) : Int := Num.pow a ((p - 1) / 2) p
def legV (a p : Int) : Int := if legB a p then (if legX a p = p - 1 then -1 else legX a p) else 0

theorem isPr_true {p : Int} : isPr p = true ↔ (0 ≤ p ∧ p ≤ 2000000000) ∧ Num.prB p = true := by
  unfold isPr; rw [Bool.and_eq_true, inB_true]
theorem legB_true {a p : Int} (h : legB a p = true) : 3 ≤ p ∧ p ≤ 2000000000 ∧ 0 ≤ a ∧ a < p ∧ Num.prB p = true := by
  unfold legB at h
  rw [Bool.and_eq_true, Bool.and_eq_true] at h
  obtain ⟨⟨h1, h2⟩, h3⟩ := h
  have h4 := isPr_true.1 h1
  have h5 := resB_true.1 h3
  have h6 : ¬ p = 2 := by simpa using h2
  exact ⟨by omega, by omega, by omega, by omega, h4.2⟩
theorem legX_cases {a p : Int} (h : legB a p = true) : legX a p = 0 ∨ legX a p = 1 ∨ legX a p = p - 1 := by
  obtain ⟨h1, h2, h3, h4, h5⟩ := legB_true h
  obtain ⟨_, h6⟩ := Num.prB_pr h5
  obtain ⟨a, rfl⟩ := Int.eq_ofNat_of_zero_le h3
  obtain ⟨p, rfl⟩ := Int.eq_ofNat_of_zero_le (show 0 ≤ p by omega)
  rw [Int.toNat_natCast] at h6
  have e : ((p : Int) - 1) / 2 = (((p - 1) / 2 : Nat) : Int) := by omega
  have hx : legX a p = ((a ^ ((p - 1) / 2) % p : Nat) : Int) := by unfold legX; rw [e, Num.pow_eq (by omega)]
  rw [hx]
  rcases Num.euler h6 (by omega) (show a < p by omega) with h | h | h <;> rw [h]
  · exact .inl rfl
  · exact .inr (.inl rfl)
  · exact .inr (.inr (by omega))

end Go.Proofs.Ytdnofcpobpoehaa

