/- Contracts of powers: raise and nPower, PowerMod of both. -/
import Derived.Test.YtmiohdibbpckaaaC1
namespace Go.Proofs.Ytmiohdibbpckaaa
open Go.RowKit

/-- A round of the powers' loop, in the walk's own spelling. -/
theorem pow_facts {r q m : Nat} (hr : r ≤ 2000000000) (hq : q ≤ 2000000000) (hm : 0 < m) :
    (0 ≤ (r : Int) * q ∧ (r : Int) * q ≤ 4000000000000000000) ∧ (0 ≤ (q : Int) * q ∧ (q : Int) * q ≤ 4000000000000000000) ∧
    (r : Int) * q % m = ((r * q % m : Nat) : Int) ∧ (q : Int) * q % m = ((q * q % m : Nat) : Int) ∧ r * q % m < m ∧ q * q % m < m := by
  have h1 := Num.mul_bound hr hq
  have h2 := Num.mul_bound hq hq
  have e1 : (r : Int) * q = ((r * q : Nat) : Int) := by simp
  have e2 : (q : Int) * q = ((q * q : Nat) : Int) := by simp
  rw [e1, e2]
  exact ⟨by omega, by omega, by simp, by simp, Nat.mod_lt _ hm, Nat.mod_lt _ hm⟩


/-- PowerMod's condition and what it answers. -/
def pwrB (a e m : Int) : Bool := resB a m && decide (0 ≤ e) && decide (e ≤ 2000000000)
def pwr (a e m : Int) : Int := if pwrB a e m then Num.pow a e m else 0
theorem pwrB_true {a e m : Int} : pwrB a e m = true ↔ (2 ≤ m ∧ m ≤ 2000000000 ∧ 0 ≤ a ∧ a < m) ∧ 0 ≤ e ∧ e ≤ 2000000000 := by
  unfold pwrB; simp [resB_true]; omega
theorem pwrB_false {a e m : Int} : pwrB a e m = false ↔ resB a m = false ∨ e < 0 ∨ 2000000000 < e := by
  unfold pwrB; cases resB a m <;> simp; omega

end Go.Proofs.Ytmiohdibbpckaaa

