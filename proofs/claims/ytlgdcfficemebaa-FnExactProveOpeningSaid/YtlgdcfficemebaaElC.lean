/- ElGamal: all ciphertexts of a list combined, and a ciphertext combined with itself e times. -/
import Derived.Test.YtlgdcfficemebaaElB
namespace Go.Proofs.Ytlgdcfficemebaa
open Go.RowKit


theorem pwp_ex {r q m : Nat} (hr : r < m) (hq : q < m) (h3 : m ≤ 2000000000) : ∃ x : Nat, (r : Int) * q % m = (x : Int) ∧ x < m ∧ r * q % m = x := by
  obtain ⟨_, _, h1, _, h2, _⟩ := pow_facts (r := r) (q := q) (m := m) (by omega) (by omega) (by omega)
  exact ⟨_, h1, h2, rfl⟩

end Go.Proofs.Ytlgdcfficemebaa

