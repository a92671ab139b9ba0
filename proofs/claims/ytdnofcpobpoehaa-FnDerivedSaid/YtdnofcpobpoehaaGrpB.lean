/- Plain facts on logarithms. No Go in sight. -/
import Derived.Test.YtdnofcpobpoehaaGrp
namespace Go.Proofs.Ytdnofcpobpoehaa.Num

theorem lg_first {p b x k : Nat} (hx : b ^ k % p = x) : ∀ n e, e ≤ k → k < e + n → (∀ i, e ≤ i → i < k → b ^ i % p ≠ x) → lg p b x (b ^ e % p) e n = some k := by
  intro n
  induction n with
  | zero => intro e h1 h2; omega
  | succ n ih =>
    intro e h1 h2 h3
    unfold lg
    have hs : b ^ e % p * b % p = b ^ (e + 1) % p := by rw [Nat.pow_succ]; simp [Nat.mul_mod]
    rw [hs]
    by_cases he : e = k
    · subst he; rw [if_pos hx]
    · rw [if_neg (h3 e (Nat.le_refl _) (by omega))]
      exact ih (e + 1) (by omega) (by omega) (fun i hi => h3 i (by omega))

/-- What a logarithm's search over n exponents gives, told at the place where a search ends. -/
def lgs (p b x n : Nat) : Option Nat := lg p b x (1 % p) 0 n
theorem lgs_hit {p b x k n : Nat} (h : ∀ i, i < k → b ^ i % p ≠ x) (hx : b ^ k % p = x) (hk : k < n) : lgs p b x n = some k := by
  have := lg_first hx n 0 (Nat.zero_le _) (by omega) (fun i _ hi => h i hi)
  rwa [Nat.pow_zero] at this
theorem lgs_none {p b x n : Nat} (h : ∀ i, i < n → b ^ i % p ≠ x) : lgs p b x n = none := by
  have h0 : (1 : Nat) % p = b ^ 0 % p := by rw [Nat.pow_zero]
  unfold lgs
  rw [h0, lg_none_iff]
  intro i hi
  rw [Nat.zero_add]; exact h i hi
theorem lgs_turn {p b x k n : Nat} (hp : 1 < p) (hk : 0 < k) (hb : b ^ k % p = 1) (hkn : k ≤ n) (h : ∀ i, i < k → b ^ i % p ≠ x) : lgs p b x n = none := by
  unfold lgs
  rw [lg_turn hp hk hb hkn]
  exact lgs_none h
theorem lgs_some {p b x n r : Nat} (h : lgs p b x n = some r) : b ^ r % p = x ∧ r < n := by
  have h0 : (1 : Nat) % p = b ^ 0 % p := by rw [Nat.pow_zero]
  unfold lgs at h
  rw [h0] at h
  obtain ⟨h1, _, h3⟩ := lg_some _ _ _ h
  exact ⟨h1, by omega⟩
theorem lgs_lt {p b x n q r : Nat} (hp : 1 < p) (hq : 0 < q) (hb : b ^ q % p = 1) (h : lgs p b x n = some r) : r < q := by
  rcases Nat.lt_or_ge r q with h1 | h1
  · exact h1
  · exfalso
    have h2 := lgs_some h
    by_cases hc : ∃ i, i < q ∧ b ^ i % p = x
    · obtain ⟨i, i1, i2⟩ := hc
      -- the least such place is the answer
      have key : ∀ m, m < q → b ^ m % p = x → lgs p b x n = some r → False := by
        intro m
        induction m using Nat.strongRecOn with
        | _ m ih =>
          intro m1 m2 m3
          by_cases hd : ∃ k, k < m ∧ b ^ k % p = x
          · obtain ⟨k, k1, k2⟩ := hd
            exact ih k k1 (by omega) k2 m3
          · have := lgs_hit (n := n) (fun k hk hk' => hd ⟨k, hk, hk'⟩) m2 (by omega)
            rw [this] at m3
            cases m3
            omega
      exact key i i1 i2 h
    · have := lgs_turn (n := n) hp hq hb (by omega) (fun i hi hi' => hc ⟨i, hi, hi'⟩)
      rw [this] at h
      cases h
theorem pow_step (b k p : Nat) : b ^ k % p * b % p = b ^ (k + 1) % p := by rw [Nat.pow_succ]; simp [Nat.mul_mod]

end Go.Proofs.Ytdnofcpobpoehaa.Num

