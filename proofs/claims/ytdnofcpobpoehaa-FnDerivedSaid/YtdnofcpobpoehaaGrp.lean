/- Plain facts on groups of prime order: powers, inverses, orders, generators, logarithms. No Go in sight. -/
import Derived.Test.YtdnofcpobpoehaaRoot
import Derived.Test.YtdnofcpobpoehaaResid
import Derived.Test.YtdnofcpobpoehaaPrime
namespace Go.Proofs.Ytdnofcpobpoehaa.Num

theorem eg_gcd : ∀ (s r : Nat) (x y : Int), (eg r s x y).1 = Nat.gcd r s := by
  intro s
  induction s using Nat.strongRecOn with
  | _ s ih =>
    intro r x y
    by_cases hs : s = 0
    · subst hs; rw [eg_zero]; simp
    · rw [eg_step _ _ _ _ hs, ih (r % s) (Nat.mod_lt _ (Nat.pos_of_ne_zero hs)) s]
      rw [Nat.gcd_comm r s, Nat.gcd_rec s r, Nat.gcd_comm]

theorem Pr.gcd_lt {p x : Nat} (hp : Pr p) (h1 : 1 ≤ x) (h2 : x < p) : Nat.gcd p x = 1 := by
  rcases hp.2 _ (Nat.gcd_dvd_left p x) with h | h
  · exact h
  · have := Nat.le_of_dvd (by omega) (Nat.gcd_dvd_right p x)
    omega

theorem invOk_prime {p x : Nat} (hp : Pr p) (h1 : 1 ≤ x) (h2 : x < p) : invOk x p = true := by
  unfold invOk
  rw [Int.toNat_natCast, Int.toNat_natCast, eg_gcd, hp.gcd_lt h1 h2]; rfl

/-- Inverses are unique. -/
theorem inv_unique {m x a b : Nat} (ha : a < m) (hb : b < m) (h1 : x * a % m = 1) (h2 : x * b % m = 1) : a = b := by
  have e1 : a * (x * b) % m = a := by
    rw [Nat.mul_mod, h2, Nat.mul_one, Nat.mod_mod, Nat.mod_eq_of_lt ha]
  have e2 : a * (x * b) % m = b := by
    rw [← Nat.mul_assoc, Nat.mul_comm a x, Nat.mul_mod, h1, Nat.one_mul, Nat.mod_mod, Nat.mod_eq_of_lt hb]
  omega

/-- The inverse of an element of order q is its power with q - 1. -/
theorem inv_pow {p q x : Nat} (hp : Pr p) (h1 : 1 ≤ x) (h2 : x < p) (hq : 1 ≤ q) (hx : x ^ q % p = 1) : inv x p = ((x ^ (q - 1) % p : Nat) : Int) := by
  have hp2 := hp.1
  have hk := invOk_prime hp h1 h2
  obtain ⟨i1, i2, i3⟩ := inv_mul (a := x) (m := p) (by omega) (by omega) (by omega) hk
  obtain ⟨a, ha⟩ := Int.eq_ofNat_of_zero_le i2
  rw [ha] at i1 i3 ⊢
  have e1 : x * a % p = 1 := by
    have : ((x * a % p : Nat) : Int) = 1 := by simpa using i1
    omega
  have e2 : x * (x ^ (q - 1) % p) % p = 1 := by
    rw [Nat.mul_mod, Nat.mod_mod, ← Nat.mul_mod, Nat.mul_comm, ← Nat.pow_succ, show (q - 1).succ = q by omega]; exact hx
  exact congrArg _ (inv_unique (by omega) (Nat.mod_lt _ (by omega)) e1 e2)

/-- Powers of an element are elements. -/
theorem pow_el {p q x e : Nat} (hp : 1 < p) (hx : x ^ q % p = 1) : (x ^ e % p) ^ q % p = 1 := by
  rw [← Nat.pow_mod, ← Nat.pow_mul, Nat.mul_comm]
  exact pow_one_of hp hx
theorem el_pos {p q x : Nat} (hp : 1 < p) (hq : 1 ≤ q) (hx : x ^ q % p = 1) : 1 ≤ x % p := by
  rcases Nat.eq_zero_or_pos (x % p) with h | h
  · rw [Nat.pow_mod, h, Nat.zero_pow (by omega)] at hx
    rw [Nat.mod_eq_of_lt (by omega)] at hx
    omega
  · exact h
theorem mul_el {p q x y : Nat} (hp : 1 < p) (hx : x ^ q % p = 1) (hy : y ^ q % p = 1) : (x * y % p) ^ q % p = 1 := by
  rw [← Nat.pow_mod, Nat.mul_pow, Nat.mul_mod, hx, hy]
  exact Nat.mod_eq_of_lt hp

/-- Fermat: a power with (p - 1) / q is an element. -/
theorem proj_el {p q r : Nat} (hp : Pr p) (hd : q ∣ p - 1) (h1 : 1 ≤ r) (h2 : r < p) : (r ^ ((p - 1) / q) % p) ^ q % p = 1 := by
  rw [← Nat.pow_mod, ← Nat.pow_mul, Nat.div_mul_cancel hd]
  exact fermat hp (fun h => by have := Nat.le_of_dvd (by omega) h; omega)

/-- The order of an element other than 1 is q: its first q powers are different. -/
theorem pow_ne {p q g i j : Nat} (hp : Pr p) (hq : Pr q) (hg1 : 2 ≤ g) (hg2 : g < p) (hg : g ^ q % p = 1) (hij : i < j) (hj : j < q) : g ^ i % p ≠ g ^ j % p := by
  intro h
  have hp2 := hp.1
  have hcan : g ^ (j - i) % p = 1 := by
    -- multiply by the inverse of g^i, which is g^(q-i)
    have e1 : g ^ (q - i) * g ^ i % p = 1 := by rw [← Nat.pow_add, show q - i + i = q by omega]; exact hg
    have e2 : g ^ (q - i) * g ^ j % p = 1 := by rw [Nat.mul_mod, ← h, ← Nat.mul_mod]; exact e1
    rw [← Nat.pow_add, show q - i + j = q + (j - i) by omega, Nat.pow_add, Nat.mul_mod, hg, Nat.one_mul, Nat.mod_mod] at e2
    exact e2
  have h1 := gcd_pow (a := g) (n := p) (by omega) (j - i) q hcan hg
  have hgc : Nat.gcd (j - i) q = 1 := by rw [Nat.gcd_comm]; exact hq.gcd_lt (by omega) (by omega)
  rw [hgc, Nat.pow_one, Nat.mod_eq_of_lt hg2] at h1
  omega

/-! ### Generators -/
/-- The first h from which on the power with d is not 1; f rounds at most. -/
def firstGen (p d h : Nat) : Nat → Nat
  | 0 => h
  | f + 1 => if h ^ d % p = 1 then firstGen p d (h + 1) f else h

theorem firstGen_eq {p d h0 : Nat} (hne : h0 ^ d % p ≠ 1) : ∀ f h, h ≤ h0 → h0 < h + f → (∀ k, h ≤ k → k < h0 → k ^ d % p = 1) → firstGen p d h f = h0 := by
  intro f
  induction f with
  | zero => intro h h1 h2; omega
  | succ f ih =>
    intro h h1 h2 hall
    unfold firstGen
    by_cases he : h = h0
    · subst he; rw [if_neg hne]
    · rw [if_pos (hall h (Nat.le_refl _) (by omega))]
      exact ih (h + 1) (by omega) (by omega) (fun k hk => hall k (by omega))

theorem gen_least {p q : Nat} (hp : Pr p) (hq : 2 ≤ q) (hd : q ∣ p - 1) :
    ∃ h0, 2 ≤ h0 ∧ h0 < p ∧ h0 ^ ((p - 1) / q) % p ≠ 1 ∧ ∀ k, 2 ≤ k → k < h0 → k ^ ((p - 1) / q) % p = 1 := by
  have hp2 := hp.1
  have hd0 : 0 < (p - 1) / q := Nat.div_pos (Nat.le_of_dvd (by omega) hd) (by omega)
  have hd1 : (p - 1) / q < p - 1 := Nat.div_lt_self (by omega) (by omega)
  obtain ⟨x, hx0, hx1, hx⟩ := exists_non_root hp hd0 hd1
  have hx2 : 2 ≤ x := by
    rcases Nat.lt_or_ge x 2 with h | h
    · have : x = 1 := by omega
      subst this
      rw [Nat.one_pow, Nat.mod_eq_of_lt (by omega)] at hx
      exact absurd rfl hx
    · exact h
  have key : ∀ n, n < p → 2 ≤ n → n ^ ((p - 1) / q) % p ≠ 1 → ∃ h0, 2 ≤ h0 ∧ h0 < p ∧ h0 ^ ((p - 1) / q) % p ≠ 1 ∧ ∀ k, 2 ≤ k → k < h0 → k ^ ((p - 1) / q) % p = 1 := by
    intro n
    induction n using Nat.strongRecOn with
    | _ n ih =>
      intro h1 h2 h3
      by_cases hc : ∃ k, 2 ≤ k ∧ k < n ∧ k ^ ((p - 1) / q) % p ≠ 1
      · obtain ⟨k, k1, k2, k3⟩ := hc
        exact ih k k2 (by omega) k1 k3
      · exact ⟨n, h2, h1, h3, fun k k1 k2 => Decidable.byContradiction fun k3 => hc ⟨k, k1, k2, k3⟩⟩
  exact key x hx1 hx2 hx

/-- The generator that the search finds. -/
def genH (p q : Nat) : Nat := firstGen p ((p - 1) / q) 2 p
theorem genH_spec {p q : Nat} (hp : Pr p) (hq : 2 ≤ q) (hd : q ∣ p - 1) :
    2 ≤ genH p q ∧ genH p q < p ∧ genH p q ^ ((p - 1) / q) % p ≠ 1 ∧ ∀ k, 2 ≤ k → k < genH p q → k ^ ((p - 1) / q) % p = 1 := by
  obtain ⟨h0, a, b, c, d⟩ := gen_least hp hq hd
  have e : genH p q = h0 := firstGen_eq c p 2 a (by omega) d
  rw [e]; exact ⟨a, b, c, d⟩

/-- The first prime from p on, in steps of q, up to 2000000000; 0 if there is none. -/
def mkP (q p : Nat) : Nat :=
  if h : 0 < q ∧ p ≤ 2000000000 then
    have : 2000000001 - (p + q) < 2000000001 - p := by omega
    if prB p then p else mkP q (p + q)
  else 0
termination_by 2000000001 - p
theorem mkP_end {q p : Nat} (h : 2000000000 < p) : mkP q p = 0 := by
  rw [mkP, dif_neg (by omega)]
theorem mkP_hit {q p : Nat} (hq : 0 < q) (h : p ≤ 2000000000) (hp : prB p = true) : mkP q p = p := by
  rw [mkP, dif_pos ⟨hq, h⟩, if_pos hp]
theorem mkP_go {q p : Nat} (hq : 0 < q) (h : p ≤ 2000000000) (hp : prB p = false) : mkP q p = mkP q (p + q) := by
  rw [mkP, dif_pos ⟨hq, h⟩, hp]; simp
theorem mkP_spec {q : Nat} (hq : 0 < q) : ∀ k p, 2000000001 - p ≤ k → 1 ≤ p → q ∣ p - 1 → mkP q p ≠ 0 → prB (mkP q p) = true ∧ mkP q p ≤ 2000000000 ∧ q ∣ mkP q p - 1 := by
  intro k
  induction k with
  | zero => intro p hk _ _ h; rw [mkP_end (by omega)] at h; exact absurd rfl h
  | succ k ih =>
    intro p hk hp1 hd h
    by_cases hle : p ≤ 2000000000
    · cases hp : prB p
      · rw [mkP_go hq hle hp] at h ⊢
        exact ih (p + q) (by omega) (by omega) (by rw [show p + q - 1 = (p - 1) + q by omega]; exact Nat.dvd_add hd (Nat.dvd_refl q)) h
      · rw [mkP_hit hq hle hp]; exact ⟨hp, hle, hd⟩
    · rw [mkP_end (by omega)] at h; exact absurd rfl h

/-! ### Logarithms -/
/-- The first of n exponents from e on at which the power, y at e, is x. -/
def lg (p b x y e : Nat) : Nat → Option Nat
  | 0 => none
  | n + 1 => if y = x then some e else lg p b x (y * b % p) (e + 1) n

theorem lg_none_iff {p b x : Nat} : ∀ n e, lg p b x (b ^ e % p) e n = none ↔ ∀ i, i < n → b ^ (e + i) % p ≠ x := by
  intro n
  induction n with
  | zero => intro e; simp [lg]
  | succ n ih =>
    intro e
    unfold lg
    have hs : b ^ e % p * b % p = b ^ (e + 1) % p := by rw [Nat.pow_succ]; simp [Nat.mul_mod]
    rw [hs]
    by_cases h : b ^ e % p = x
    · rw [if_pos h]
      constructor
      · intro h; cases h
      · intro h'; exact absurd h (h' 0 (by omega))
    · rw [if_neg h, ih]
      constructor
      · intro h' i hi
        rcases i with _ | i
        · exact h
        · have := h' i (by omega); rwa [show e + 1 + i = e + (i + 1) by omega] at this
      · intro h' i hi
        have := h' (i + 1) (by omega); rwa [show e + (i + 1) = e + 1 + i by omega] at this

theorem lg_append {p b x : Nat} : ∀ n m y e r, lg p b x y e n = some r → lg p b x y e (n + m) = some r := by
  intro n
  induction n with
  | zero => intro m y e r h; cases h
  | succ n ih =>
    intro m y e r h
    rw [show n + 1 + m = (n + m) + 1 by omega]
    unfold lg at h ⊢
    by_cases he : y = x
    · rw [if_pos he] at h ⊢; exact h
    · rw [if_neg he] at h ⊢; exact ih _ _ _ _ h

/-- Past a full turn nothing new is found. -/
theorem lg_turn {p b x k n : Nat} (hp : 1 < p) (hk : 0 < k) (hb : b ^ k % p = 1) (hkn : k ≤ n) : lg p b x (1 % p) 0 n = lg p b x (1 % p) 0 k := by
  cases h : lg p b x (1 % p) 0 k with
  | some r =>
    have := lg_append k (n - k) _ _ _ h
    rwa [show k + (n - k) = n by omega] at this
  | none =>
    have h0 : (1 : Nat) % p = b ^ 0 % p := by rw [Nat.pow_zero]
    rw [h0] at h ⊢
    rw [lg_none_iff] at h ⊢
    intro i _
    have := h (i % k) (Nat.mod_lt _ hk)
    rw [Nat.zero_add] at this ⊢
    rw [← Nat.div_add_mod i k, Nat.pow_add, Nat.mul_mod, pow_one_of hp hb, Nat.one_mul, Nat.mod_mod]
    exact this

theorem lg_some {p b x : Nat} : ∀ n e r, lg p b x (b ^ e % p) e n = some r → b ^ r % p = x ∧ e ≤ r ∧ r < e + n := by
  intro n
  induction n with
  | zero => intro e r h; cases h
  | succ n ih =>
    intro e r h
    unfold lg at h
    have hs : b ^ e % p * b % p = b ^ (e + 1) % p := by rw [Nat.pow_succ]; simp [Nat.mul_mod]
    rw [hs] at h
    by_cases he : b ^ e % p = x
    · rw [if_pos he] at h; cases h; exact ⟨he, Nat.le_refl _, by omega⟩
    · rw [if_neg he] at h
      obtain ⟨h1, h2, h3⟩ := ih _ _ h
      exact ⟨h1, by omega, by omega⟩

end Go.Proofs.Ytdnofcpobpoehaa.Num

