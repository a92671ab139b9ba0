/- Primes, Fermat, the strong test: no Go in sight. -/
namespace Go.Proofs.Ytdnofcpobpoehaa.Num

/-! ### Primes -/
def Pr (p : Nat) : Prop := 2 ≤ p ∧ ∀ d, d ∣ p → d = 1 ∨ d = p

theorem Pr.pos {p : Nat} (h : Pr p) : 0 < p := by have := h.1; omega

theorem least_factor (n : Nat) (h : 2 ≤ n) : ∃ p, Pr p ∧ p ∣ n ∧ ∀ q, 2 ≤ q → q ∣ n → p ≤ q := by
  have key : ∀ k, (∃ q, 2 ≤ q ∧ q ∣ n ∧ q ≤ k) → ∃ p, 2 ≤ p ∧ p ∣ n ∧ ∀ q, 2 ≤ q → q ∣ n → p ≤ q := by
    intro k
    induction k with
    | zero => rintro ⟨q, h1, _, h3⟩; omega
    | succ k ih =>
      rintro ⟨q, h1, h2, h3⟩
      by_cases hk : ∃ q, 2 ≤ q ∧ q ∣ n ∧ q ≤ k
      · exact ih hk
      · refine ⟨q, h1, h2, fun r hr hrn => ?_⟩
        rcases Nat.lt_or_ge r q with hlt | hge
        · exact absurd ⟨r, hr, hrn, by omega⟩ hk
        · exact hge
  obtain ⟨p, h1, h2, h3⟩ := key n ⟨n, h, Nat.dvd_refl n, Nat.le_refl n⟩
  refine ⟨p, ⟨h1, fun d hd => ?_⟩, h2, h3⟩
  have hd0 : 0 < d := Nat.pos_of_dvd_of_pos hd (by omega)
  by_cases hd1 : d = 1
  · exact .inl hd1
  · have := h3 d (by omega) (Nat.dvd_trans hd h2)
    have := Nat.le_of_dvd (by omega) hd
    exact .inr (by omega)

theorem Pr.dvd_mul {p a b : Nat} (h : Pr p) (hd : p ∣ a * b) : p ∣ a ∨ p ∣ b := by
  rcases h.2 _ (Nat.gcd_dvd_left p a) with h1 | h1
  · exact .inr (Nat.Coprime.dvd_of_dvd_mul_left h1 hd)
  · exact .inl (by have := Nat.gcd_dvd_right p a; rwa [h1] at this)

theorem Pr.dvd_pow {p a k : Nat} (h : Pr p) (hd : p ∣ a ^ k) : p ∣ a := by
  induction k with
  | zero => rw [Nat.pow_zero] at hd; have := Nat.le_of_dvd (by omega) hd; have := h.1; omega
  | succ k ih =>
    rw [Nat.pow_succ] at hd
    rcases h.dvd_mul hd with h' | h'
    · exact ih h'
    · exact h'

/-! ### Products over permutations of 1 .. m -/
def prod : List Nat → Nat
  | [] => 1
  | x :: l => x * prod l
def fact : Nat → Nat
  | 0 => 1
  | n + 1 => (n + 1) * fact n

theorem prod_erase {l : List Nat} {x : Nat} (h : x ∈ l) : prod l = x * prod (l.erase x) := by
  induction l with
  | nil => cases h
  | cons y l ih =>
    by_cases hxy : y = x
    · subst hxy; simp [prod]
    · have hx : x ∈ l := by cases h with
        | head => exact absurd rfl hxy
        | tail _ h => exact h
      rw [List.erase_cons_tail (by simpa using hxy)]
      simp only [prod]; rw [ih hx, Nat.mul_left_comm]

theorem length_le_of_bound (m : Nat) : ∀ l : List Nat, l.Nodup → (∀ x ∈ l, 1 ≤ x ∧ x ≤ m) → l.length ≤ m := by
  induction m with
  | zero =>
    intro l _ hb
    cases l with
    | nil => simp
    | cons x l => have := hb x (by simp); omega
  | succ m ih =>
    intro l hn hb
    by_cases hm : m + 1 ∈ l
    · have h1 := ih (l.erase (m + 1)) (hn.erase _) (fun x hx => by
        have hx' := List.mem_of_mem_erase hx
        have hne : x ≠ m + 1 := by rintro rfl; exact (hn.not_mem_erase) hx
        have := hb x hx'; omega)
      rw [List.length_erase_of_mem hm] at h1; omega
    · have := ih l hn (fun x hx => by
        have hne : x ≠ m + 1 := by rintro rfl; exact hm hx
        have := hb x hx; omega)
      omega

theorem prod_all (m : Nat) : ∀ l : List Nat, l.Nodup → (∀ x ∈ l, 1 ≤ x ∧ x ≤ m) → l.length = m → prod l = fact m := by
  induction m with
  | zero => intro l _ _ h; rw [List.length_eq_zero_iff.1 h]; rfl
  | succ m ih =>
    intro l hn hb hl
    have hm : m + 1 ∈ l := by
      by_cases hm : m + 1 ∈ l
      · exact hm
      · have := length_le_of_bound m l hn (fun x hx => by
          have hne : x ≠ m + 1 := by rintro rfl; exact hm hx
          have := hb x hx; omega)
        omega
    rw [prod_erase hm, ih (l.erase (m + 1)) (hn.erase _) (fun x hx => by
        have hx' := List.mem_of_mem_erase hx
        have hne : x ≠ m + 1 := by rintro rfl; exact (hn.not_mem_erase) hx
        have := hb x hx'; omega) (by rw [List.length_erase_of_mem hm]; omega)]
    rfl

theorem prod_append (l l' : List Nat) : prod (l ++ l') = prod l * prod l' := by
  induction l with
  | nil => simp [prod]
  | cons x l ih => simp only [List.cons_append, prod, ih, Nat.mul_assoc]

theorem prod_map_mod (a p k : Nat) : prod ((List.range' 1 k).map fun i => a * i % p) % p = a ^ k * fact k % p := by
  induction k with
  | zero => simp [prod, fact]
  | succ k ih =>
    rw [List.range'_1_concat, List.map_append, prod_append]
    simp only [List.map_cons, List.map_nil, prod, Nat.mul_one, fact]
    rw [Nat.mul_mod, ih, Nat.mod_mod, ← Nat.mul_mod, Nat.pow_succ, Nat.add_comm 1 k]
    congr 1
    rw [Nat.mul_assoc, Nat.mul_assoc, Nat.mul_left_comm (fact k), Nat.mul_comm (fact k)]

theorem Pr.not_dvd_fact {p : Nat} (h : Pr p) (k : Nat) (hk : k < p) : ¬ p ∣ fact k := by
  induction k with
  | zero => intro hd; have h1 : p ≤ 1 := Nat.le_of_dvd (by decide) hd; have := h.1; omega
  | succ k ih =>
    intro hd
    rcases h.dvd_mul hd with h' | h'
    · have := Nat.le_of_dvd (by omega) h'; omega
    · exact ih (by omega) h'

theorem dvd_sub_of_mod_eq {a b p : Nat} (_hle : b ≤ a) (h : a % p = b % p) : p ∣ a - b := by
  exact Nat.dvd_of_mod_eq_zero (Nat.sub_mod_eq_zero_of_mod_eq h)

theorem fermat {p a : Nat} (h : Pr p) (ha : ¬ p ∣ a) : a ^ (p - 1) % p = 1 := by
  have h2 := h.1
  have hl := prod_all (p - 1) ((List.range' 1 (p - 1)).map fun i => a * i % p) ?_ ?_ (by simp)
  · have hm := prod_map_mod a p (p - 1)
    rw [hl] at hm
    have hle : fact (p - 1) ≤ a ^ (p - 1) * fact (p - 1) := by
      have : 0 < a ^ (p - 1) := Nat.pow_pos (by rcases Nat.eq_zero_or_pos a with rfl | h'; exact absurd (Nat.dvd_zero p) ha; exact h')
      exact Nat.le_mul_of_pos_left _ this
    have hd := dvd_sub_of_mod_eq hle hm.symm
    have e : a ^ (p - 1) * fact (p - 1) - fact (p - 1) = (a ^ (p - 1) - 1) * fact (p - 1) := by rw [Nat.sub_mul, Nat.one_mul]
    rw [e] at hd
    rcases h.dvd_mul hd with h' | h'
    · have hpos : 1 ≤ a ^ (p - 1) := Nat.pow_pos (by rcases Nat.eq_zero_or_pos a with rfl | h'; exact absurd (Nat.dvd_zero p) ha; exact h')
      have : a ^ (p - 1) = (a ^ (p - 1) - 1) + 1 := by omega
      rw [this, Nat.add_mod, Nat.mod_eq_zero_of_dvd h', Nat.zero_add, Nat.mod_mod]
      exact Nat.mod_eq_of_lt (by omega)
    · exact absurd h' (h.not_dvd_fact _ (by omega))
  · rw [List.Nodup, List.pairwise_map]
    refine (List.pairwise_lt_range' (s := 1) (n := p - 1)).imp_of_mem ?_
    intro i j hi hj hij heq
    have hi' := List.mem_range'_1.1 hi
    have hj' := List.mem_range'_1.1 hj
    have hd := dvd_sub_of_mod_eq (Nat.mul_le_mul_left a (Nat.le_of_lt hij)) heq.symm
    rw [← Nat.mul_sub] at hd
    rcases h.dvd_mul hd with h' | h'
    · exact ha h'
    · have := Nat.le_of_dvd (by omega) h'; omega
  · intro x hx
    obtain ⟨i, hi, rfl⟩ := List.mem_map.1 hx
    have hi' := List.mem_range'_1.1 hi
    have hlt := Nat.mod_lt (a * i) h.pos
    refine ⟨?_, by omega⟩
    rcases Nat.eq_zero_or_pos (a * i % p) with h0 | h0
    · rcases h.dvd_mul (Nat.dvd_of_mod_eq_zero h0) with h' | h'
      · exact absurd h' ha
      · have := Nat.le_of_dvd (by omega) h'; omega
    · exact h0

theorem sqrt_one {p x : Nat} (h : Pr p) (hx : x < p) (h1 : x * x % p = 1) : x = 1 ∨ x = p - 1 := by
  have hp := h.1
  rcases Nat.eq_zero_or_pos x with rfl | hpos
  · simp at h1
  · have hle : 1 ≤ x * x := Nat.mul_pos hpos hpos
    have hd : p ∣ x * x - 1 := dvd_sub_of_mod_eq hle (by rw [h1, Nat.mod_eq_of_lt (by omega)])
    have e : x * x - 1 = (x - 1) * (x + 1) := by
      obtain ⟨y, rfl⟩ : ∃ y, x = y + 1 := ⟨x - 1, by omega⟩
      simp only [Nat.add_sub_cancel, Nat.add_mul, Nat.mul_add, Nat.one_mul, Nat.mul_one]; omega
    rw [e] at hd
    rcases h.dvd_mul hd with h' | h'
    · rcases Nat.eq_zero_or_pos (x - 1) with h0 | h0
      · exact .inl (by omega)
      · have := Nat.le_of_dvd h0 h'; omega
    · have := Nat.le_of_dvd (by omega) h'; exact .inr (by omega)

/-! ### Powers -/
theorem pow_mul_mod (a i j n : Nat) : a ^ (i * j) % n = (a ^ i % n) ^ j % n := by
  rw [Nat.pow_mul, Nat.pow_mod]
theorem pow_two_mod (a i n : Nat) : a ^ (i * 2) % n = (a ^ i % n) * (a ^ i % n) % n := by
  rw [pow_mul_mod, Nat.pow_succ, Nat.pow_one]
theorem pow_one_of {a i j n : Nat} (hn : 1 < n) (h : a ^ i % n = 1) : a ^ (i * j) % n = 1 := by
  rw [pow_mul_mod, h, Nat.one_pow, Nat.mod_eq_of_lt hn]

theorem gcd_pow {a n : Nat} (hn : 1 < n) (i j : Nat) (hi : a ^ i % n = 1) (hj : a ^ j % n = 1) : a ^ (Nat.gcd i j) % n = 1 := by
  induction i, j using Nat.gcd.induction with
  | H0 j => simpa using hj
  | H1 i j hpos ih =>
    rw [Nat.gcd_rec]
    refine ih ?_ hi
    have e : j = i * (j / i) + j % i := (Nat.div_add_mod j i).symm
    have h := hj
    rw [e, Nat.pow_add, Nat.mul_mod, pow_one_of hn hi, Nat.one_mul, Nat.mod_mod] at h
    exact h

/-! ### The strong test -/
/-- The odd part. -/
def oddp (e : Nat) : Nat :=
  if h : 0 < e ∧ e % 2 = 0 then
    have : e / 2 < e := Nat.div_lt_self h.1 (by decide)
    oddp (e / 2)
  else e
termination_by e

theorem oddp_spec (e : Nat) (h : 0 < e) : ∃ s, e = oddp e * 2 ^ s ∧ oddp e % 2 = 1 := by
  by_cases hc : e % 2 = 0
  · have : e / 2 < e := Nat.div_lt_self h (by decide)
    obtain ⟨s, h1, h2⟩ := oddp_spec (e / 2) (by omega)
    have e1 : oddp e = oddp (e / 2) := by rw [oddp]; simp [h, hc]
    refine ⟨s + 1, ?_, by rw [e1]; exact h2⟩
    rw [e1, Nat.pow_succ, ← Nat.mul_assoc, ← h1]; omega
  · have e1 : oddp e = e := by rw [oddp]; simp [hc]
    exact ⟨0, by rw [e1]; simp, by rw [e1]; omega⟩
termination_by e

/-- The loop of the squares. -/
def sq (n e x : Nat) : Bool :=
  if _h : 0 < e ∧ e < n - 1 then
    if x = n - 1 then true else sq n (e * 2) (x * x % n)
  else false
termination_by n - 1 - e

theorem sq_iff (n b k : Nat) : ∀ e x, 0 < e → n - 1 = e * 2 ^ k → x = b ^ e % n → (sq n e x = true ↔ ∃ i, i < k ∧ b ^ (e * 2 ^ i) % n = n - 1) := by
  induction k with
  | zero =>
    intro e x he hn hx
    rw [sq]; simp at hn; simp; omega
  | succ k ih =>
    intro e x he hn hx
    have hlt : e < n - 1 := by
      have : 1 ≤ 2 ^ k := Nat.pow_pos (by decide)
      have : e * 1 ≤ e * 2 ^ k := Nat.mul_le_mul_left _ this
      rw [Nat.pow_succ, ← Nat.mul_assoc] at hn; omega
    rw [sq]; simp only [he, hlt, and_self, dite_true]
    have ih' := ih (e * 2) (x * x % n) (by omega) (by rw [hn, Nat.pow_succ, Nat.mul_assoc, Nat.mul_comm 2]) (by rw [hx, ← pow_two_mod])
    by_cases hx1 : x = n - 1
    · simp only [hx1, if_true, true_iff]
      exact ⟨0, by omega, by rw [Nat.pow_zero, Nat.mul_one, ← hx]; exact hx1⟩
    · simp only [hx1, if_false]
      rw [ih']
      constructor
      · rintro ⟨i, hi, h⟩
        exact ⟨i + 1, by omega, by rw [Nat.pow_succ, Nat.mul_comm (2 ^ i), ← Nat.mul_assoc]; exact h⟩
      · rintro ⟨i, hi, h⟩
        cases i with
        | zero => rw [Nat.pow_zero, Nat.mul_one, ← hx] at h; exact absurd h hx1
        | succ i => exact ⟨i, by omega, by rw [Nat.pow_succ, Nat.mul_comm (2 ^ i), ← Nat.mul_assoc] at h; exact h⟩

/-- The test of n for one base, as the program makes it (its power is reckoned by 'b ^ e % n' here). -/
def mrB (n b : Nat) : Bool :=
  if b ^ oddp (n - 1) % n = 1 then true else sq n (oddp (n - 1)) (b ^ oddp (n - 1) % n)

theorem mrB_iff {n b s : Nat} (hn : 2 < n) (hs : n - 1 = oddp (n - 1) * 2 ^ s) : mrB n b = true ↔ (b ^ oddp (n - 1) % n = 1 ∨ ∃ i, i < s ∧ b ^ (oddp (n - 1) * 2 ^ i) % n = n - 1) := by
  have hpos : 0 < oddp (n - 1) := by
    rcases Nat.eq_zero_or_pos (oddp (n - 1)) with h0 | h0
    · rw [h0, Nat.zero_mul] at hs; omega
    · exact h0
  have h := sq_iff n b s (oddp (n - 1)) _ hpos hs rfl
  unfold mrB
  by_cases h1 : b ^ oddp (n - 1) % n = 1
  · simp [h1]
  · simp only [h1, if_false, false_or]; exact h

/-- A prime passes. -/
theorem prime_passes {n b : Nat} (h : Pr n) (h2 : 2 < n) (hb : ¬ n ∣ b) : mrB n b = true := by
  obtain ⟨s, hs, _⟩ := oddp_spec (n - 1) (by omega)
  rw [mrB_iff h2 hs]
  have key : ∀ s, b ^ (oddp (n - 1) * 2 ^ s) % n = 1 → (b ^ oddp (n - 1) % n = 1 ∨ ∃ i, i < s ∧ b ^ (oddp (n - 1) * 2 ^ i) % n = n - 1) := by
    intro s
    induction s with
    | zero => intro h; exact .inl (by simpa using h)
    | succ s ih =>
      intro h1
      rw [Nat.pow_succ, ← Nat.mul_assoc, pow_two_mod] at h1
      rcases sqrt_one h (Nat.mod_lt _ h.pos) h1 with h' | h'
      · rcases ih h' with h'' | ⟨i, hi, h''⟩
        · exact .inl h''
        · exact .inr ⟨i, by omega, h''⟩
      · exact .inr ⟨s, by omega, h'⟩
  exact key s (by rw [← hs]; exact fermat h hb)

/-- What passes is a pseudoprime of Fermat's. -/
theorem passes_fermat {n b : Nat} (h2 : 2 < n) (h : mrB n b = true) : b ^ (n - 1) % n = 1 := by
  obtain ⟨s, hs, _⟩ := oddp_spec (n - 1) (by omega)
  rw [mrB_iff h2 hs] at h
  rcases h with h | ⟨i, hi, h⟩
  · rw [hs]; exact pow_one_of (by omega) h
  · have hsq : b ^ (oddp (n - 1) * 2 ^ (i + 1)) % n = 1 := by
      rw [Nat.pow_succ, ← Nat.mul_assoc, pow_two_mod, h]
      obtain ⟨m, rfl⟩ : ∃ m, n = m + 2 := ⟨n - 2, by omega⟩
      have e : (m + 2 - 1) * (m + 2 - 1) = 1 + (m + 2) * m := by
        rw [show m + 2 - 1 = m + 1 by omega, Nat.add_mul, Nat.mul_add, Nat.add_mul]; omega
      rw [e, Nat.add_mul_mod_self_left, Nat.mod_eq_of_lt (by omega)]
    rw [hs, show s = i + 1 + (s - (i + 1)) by omega, Nat.pow_add, ← Nat.mul_assoc]
    exact pow_one_of (by omega) hsq

/-- A square root of 1 other than 1 and -1, among the powers of b: n does not pass. -/
theorem fails_of_root {n b e j : Nat} (h2 : 2 < n) (he : n - 1 = e * 2 * 2 ^ j) (h1 : b ^ (e * 2) % n = 1) (h3 : b ^ e % n ≠ 1) (h4 : b ^ e % n ≠ n - 1) : mrB n b = false := by
  obtain ⟨s, hs, hodd⟩ := oddp_spec (n - 1) (by omega)
  rw [← Bool.not_eq_true, mrB_iff h2 hs]
  generalize oddp (n - 1) = t at *
  -- e is t times a power of two
  have hle : j + 1 ≤ s ∧ e = t * 2 ^ (s - (j + 1)) := by
    have hx : e * 2 ^ (j + 1) = t * 2 ^ s := by rw [← hs, he, Nat.pow_succ, Nat.mul_assoc, Nat.mul_comm 2]
    have hjs : j + 1 ≤ s := by
      rcases Nat.lt_or_ge s (j + 1) with hlt | hge
      · exfalso
        have e1 : e * 2 ^ (j + 1 - s) = t := by
          have : e * 2 ^ (j + 1 - s) * 2 ^ s = t * 2 ^ s := by rw [Nat.mul_assoc, ← Nat.pow_add, show j + 1 - s + s = j + 1 by omega]; exact hx
          exact Nat.eq_of_mul_eq_mul_right (Nat.pow_pos (by decide)) this
        have e2 : e * 2 ^ (j + 1 - s) % 2 = 0 := by
          rw [show j + 1 - s = (j - s) + 1 by omega, Nat.pow_succ, ← Nat.mul_assoc]; omega
        omega
      · exact hge
    refine ⟨hjs, ?_⟩
    have : e * 2 ^ (j + 1) = t * 2 ^ (s - (j + 1)) * 2 ^ (j + 1) := by rw [Nat.mul_assoc, ← Nat.pow_add, show s - (j + 1) + (j + 1) = s by omega]; exact hx
    exact Nat.eq_of_mul_eq_mul_right (Nat.pow_pos (by decide)) this
  obtain ⟨hjs, hee⟩ := hle
  generalize s - (j + 1) = i0 at *
  rintro (h | ⟨i, hi, h⟩)
  · exact h3 (by rw [hee]; exact pow_one_of (by omega) h)
  · rcases Nat.lt_trichotomy i i0 with hlt | heq | hgt
    · apply h3
      have hsq : b ^ (t * 2 ^ (i + 1)) % n = 1 := by
        rw [Nat.pow_succ, ← Nat.mul_assoc, pow_two_mod, h]
        obtain ⟨m, rfl⟩ : ∃ m, n = m + 2 := ⟨n - 2, by omega⟩
        have e : (m + 2 - 1) * (m + 2 - 1) = 1 + (m + 2) * m := by
          rw [show m + 2 - 1 = m + 1 by omega, Nat.add_mul, Nat.mul_add, Nat.add_mul]; omega
        rw [e, Nat.add_mul_mod_self_left, Nat.mod_eq_of_lt (by omega)]
      rw [hee, show i0 = i + 1 + (i0 - (i + 1)) by omega, Nat.pow_add, ← Nat.mul_assoc]
      exact pow_one_of (by omega) hsq
    · subst heq; exact h4 (by rw [hee]; exact h)
    · have : b ^ (t * 2 ^ i) % n = 1 := by
        rw [show i = i0 + 1 + (i - (i0 + 1)) by omega, Nat.pow_add, ← Nat.mul_assoc]
        refine pow_one_of (by omega) ?_
        rw [Nat.pow_succ, ← Nat.mul_assoc, ← hee]; exact h1
      omega
end Go.Proofs.Ytdnofcpobpoehaa.Num

